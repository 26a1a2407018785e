/- Who waits for whom among the ids 1 to n, their states a function: what each call of layer 16 leaves of it. No dump; no condition. -/
import Derived.Test.YtjobphjpfknfeaaDoorBdI
namespace Go.Proofs.YtjobphjpfknfeaaDoor
set_option linter.unusedVariables false
open Classical

/-- The ids 1 to n, opened in this order. -/
def upTo (n : Nat) (f : Int → Int) (E : List (Int × Int)) : BdS := ⟨(List.range n).map (fun i => (((i : Nat) : Int) + 1, f ((i : Int) + 1))), E⟩
section
variable {n : Nat} {f g : Int → Int} {E : List (Int × Int)} {id to x v : Int} {P R : Int → Prop}
theorem upTo_ids : (upTo n f E).ids.map Prod.fst = (List.range n).map (fun i => ((i : Nat) : Int) + 1) := by
  unfold upTo; simp
theorem mem_upTo : id ∈ (upTo n f E).ids.map Prod.fst ↔ 1 ≤ id ∧ id ≤ n := by
  rw [upTo_ids, List.mem_map]
  constructor
  · rintro ⟨i, hi, rfl⟩
    have := List.mem_range.1 hi
    omega
  · intro h
    exact ⟨(id - 1).toNat, List.mem_range.2 (by omega), by omega⟩
theorem upTo_has : (upTo n f E).has id ↔ 1 ≤ id ∧ id ≤ n := mem_upTo
theorem find_range (f : Int → Int) : ∀ (n : Nat) (id : Int), ((List.range n).map (fun i => (((i : Nat) : Int) + 1, f ((i : Int) + 1)))).find? (fun p => p.1 == id) = if 1 ≤ id ∧ id ≤ n then some (id, f id) else none
  | 0, id => by rw [if_neg (by omega)]; rfl
  | n + 1, id => by
    rw [List.range_succ, List.map_append, List.find?_append, find_range f n id]
    by_cases h : 1 ≤ id ∧ id ≤ n
    · rw [if_pos h, if_pos (by omega)]; rfl
    · rw [if_neg h]
      by_cases e : id = (n : Int) + 1
      · subst e
        rw [if_pos (by omega)]
        simp
      · rw [if_neg (by omega)]
        have : (((n : Int) + 1) == id) = false := by simp; omega
        simp [this]
theorem upTo_st : (upTo n f E).st id = if 1 ≤ id ∧ id ≤ n then f id else 0 := by
  unfold BdS.st
  have : (upTo n f E).ids.find? (fun p => p.1 == id) = _ := find_range f n id
  rw [this]
  by_cases h : 1 ≤ id ∧ id ≤ n
  · rw [if_pos h, if_pos h]
  · rw [if_neg h, if_neg h]
theorem st_in (h1 : 1 ≤ id) (h2 : id ≤ n) : (upTo n f E).st id = f id := by rw [upTo_st, if_pos ⟨h1, h2⟩]
theorem upTo_congr (h : ∀ i : Int, 1 ≤ i → i ≤ n → f i = g i) : upTo n f E = upTo n g E := by
  unfold upTo
  congr 1
  refine List.map_congr_left fun i hi => ?_
  have := List.mem_range.1 hi
  rw [h _ (by omega) (by omega)]
theorem upTo_open (h : n < 2000) (hf : f ((n : Int) + 1) = 1) : (upTo n f E).open ((n : Int) + 1) = (0, upTo (n + 1) f E) := by
  unfold BdS.open
  rw [if_neg (by omega), if_neg (by rw [upTo_has]; omega), if_neg (by unfold upTo; simp; omega)]
  unfold upTo
  rw [List.range_succ, List.map_append]
  simp [hf]
theorem upTo_map (F : Int → Int → Int) : ((upTo n f E).ids.map (fun p => (p.1, F p.1 p.2))) = (upTo n (fun x => F x (f x)) E).ids := by
  unfold upTo; simp
theorem upTo_put : (upTo n f E).put id v = upTo n (fun x => if x = id then v else f x) E := by
  have : (upTo n f E).put id v = ⟨(upTo n f E).ids.map (fun p => (p.1, (fun a b => if a = id then v else b) p.1 p.2)), E⟩ := by
    unfold BdS.put
    congr 1
    refine List.map_congr_left fun p _ => ?_
    by_cases h : p.1 = id <;> simp [h]
  rw [this, upTo_map (fun a b => if a = id then v else b)]
  rfl
theorem upTo_doom : (upTo n f E).doom id = upTo n (fun x => if f x = 1 ∧ (x = id ∨ (upTo n f E).Rch x id) then 2 else f x) E := by
  have : (upTo n f E).doom id = ⟨(upTo n f E).ids.map (fun p => (p.1, (fun a b => if b = 1 ∧ (a = id ∨ (upTo n f E).Rch a id) then 2 else b) p.1 p.2)), E⟩ := by
    unfold BdS.doom
    congr 1
    refine List.map_congr_left fun p _ => ?_
    by_cases h : p.2 = 1 ∧ (p.1 = id ∨ (upTo n f E).Rch p.1 id) <;> simp [h]
  rw [this, upTo_map (fun a b => if b = 1 ∧ (a = id ∨ (upTo n f E).Rch a id) then 2 else b)]
  rfl
/-- Everyone is open: a bond between two that are none yet, and closes no loop. -/
theorem upTo_bind (h1 : 1 ≤ id) (h2 : id ≤ n) (h3 : 1 ≤ to) (h4 : to ≤ n) (hne : id ≠ to) (ho : f id = 1) (hto : f to = 1) (hw : ¬ (upTo n f E).wt id to) (hl : ¬ (upTo n f E).Rch to id) : (upTo n f E).bind id to = (0, upTo n f (E ++ [(id, to)])) := by
  unfold BdS.bind
  rw [if_neg (by rw [upTo_has, upTo_has]; omega), if_neg hne, if_neg (by rw [st_in h1 h2]; omega), if_neg (by rw [st_in h3 h4]; exact fun e => by rcases e with e | e; omega; exact hw e), if_neg (by rw [st_in h3 h4]; omega), if_neg hl, if_neg (by rw [st_in h3 h4]; omega)]
  rfl
theorem upTo_bound (h1 : 1 ≤ id) (h2 : id ≤ n) (h3 : 1 ≤ to) (h4 : to ≤ n) (hne : id ≠ to) (ho : f id = 1) (hw : (upTo n f E).wt id to) : (upTo n f E).bind id to = (0, upTo n f E) := by
  unfold BdS.bind
  rw [if_neg (by rw [upTo_has, upTo_has]; omega), if_neg hne, if_neg (by rw [st_in h1 h2]; omega), if_pos (.inr hw)]
theorem upTo_loop (h1 : 1 ≤ id) (h2 : id ≤ n) (h3 : 1 ≤ to) (h4 : to ≤ n) (hne : id ≠ to) (ho : f id = 1) (hto : f to = 1) (hw : ¬ (upTo n f E).wt id to) (hl : (upTo n f E).Rch to id) : (upTo n f E).bind id to = (17, upTo n f E) := by
  unfold BdS.bind
  rw [if_neg (by rw [upTo_has, upTo_has]; omega), if_neg hne, if_neg (by rw [st_in h1 h2]; omega), if_neg (by rw [st_in h3 h4]; exact fun e => by rcases e with e | e; omega; exact hw e), if_neg (by rw [st_in h3 h4]; omega), if_pos hl]
theorem upTo_wt (hE : ∀ p ∈ E, 1 ≤ p.2 ∧ p.2 ≤ n) : (upTo n f E).wt id to ↔ (id, to) ∈ E ∧ f to ≠ 3 := by
  unfold BdS.wt
  constructor
  · rintro ⟨h, q⟩
    have := hE _ h
    rw [st_in this.1 this.2] at q
    exact ⟨h, q⟩
  · rintro ⟨h, q⟩
    have := hE _ h
    exact ⟨h, by rw [st_in this.1 this.2]; exact q⟩
/-- Those of 1 to n for which it holds, rising. -/
noncomputable def among (P : Int → Prop) (n : Nat) : List Int := ((List.range n).map (fun i => ((i : Nat) : Int) + 1)).filter (fun x => decide (P x))
theorem mem_among : x ∈ among P n ↔ 1 ≤ x ∧ x ≤ n ∧ P x := by
  unfold among
  rw [List.mem_filter, List.mem_map]
  constructor
  · rintro ⟨⟨i, hi, rfl⟩, h⟩
    have := List.mem_range.1 hi
    exact ⟨by omega, by omega, of_decide_eq_true h⟩
  · rintro ⟨h1, h2, h3⟩
    exact ⟨⟨(x - 1).toNat, List.mem_range.2 (by omega), by omega⟩, decide_eq_true h3⟩
theorem among_rises : (among P n).Pairwise (· < ·) := by
  unfold among
  refine List.Pairwise.filter _ ?_
  rw [List.pairwise_map]
  exact List.Pairwise.imp (fun h => by omega) List.pairwise_lt_range
theorem rise_among : riseB P ((upTo n f E).ids.map Prod.fst) = among P n :=
  rise_ext rise_rises among_rises fun x => by
    rw [mem_rise, mem_upTo, mem_among]
    exact ⟨fun h => ⟨h.1.1, h.1.2, h.2⟩, fun h => ⟨⟨h.1, h.2.1⟩, h.2.2⟩⟩
theorem among_succ : among P (n + 1) = among P n ++ (if P ((n : Int) + 1) then [(n : Int) + 1] else []) := by
  unfold among
  rw [List.range_succ, List.map_append, List.filter_append]
  by_cases h : P ((n : Int) + 1) <;> simp [h]
theorem among_congr (h : ∀ x : Int, 1 ≤ x → x ≤ n → (P x ↔ R x)) : among P n = among R n :=
  rise_ext among_rises among_rises fun x => by
    rw [mem_among, mem_among]
    exact ⟨fun q => ⟨q.1, q.2.1, (h x q.1 q.2.1).1 q.2.2⟩, fun q => ⟨q.1, q.2.1, (h x q.1 q.2.1).2 q.2.2⟩⟩
end
end Go.Proofs.YtjobphjpfknfeaaDoor
