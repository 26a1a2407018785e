/- Who waits for whom, in plain lists (ids with their states, bonds), and what each call of layer 16 answers and leaves; rising lists. No dump; no condition. -/
import Derived.Test.YtjobphjpfknfeaaDoorRows
namespace Go.Proofs.YtjobphjpfknfeaaDoor
set_option linter.unusedVariables false
open Classical

structure BdS where
  ids : List (Int × Int)
  ed : List (Int × Int)
def BdS.new : BdS := ⟨[], []⟩
def BdS.st (s : BdS) (id : Int) : Int := match s.ids.find? (fun p => p.1 == id) with
  | some p => p.2
  | none => 0
def BdS.has (s : BdS) (id : Int) : Prop := id ∈ s.ids.map Prod.fst
/-- One waits for the other, directly. -/
def BdS.wt (s : BdS) (a b : Int) : Prop := (a, b) ∈ s.ed ∧ s.st b ≠ 3
/-- .. or by others. -/
inductive BdS.Rch (s : BdS) : Int → Int → Prop
  | one {a b : Int} : s.wt a b → BdS.Rch s a b
  | more {a b c : Int} : s.wt a b → BdS.Rch s b c → BdS.Rch s a c
/-- A rising list with a number. -/
def putB : List Int → Int → List Int
  | [], n => [n]
  | x :: l, n => if n < x then n :: x :: l else if n = x then x :: l else x :: putB l n
noncomputable def riseB (P : Int → Prop) (l : List Int) : List Int := (l.filter (fun x => decide (P x))).foldl putB []
noncomputable def BdS.waits (s : BdS) (id : Int) : List Int := riseB (fun b => s.wt id b) (s.ed.map Prod.snd)
noncomputable def BdS.dooms (s : BdS) (id : Int) : List Int := riseB (fun x => s.st x = 1 ∧ (x = id ∨ s.Rch x id)) (s.ids.map Prod.fst)
noncomputable def BdS.doom (s : BdS) (id : Int) : BdS := { s with ids := s.ids.map (fun p => if p.2 = 1 ∧ (p.1 = id ∨ s.Rch p.1 id) then (p.1, 2) else p) }
def BdS.put (s : BdS) (id v : Int) : BdS := { s with ids := s.ids.map (fun p => if p.1 = id then (p.1, v) else p) }
noncomputable def BdS.open (s : BdS) (id : Int) : Int × BdS :=
  if id < 1 then (1, s) else if s.has id then (12, s) else if 2000 ≤ s.ids.length then (65, s) else (0, { s with ids := s.ids ++ [(id, 1)] })
noncomputable def BdS.bind (s : BdS) (id to : Int) : Int × BdS :=
  if ¬ s.has id ∨ ¬ s.has to then (11, s) else if id = to then (1, s) else if s.st id = 3 ∨ s.st id = 4 then (7, s)
  else if s.st to = 3 ∨ s.wt id to then (0, s) else if s.st to = 4 then (0, s.doom id) else if s.Rch to id then (17, s)
  else (0, { (if s.st to = 2 then s.doom id else s) with ed := s.ed ++ [(id, to)] })
noncomputable def BdS.good (s : BdS) (id : Int) : (List Int × Int) × BdS :=
  if ¬ s.has id then (([], 11), s) else if s.st id ≠ 1 then (([], 7), s) else if s.waits id ≠ [] then (([], 18), s)
  else ((riseB (fun x => (s.st x = 1 ∨ s.st x = 2) ∧ s.waits x = [id]) (s.ids.map Prod.fst), 0), s.put id 3)
noncomputable def BdS.bad (s : BdS) (id : Int) : (List Int × Int) × BdS :=
  if ¬ s.has id then (([], 11), s) else if s.st id = 3 ∨ s.st id = 4 then (([], 7), s)
  else (((s.dooms id).filter (fun x => decide (x ≠ id)), 0), (s.doom id).put id 4)
section
variable {s : BdS} {P R : Int → Prop} {l r : List Int} {a b c n : Int}
theorem mem_putB : ∀ {l : List Int} {n x : Int}, x ∈ putB l n ↔ x = n ∨ x ∈ l
  | [], n, x => by simp [putB]
  | y :: l, n, x => by
    unfold putB
    by_cases h : n < y
    · rw [if_pos h]; simp
    · rw [if_neg h]
      by_cases e : n = y
      · rw [if_pos e]; subst e; simp
      · rw [if_neg e, List.mem_cons, mem_putB, List.mem_cons]
        exact ⟨fun q => by rcases q with q | q | q; exact .inr (.inl q); exact .inl q; exact .inr (.inr q), fun q => by rcases q with q | q | q; exact .inr (.inl q); exact .inl q; exact .inr (.inr q)⟩
theorem putB_rises : ∀ {l : List Int} {n : Int}, l.Pairwise (· < ·) → (putB l n).Pairwise (· < ·)
  | [], n, _ => List.pairwise_singleton _ _
  | y :: l, n, h => by
    have h' := List.pairwise_cons.1 h
    unfold putB
    by_cases q : n < y
    · rw [if_pos q]
      refine List.pairwise_cons.2 ⟨fun x hx => ?_, h⟩
      rcases List.mem_cons.1 hx with rfl | hx
      · exact q
      · have := h'.1 x hx; omega
    · rw [if_neg q]
      by_cases e : n = y
      · rw [if_pos e]; exact h
      · rw [if_neg e]
        refine List.pairwise_cons.2 ⟨fun x hx => ?_, putB_rises h'.2⟩
        rcases mem_putB.1 hx with rfl | hx
        · omega
        · exact h'.1 x hx
theorem fold_putB : ∀ (r : List Int) {l : List Int}, l.Pairwise (· < ·) → (r.foldl putB l).Pairwise (· < ·) ∧ ∀ x, x ∈ r.foldl putB l ↔ x ∈ r ∨ x ∈ l
  | [], l, h => ⟨h, fun x => by simp⟩
  | y :: r, l, h => by
    obtain ⟨h1, h2⟩ := fold_putB r (putB_rises (n := y) h)
    refine ⟨h1, fun x => ?_⟩
    rw [List.foldl_cons, h2, mem_putB, List.mem_cons]
    exact ⟨fun q => by rcases q with q | q | q; exact .inl (.inr q); exact .inl (.inl q); exact .inr q, fun q => by rcases q with (q | q) | q; exact .inr (.inl q); exact .inl q; exact .inr (.inr q)⟩
theorem rise_rises : (riseB P l).Pairwise (· < ·) := (fold_putB _ List.Pairwise.nil).1
theorem mem_rise {x : Int} : x ∈ riseB P l ↔ x ∈ l ∧ P x := by
  unfold riseB
  rw [(fold_putB _ List.Pairwise.nil).2, List.mem_filter]
  simp
/-- Two rising lists of the same numbers are one. -/
theorem rise_ext : ∀ {l r : List Int}, l.Pairwise (· < ·) → r.Pairwise (· < ·) → (∀ x, x ∈ l ↔ x ∈ r) → l = r
  | [], [], _, _, _ => rfl
  | [], y :: r, _, _, h => by have := (h y).2 (List.mem_cons_self ..); cases this
  | x :: l, [], _, _, h => by have := (h x).1 (List.mem_cons_self ..); cases this
  | x :: l, y :: r, h1, h2, h => by
    have p1 := List.pairwise_cons.1 h1
    have p2 := List.pairwise_cons.1 h2
    have e : x = y := by
      rcases List.mem_cons.1 ((h x).1 (List.mem_cons_self ..)) with q | q
      · exact q
      · rcases List.mem_cons.1 ((h y).2 (List.mem_cons_self ..)) with q2 | q2
        · exact q2.symm
        · have := p2.1 x q; have := p1.1 y q2; omega
    subst e
    rw [rise_ext p1.2 p2.2 fun z => ⟨fun hz => ?_, fun hz => ?_⟩]
    · rcases List.mem_cons.1 ((h z).1 (List.mem_cons_of_mem _ hz)) with q | q
      · have := p1.1 z hz; omega
      · exact q
    · rcases List.mem_cons.1 ((h z).2 (List.mem_cons_of_mem _ hz)) with q | q
      · have := p2.1 z hz; omega
      · exact q
theorem mem_waits : b ∈ s.waits a ↔ s.wt a b := by
  unfold BdS.waits
  rw [mem_rise]
  exact ⟨fun h => h.2, fun h => ⟨List.mem_map.2 ⟨_, h.1, rfl⟩, h⟩⟩
theorem waits_nil : s.waits a = [] ↔ ∀ b, ¬ s.wt a b := by
  rw [List.eq_nil_iff_forall_not_mem]
  exact ⟨fun h b q => h b (mem_waits.2 q), fun h b q => h b (mem_waits.1 q)⟩
theorem Rch.trans (h : s.Rch a b) (k : s.Rch b c) : s.Rch a c := by
  induction h with
  | one w => exact .more w k
  | more w _ ih => exact .more w (ih k)
/-- Where everyone waits for lesser ones alone, so it is by others. -/
theorem Rch.down (hd : ∀ a b, s.wt a b → b < a) (h : s.Rch a b) : b < a := by
  induction h with
  | one w => exact hd _ _ w
  | more w _ ih => have := hd _ _ w; omega
/-- A chain. -/
theorem Rch.chain {lo hi : Int} (h : ∀ k, lo < k → k ≤ hi → s.wt k (k - 1)) : ∀ (m : Nat) (i : Int), lo ≤ i - (m + 1) → i ≤ hi → s.Rch i (i - (m + 1))
  | 0, i, h1, h2 => by
    have := h i (by omega) h2
    exact .one (by simpa using this)
  | m + 1, i, h1, h2 => by
    have w := h i (by omega) h2
    have k := Rch.chain h m (i - 1) (by omega) (by omega)
    have e : i - 1 - ((m : Int) + 1) = i - (((m + 1 : Nat) : Int) + 1) := by omega
    rw [e] at k
    exact .more w k
/-- By whom one waits first. -/
theorem Rch.first (h : s.Rch a b) : ∃ c, s.wt a c ∧ (c = b ∨ s.Rch c b) := by
  cases h with
  | one w => exact ⟨_, w, .inl rfl⟩
  | more w k => exact ⟨_, w, .inr k⟩
theorem Rch.last (h : s.Rch a b) : ∃ c, s.wt c b ∧ (c = a ∨ s.Rch a c) := by
  induction h with
  | one w => exact ⟨_, w, .inl rfl⟩
  | more w k ih =>
    obtain ⟨d, hd, q⟩ := ih
    rcases q with rfl | q
    · exact ⟨_, hd, .inr (.one w)⟩
    · exact ⟨_, hd, .inr (.more w q)⟩
/-- What leaves the bonds and makes nobody good, or not good, leaves who waits for whom. -/
theorem Rch.same {s' : BdS} (he : ∀ a b, s.wt a b → s'.wt a b) (h : s.Rch a b) : s'.Rch a b := by
  induction h with
  | one w => exact .one (he _ _ w)
  | more w _ ih => exact .more (he _ _ w) ih
end
end Go.Proofs.YtjobphjpfknfeaaDoor
