/- Bonds to lesser ones alone: all may end well from the least on; whom one that ends badly dooms. In plain lists. No dump; no condition. -/
import Derived.Test.YtjobphjpfknfeaaDoorBdC
namespace Go.Proofs.YtjobphjpfknfeaaDoor
set_option linter.unusedVariables false
open Classical
/-- Each is bound to lesser ones alone. -/
def Less (n : Nat) (E : List (Int × Int)) : Prop := ∀ p ∈ E, 1 ≤ p.2 ∧ p.2 < p.1 ∧ p.1 ≤ (n : Int)
section
variable {n : Nat} {a b x i : Int} {E : List (Int × Int)} {f : Int → Int}
theorem Less.up (h : Less n E) : ∀ p ∈ E, 1 ≤ p.2 ∧ p.2 ≤ (n : Int) := fun p hp => by have := h p hp; omega
theorem Less.down (h : Less n E) : ∀ a b, (upTo n f E).wt a b → b < a := fun a b w => by
  have := ((upTo_wt h.up).1 w).1
  exact (h _ this).2.1
/-- One more bond. -/
theorem less_bind (h : Less n E) (h1 : 1 ≤ b) (h2 : b < a) (h3 : a ≤ n) : ∃ E', (upTo n (chF 0) E).bind a b = (0, upTo n (chF 0) E') ∧ Less n E' ∧ ∀ p, p ∈ E' ↔ p ∈ E ∨ p = (a, b) := by
  by_cases w : (upTo n (chF 0) E).wt a b
  · refine ⟨E, upTo_bound (by omega) h3 h1 (by omega) (by omega) (ch_one (by omega)) w, h, fun p => ⟨.inl, fun q => ?_⟩⟩
    rcases q with q | rfl
    · exact q
    · exact ((upTo_wt h.up).1 w).1
  · refine ⟨E ++ [(a, b)], upTo_bind (by omega) h3 h1 (by omega) (by omega) (ch_one (by omega)) (ch_one h1) w (fun r => ?_), fun p hp => ?_, fun p => by simp⟩
    · have := Rch.down h.down r; omega
    · rcases List.mem_append.1 hp with hp | hp
      · exact h p hp
      · rw [List.mem_singleton] at hp; subst hp; exact ⟨h1, h2, h3⟩
theorem less_waits (h : Less n E) : (upTo n (chF (i - 1)) E).waits x = among (fun b => (x, b) ∈ E ∧ i ≤ b) n :=
  rise_ext rise_rises among_rises fun y => by
    have e : y ∈ (upTo n (chF (i - 1)) E).waits x ↔ _ := mem_waits
    refine e.trans ?_
    rw [upTo_wt h.up, mem_among]
    have hf : chF (i - 1) y ≠ 3 ↔ i ≤ y := by
      unfold chF
      by_cases c : y ≤ i - 1
      · rw [if_pos c]; simp; omega
      · rw [if_neg c]; simp; omega
    rw [hf]
    exact ⟨fun q => ⟨(h.up _ q.1).1, (h.up _ q.1).2, q⟩, fun q => q.2.2⟩
theorem less_free (h : Less n E) : (upTo n (chF (i - 1)) E).waits i = [] := by
  rw [less_waits h, List.eq_nil_iff_forall_not_mem]
  intro y hy
  have q := (mem_among.1 hy).2.2
  have := h _ q.1
  have h2 : y < i := this.2.1
  omega
/-- The least that has not ended ends well: free are those that wait for it and for none that is greater. -/
theorem less_good (h : Less n E) (h1 : 1 ≤ i) (h2 : i ≤ n) : (upTo n (chF (i - 1)) E).good i = ((among (fun k => (k, i) ∈ E ∧ ∀ j, i < j → (k, j) ∉ E) n, 0), upTo n (chF i) E) := by
  have hs : (upTo n (chF (i - 1)) E).st i = 1 := by rw [st_in h1 h2]; unfold chF; rw [if_neg (by omega)]
  unfold BdS.good
  rw [if_neg (by rw [upTo_has]; omega), if_neg (by rw [hs]; simp), if_neg (by rw [less_free h]; simp), upTo_put, rise_among]
  have e1 : among (fun x => ((upTo n (chF (i - 1)) E).st x = 1 ∨ (upTo n (chF (i - 1)) E).st x = 2) ∧ (upTo n (chF (i - 1)) E).waits x = [i]) n = among (fun k => (k, i) ∈ E ∧ ∀ j, i < j → (k, j) ∉ E) n := by
    refine among_congr fun x x1 x2 => ?_
    rw [less_waits h]
    constructor
    · rintro ⟨_, q⟩
      have m : i ∈ among (fun b => (x, b) ∈ E ∧ i ≤ b) n := by rw [q]; simp
      refine ⟨(mem_among.1 m).2.2.1, fun j hj hm => ?_⟩
      have m2 : j ∈ among (fun b => (x, b) ∈ E ∧ i ≤ b) n := mem_among.2 ⟨(h.up _ hm).1, (h.up _ hm).2, hm, by omega⟩
      rw [q, List.mem_singleton] at m2
      omega
    · rintro ⟨q1, q2⟩
      refine ⟨.inl ?_, ?_⟩
      · have := (h _ q1).2.1
        have : i < x := this
        rw [st_in x1 x2]; unfold chF; rw [if_neg (by omega)]
      · refine rise_ext among_rises (List.pairwise_singleton _ _) fun y => ?_
        rw [mem_among, List.mem_singleton]
        constructor
        · rintro ⟨_, _, m, c⟩
          by_cases e : y = i
          · exact e
          · exact absurd m (q2 y (by omega))
        · rintro rfl
          exact ⟨h1, h2, q1, Int.le_refl _⟩
  rw [e1]
  congr 1
  refine upTo_congr fun k _ _ => ?_
  unfold chF
  by_cases c : k = i
  · rw [if_pos c, if_pos (by omega)]
  · rw [if_neg c]
    by_cases d : k ≤ i - 1
    · rw [if_pos d, if_pos (by omega)]
    · rw [if_neg d, if_neg (by omega)]
/-- Who is hit by the end of one. -/
def Hit (E : List (Int × Int)) (n : Nat) (a x : Int) : Prop := x = a ∨ (upTo n (chF 0) E).Rch x a
theorem hit_low (h : Less n E) (hx : x < a) : ¬ Hit E n a x := by
  rintro (e | r)
  · omega
  · have := Rch.down h.down r; omega
theorem hit_next (h : Less n E) (hx : a < x) : Hit E n a x ↔ ∃ k, (x, k) ∈ E ∧ Hit E n a k := by
  have hw : ∀ k, (upTo n (chF 0) E).wt x k ↔ (x, k) ∈ E := fun k => by
    rw [upTo_wt h.up]
    exact ⟨fun q => q.1, fun q => ⟨q, by rw [ch_one (h.up _ q).1]; decide⟩⟩
  constructor
  · rintro (e | r)
    · omega
    · obtain ⟨c, w, q⟩ := Rch.first r
      exact ⟨c, (hw c).1 w, q⟩
  · rintro ⟨k, hk, e | r⟩
    · exact .inr (e ▸ .one ((hw k).2 hk))
    · exact .inr (.more ((hw k).2 hk) r)
/-- One ends badly where all are open. -/
theorem less_bad (h : Less n E) (h1 : 1 ≤ a) (h2 : a ≤ n) : (upTo n (chF 0) E).bad a = ((among (fun x => a < x ∧ Hit E n a x) n, 0), upTo n (fun x => if x = a then 4 else if Hit E n a x then 2 else 1) E) := by
  have hs : (upTo n (chF 0) E).st a = 1 := by rw [st_in h1 h2, ch_one h1]
  unfold BdS.bad
  rw [if_neg (by rw [upTo_has]; omega), if_neg (by rw [hs]; omega), upTo_doom, upTo_put]
  have e1 : ((upTo n (chF 0) E).dooms a).filter (fun x => decide (x ≠ a)) = among (fun x => a < x ∧ Hit E n a x) n := by
    refine rise_ext (List.Pairwise.filter _ rise_rises) among_rises fun x => ?_
    rw [List.mem_filter, mem_among]
    unfold BdS.dooms
    rw [mem_rise, mem_upTo, decide_eq_true_iff]
    constructor
    · rintro ⟨⟨x1, _, q⟩, c⟩
      refine ⟨x1.1, x1.2, ?_, q⟩
      rcases q with q | q
      · exact absurd q c
      · exact Rch.down h.down q
    · rintro ⟨q1, q2, q3, q4⟩
      exact ⟨⟨⟨q1, q2⟩, by rw [st_in q1 q2, ch_one q1], q4⟩, by omega⟩
  rw [e1]
  congr 1
  refine upTo_congr fun k k1 k2 => ?_
  by_cases c : k = a
  · rw [if_pos c, if_pos c]
  · rw [if_neg c, if_neg c, ch_one k1]
    by_cases d : Hit E n a k
    · rw [if_pos d, if_pos ⟨rfl, d⟩]
    · rw [if_neg d, if_neg (fun q => d q.2)]
end
end Go.Proofs.YtjobphjpfknfeaaDoor
