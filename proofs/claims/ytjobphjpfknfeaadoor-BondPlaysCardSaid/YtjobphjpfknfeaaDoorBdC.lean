/- A chain, each bound to the one ahead: what Open, Bind, Good, Bad answer and leave, in plain lists. No dump; no condition. -/
import Derived.Test.YtjobphjpfknfeaaDoorBdR
namespace Go.Proofs.YtjobphjpfknfeaaDoor
set_option linter.unusedVariables false
open Classical

def chE (n : Nat) : List (Int × Int) := (List.range (n - 1)).map (fun i => (((i : Nat) : Int) + 2, (i : Int) + 1))
def chF (g x : Int) : Int := if x ≤ g then 3 else 1
def chX (a x : Int) : Int := if x < a then 3 else if x = a then 4 else 2
section
variable {n m : Nat} {a b g x : Int}
theorem mem_chE : (a, b) ∈ chE n ↔ 2 ≤ a ∧ a ≤ n ∧ b = a - 1 := by
  unfold chE
  rw [List.mem_map]
  constructor
  · rintro ⟨i, hi, e⟩
    have := List.mem_range.1 hi
    simp only [Prod.mk.injEq] at e
    omega
  · rintro ⟨h1, h2, rfl⟩
    exact ⟨(a - 2).toNat, List.mem_range.2 (by omega), by simp only [Prod.mk.injEq]; omega⟩
theorem chE_next (h : 1 ≤ n) : chE (n + 1) = chE n ++ [((n : Int) + 1, (n : Int))] := by
  unfold chE
  obtain ⟨m, rfl⟩ : ∃ m, n = m + 1 := ⟨n - 1, by omega⟩
  rw [Nat.add_sub_cancel, Nat.add_sub_cancel, List.range_succ, List.map_append]
  congr 1
theorem chE_in (h : m ≤ n) : ∀ p ∈ chE m, 1 ≤ p.2 ∧ p.2 ≤ (n : Int) := by
  rintro ⟨a, b⟩ hp
  have := mem_chE.1 hp
  show 1 ≤ b ∧ b ≤ (n : Int)
  omega
theorem ch_wt {f : Int → Int} (h : m ≤ n) : (upTo n f (chE m)).wt a b ↔ 2 ≤ a ∧ a ≤ m ∧ b = a - 1 ∧ f b ≠ 3 := by
  rw [upTo_wt (chE_in h), mem_chE]
  exact ⟨fun q => ⟨q.1.1, q.1.2.1, q.1.2.2, q.2⟩, fun q => ⟨⟨q.1, q.2.1, q.2.2.1⟩, q.2.2.2⟩⟩
theorem ch_down {f : Int → Int} (h : m ≤ n) : ∀ a b, (upTo n f (chE m)).wt a b → b < a := fun a b q => by have := (ch_wt h).1 q; omega
theorem ch_rch {f : Int → Int} (h : m ≤ n) : (upTo n f (chE m)).Rch a b ↔ 1 ≤ b ∧ b < a ∧ a ≤ m ∧ ∀ k, b ≤ k → k < a → f k ≠ 3 := by
  constructor
  · intro r
    induction r with
    | @one a c w =>
      have q := (ch_wt h).1 w
      refine ⟨by omega, by omega, by omega, fun k h1 h2 => ?_⟩
      have e : k = c := by omega
      rw [e]
      exact q.2.2.2
    | @more a c d w _ ih =>
      have q := (ch_wt h).1 w
      refine ⟨ih.1, by omega, by omega, fun k h1 h2 => ?_⟩
      by_cases e : k = c
      · rw [e]; exact q.2.2.2
      · exact ih.2.2.2 k h1 (by omega)
  · rintro ⟨h1, h2, h3, h4⟩
    have c := Rch.chain (s := upTo n f (chE m)) (lo := b) (hi := a) (fun k k1 k2 => (ch_wt h).2 ⟨by omega, by omega, rfl, h4 _ (by omega) (by omega)⟩) (a - b - 1).toNat a (by omega) (by omega)
    rw [show a - (((a - b - 1).toNat : Int) + 1) = b from by omega] at c
    exact c
theorem ch_open (h : n < 2000) : (upTo n (chF 0) (chE n)).open ((n : Int) + 1) = (0, upTo (n + 1) (chF 0) (chE n)) := upTo_open h (by unfold chF; rw [if_neg (by omega)])
theorem ch_bind (h : 1 ≤ n) : (upTo (n + 1) (chF 0) (chE n)).bind ((n : Int) + 1) n = (0, upTo (n + 1) (chF 0) (chE (n + 1))) := by
  rw [chE_next h]
  have hf : ∀ x : Int, 1 ≤ x → chF 0 x = 1 := fun x hx => by unfold chF; rw [if_neg (by omega)]
  refine upTo_bind (by omega) (by omega) (by omega) (by omega) (by omega) (hf _ (by omega)) (hf _ (by omega)) (fun w => ?_) (fun r => ?_)
  · have := (ch_wt (Nat.le_succ n)).1 w; omega
  · have := (ch_rch (Nat.le_succ n)).1 r; omega
theorem ch_waits (hx : g < x - 1) (hg : 0 ≤ g) (hn : x ≤ n) : (upTo n (chF g) (chE n)).waits x = [x - 1] :=
  rise_ext rise_rises (List.pairwise_singleton _ _) fun y => by
    rw [show (y ∈ (upTo n (chF g) (chE n)).waits x) = (y ∈ (upTo n (chF g) (chE n)).waits x) from rfl]
    have e : y ∈ (upTo n (chF g) (chE n)).waits x ↔ _ := mem_waits
    refine e.trans ?_
    rw [ch_wt (Nat.le_refl n), List.mem_singleton]
    exact ⟨fun q => q.2.2.1, fun q => ⟨by omega, hn, q, by subst q; unfold chF; rw [if_neg (by omega)]; decide⟩⟩
theorem ch_good (hg : 0 ≤ g) (hn : g + 2 ≤ n) : (upTo n (chF g) (chE n)).good (g + 1) = (([g + 2], 0), upTo n (chF (g + 1)) (chE n)) := by
  have h1 : (upTo n (chF g) (chE n)).st (g + 1) = 1 := by rw [st_in (by omega) (by omega)]; unfold chF; rw [if_neg (by omega)]
  have h2 : (upTo n (chF g) (chE n)).waits (g + 1) = [] := waits_nil.2 fun b w => by
    have q := (ch_wt (Nat.le_refl n)).1 w
    obtain ⟨_, _, rfl, q⟩ := q
    apply q
    unfold chF
    rw [if_pos (by omega)]
  unfold BdS.good
  rw [if_neg (by rw [upTo_has]; omega), if_neg (by rw [h1]; simp), if_neg (by rw [h2]; simp), upTo_put]
  have e1 : riseB (fun x => ((upTo n (chF g) (chE n)).st x = 1 ∨ (upTo n (chF g) (chE n)).st x = 2) ∧ (upTo n (chF g) (chE n)).waits x = [g + 1]) ((upTo n (chF g) (chE n)).ids.map Prod.fst) = [g + 2] := by
    refine rise_ext rise_rises (List.pairwise_singleton _ _) fun x => ?_
    rw [mem_rise, mem_upTo, List.mem_singleton]
    constructor
    · rintro ⟨_, _, q⟩
      have w : (upTo n (chF g) (chE n)).wt x (g + 1) := mem_waits.1 (by rw [q]; simp)
      have := (ch_wt (Nat.le_refl n)).1 w
      omega
    · rintro rfl
      refine ⟨by omega, .inl ?_, ?_⟩
      · rw [st_in (by omega) (by omega)]; unfold chF; rw [if_neg (by omega)]
      · rw [ch_waits (by omega) hg (by omega)]
        congr 1
        omega
  rw [e1]
  congr 1
  refine upTo_congr fun i _ _ => ?_
  unfold chF
  by_cases c : i = g + 1
  · rw [if_pos c, if_pos (by omega)]
  · rw [if_neg c]
    by_cases d : i ≤ g
    · rw [if_pos d, if_pos (by omega)]
    · rw [if_neg d, if_neg (by omega)]
theorem ch_bad (h1 : 1 ≤ a) (h2 : a ≤ n) : (upTo n (chF (a - 1)) (chE n)).bad a = ((among (fun x => a < x) n, 0), upTo n (chX a) (chE n)) := by
  have hs : (upTo n (chF (a - 1)) (chE n)).st a = 1 := by rw [st_in h1 h2]; unfold chF; rw [if_neg (by omega)]
  have hr : ∀ x, (upTo n (chF (a - 1)) (chE n)).Rch x a ↔ a < x ∧ x ≤ n := fun x => by
    rw [ch_rch (Nat.le_refl n)]
    exact ⟨fun q => ⟨q.2.1, q.2.2.1⟩, fun q => ⟨h1, q.1, q.2, fun k k1 k2 => by unfold chF; rw [if_neg (by omega)]; decide⟩⟩
  unfold BdS.bad
  rw [if_neg (by rw [upTo_has]; omega), if_neg (by rw [hs]; omega), upTo_doom, upTo_put]
  have e1 : ((upTo n (chF (a - 1)) (chE n)).dooms a).filter (fun x => decide (x ≠ a)) = among (fun x => a < x) n := by
    refine rise_ext (List.Pairwise.filter _ rise_rises) among_rises fun x => ?_
    rw [List.mem_filter, mem_among]
    unfold BdS.dooms
    rw [mem_rise, mem_upTo, hr, decide_eq_true_iff]
    constructor
    · rintro ⟨⟨_, _, q⟩, c⟩
      rcases q with q | q
      · exact absurd q c
      · exact ⟨by omega, by omega, q.1⟩
    · rintro ⟨q1, q2, q3⟩
      refine ⟨⟨⟨q1, q2⟩, ?_, .inr ⟨q3, q2⟩⟩, by omega⟩
      rw [st_in q1 q2]; unfold chF; rw [if_neg (by omega)]
  rw [e1]
  congr 1
  refine upTo_congr fun i i1 i2 => ?_
  unfold chX
  by_cases c : i = a
  · rw [if_pos c, if_neg (by omega), if_pos c]
  · rw [if_neg c]
    by_cases d : i < a
    · rw [if_pos d, if_neg (by rw [hr]; unfold chF; rw [if_pos (by omega)]; omega)]
      unfold chF
      rw [if_pos (by omega)]
    · rw [if_neg d, if_neg c, if_pos ⟨by unfold chF; rw [if_neg (by omega)], .inr ((hr i).2 ⟨by omega, i2⟩)⟩]
theorem ch_late (h1 : 1 ≤ a) (h2 : a < x) (h3 : x ≤ n) : (upTo n (chX a) (chE n)).good x = (([], 7), upTo n (chX a) (chE n)) := by
  unfold BdS.good
  rw [if_neg (by rw [upTo_has]; omega), if_pos (by rw [st_in (by omega) h3]; unfold chX; rw [if_neg (by omega), if_neg (by omega)]; decide)]
theorem ch_one (hx : 1 ≤ x) : chF 0 x = 1 := by unfold chF; rw [if_neg (by omega)]
theorem ch_waits1 : (upTo n (chF 0) (chE n)).waits 1 = [] := waits_nil.2 fun b w => by have := (ch_wt (Nat.le_refl n)).1 w; omega
theorem ch_self (h1 : 1 ≤ a) (h2 : a ≤ n) : (upTo n (chF 0) (chE n)).bind a a = (1, upTo n (chF 0) (chE n)) := by
  unfold BdS.bind
  rw [if_neg (by rw [upTo_has]; omega), if_pos rfl]
theorem ch_loop (h1 : 1 ≤ a) (h2 : a < b) (h3 : b ≤ n) : (upTo n (chF 0) (chE n)).bind a b = (17, upTo n (chF 0) (chE n)) := by
  refine upTo_loop h1 (by omega) (by omega) h3 (by omega) (ch_one h1) (ch_one (by omega)) (fun w => ?_) ((ch_rch (Nat.le_refl n)).2 ⟨h1, h2, h3, fun k k1 k2 => by rw [ch_one (by omega)]; decide⟩)
  have := (ch_wt (Nat.le_refl n)).1 w
  omega
theorem ch_near (h1 : 2 ≤ a) (h2 : a ≤ n) : (upTo n (chF 0) (chE n)).bind a (a - 1) = (0, upTo n (chF 0) (chE n)) :=
  upTo_bound (by omega) h2 (by omega) (by omega) (by omega) (ch_one (by omega)) ((ch_wt (Nat.le_refl n)).2 ⟨h1, h2, rfl, by rw [ch_one (by omega)]; decide⟩)
theorem ch_far (h1 : 1 ≤ b) (h2 : b + 1 < a) (h3 : a ≤ n) : (upTo n (chF 0) (chE n)).bind a b = (0, upTo n (chF 0) (chE n ++ [(a, b)])) := by
  refine upTo_bind (by omega) h3 h1 (by omega) (by omega) (ch_one (by omega)) (ch_one h1) (fun w => ?_) (fun r => ?_)
  · have := (ch_wt (Nat.le_refl n)).1 w; omega
  · have := (ch_rch (Nat.le_refl n)).1 r; omega
theorem ch_two (h1 : 1 ≤ b) (h2 : b + 1 < a) (h3 : a ≤ n) : (upTo n (chF 0) (chE n ++ [(a, b)])).waits a = [b, a - 1] :=
  rise_ext rise_rises (by simp; omega) fun y => by
    have e : y ∈ (upTo n (chF 0) (chE n ++ [(a, b)])).waits a ↔ _ := mem_waits
    refine e.trans ?_
    rw [upTo_wt (fun p hp => by
      rcases List.mem_append.1 hp with hp | hp
      · exact chE_in (Nat.le_refl n) p hp
      · rw [List.mem_singleton] at hp; subst hp; exact ⟨h1, by show b ≤ (n : Int); omega⟩), List.mem_append, mem_chE]
    simp only [List.mem_cons, List.not_mem_nil, or_false, Prod.mk.injEq, true_and]
    constructor
    · rintro ⟨q | q, _⟩
      · exact .inr q.2.2
      · exact .inl q
    · rintro (q | q)
      · exact ⟨.inr q, by rw [ch_one (by omega)]; decide⟩
      · exact ⟨.inl ⟨by omega, h3, q⟩, by rw [ch_one (by omega)]; decide⟩
end
end Go.Proofs.YtjobphjpfknfeaaDoor
