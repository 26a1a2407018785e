/- One for whom all wait, and one who waits for all, in plain lists. No dump; no condition. -/
import Derived.Test.YtjobphjpfknfeaaDoorBdD
namespace Go.Proofs.YtjobphjpfknfeaaDoor
set_option linter.unusedVariables false
open Classical
/-- 1 waits for each of 2 to m + 1. -/
def fanE (m : Nat) : List (Int × Int) := (List.range m).map (fun i => ((1 : Int), ((i : Nat) : Int) + 2))
/-- Those of the list are good. -/
def fanF (L : List Int) (x : Int) : Int := if x ∈ L then 3 else 1
section
variable {n m : Nat} {a b k x : Int} {L : List Int} {P : Int → Prop} {f : Int → Int}
theorem less_out {l : List Int} (h : l.Pairwise (· < ·)) (hk : k ∈ l) : (l.filter (fun x => decide (x ≠ k))).length + 1 = l.length := by
  induction l with
  | nil => cases hk
  | cons y l ih =>
    have h' := List.pairwise_cons.1 h
    by_cases e : y = k
    · subst e
      rw [List.filter_cons_of_neg (by simp), List.filter_eq_self.2 (fun z hz => decide_eq_true (by have := h'.1 z hz; omega))]
      rfl
    · rw [List.filter_cons_of_pos (by simpa using e), List.length_cons, List.length_cons, ih h'.2 ((List.mem_cons.1 hk).resolve_left (fun q => e q.symm))]
theorem among_out (h1 : 1 ≤ k) (h2 : k ≤ n) (hp : P k) : (among (fun x => P x ∧ x ≠ k) n).length + 1 = (among P n).length := by
  rw [← less_out among_rises (mem_among.2 ⟨h1, h2, hp⟩)]
  congr 2
  refine rise_ext among_rises (List.Pairwise.filter _ among_rises) fun x => ?_
  rw [List.mem_filter, mem_among, mem_among, decide_eq_true_iff]
  exact ⟨fun q => ⟨⟨q.1, q.2.1, q.2.2.1⟩, q.2.2.2⟩, fun q => ⟨q.1.1, q.1.2.1, q.1.2.2, q.2⟩⟩
theorem mem_fanE : (a, b) ∈ fanE m ↔ a = 1 ∧ 2 ≤ b ∧ b ≤ (m : Int) + 1 := by
  unfold fanE
  rw [List.mem_map]
  constructor
  · rintro ⟨i, hi, e⟩
    have := List.mem_range.1 hi
    simp only [Prod.mk.injEq] at e
    omega
  · rintro ⟨rfl, h1, h2⟩
    exact ⟨(b - 2).toNat, List.mem_range.2 (by omega), by show ((1 : Int), (((b - 2).toNat : Nat) : Int) + 2) = (1, b); rw [show (((b - 2).toNat : Nat) : Int) + 2 = b by omega]⟩
theorem fan_wt (h : m ≤ n) : (upTo (n + 1) f (fanE m)).wt a b ↔ a = 1 ∧ 2 ≤ b ∧ b ≤ (m : Int) + 1 ∧ f b ≠ 3 := by
  rw [upTo_wt (fun p hp => by
    obtain ⟨c, d⟩ := p
    have := mem_fanE.1 hp
    show 1 ≤ d ∧ d ≤ ((n + 1 : Nat) : Int)
    omega), mem_fanE]
  exact ⟨fun q => ⟨q.1.1, q.1.2.1, q.1.2.2, q.2⟩, fun q => ⟨⟨q.1, q.2.1, q.2.2.1⟩, q.2.2.2⟩⟩
theorem fan_bind (h : m < n) : (upTo (n + 1) (fanF []) (fanE m)).bind 1 ((m : Int) + 2) = (0, upTo (n + 1) (fanF []) (fanE (m + 1))) := by
  have e : fanE (m + 1) = fanE m ++ [(1, (m : Int) + 2)] := by unfold fanE; rw [List.range_succ, List.map_append]; rfl
  rw [e]
  have hf : ∀ x, fanF [] x = 1 := fun x => by unfold fanF; rw [if_neg (by simp)]
  refine upTo_bind (by omega) (by omega) (by omega) (by omega) (by omega) (hf _) (hf _) (fun w => ?_) (fun r => ?_)
  · have := (fan_wt (by omega)).1 w; omega
  · obtain ⟨c, w, _⟩ := Rch.first r
    have := (fan_wt (by omega)).1 w
    omega
theorem fan_waits1 : (upTo (n + 1) (fanF L) (fanE n)).waits 1 = among (fun x => 2 ≤ x ∧ x ∉ L) (n + 1) :=
  rise_ext rise_rises among_rises fun y => by
    have e : y ∈ (upTo (n + 1) (fanF L) (fanE n)).waits 1 ↔ _ := mem_waits
    refine e.trans ?_
    rw [fan_wt (Nat.le_refl n), mem_among]
    have hf : fanF L y ≠ 3 ↔ y ∉ L := by
      unfold fanF
      by_cases c : y ∈ L
      · rw [if_pos c]; simp [c]
      · rw [if_neg c]; simp [c]
    rw [hf]
    exact ⟨fun q => ⟨by omega, by omega, q.2.1, q.2.2.2⟩, fun q => ⟨rfl, q.2.2.1, by omega, q.2.2.2⟩⟩
theorem fan_waits (hx : x ≠ 1) : (upTo (n + 1) (fanF L) (fanE n)).waits x = [] := waits_nil.2 fun b w => hx ((fan_wt (Nat.le_refl n)).1 w).1
/-- One more ends well. -/
theorem fan_good (h1 : 2 ≤ k) (h2 : k ≤ (n : Int) + 1) (hk : k ∉ L) (hL : (1 : Int) ∉ L) : (upTo (n + 1) (fanF L) (fanE n)).good k = ((if among (fun x => 2 ≤ x ∧ x ∉ L) (n + 1) = [k] then [1] else [], 0), upTo (n + 1) (fanF (k :: L)) (fanE n)) := by
  have hs : (upTo (n + 1) (fanF L) (fanE n)).st k = 1 := by rw [st_in (by omega) (by omega)]; unfold fanF; rw [if_neg hk]
  unfold BdS.good
  rw [if_neg (by rw [upTo_has]; omega), if_neg (by rw [hs]; simp), if_neg (by rw [fan_waits (by omega)]; simp), upTo_put, rise_among]
  have e1 : among (fun x => ((upTo (n + 1) (fanF L) (fanE n)).st x = 1 ∨ (upTo (n + 1) (fanF L) (fanE n)).st x = 2) ∧ (upTo (n + 1) (fanF L) (fanE n)).waits x = [k]) (n + 1) = if among (fun x => 2 ≤ x ∧ x ∉ L) (n + 1) = [k] then [1] else [] := by
    by_cases c : among (fun x => 2 ≤ x ∧ x ∉ L) (n + 1) = [k]
    · rw [if_pos c]
      refine rise_ext among_rises (List.pairwise_singleton _ _) fun x => ?_
      rw [mem_among, List.mem_singleton]
      constructor
      · rintro ⟨_, _, _, q⟩
        by_cases e : x = 1
        · exact e
        · rw [fan_waits e] at q; cases q
      · rintro rfl
        refine ⟨by omega, by omega, .inl ?_, by rw [fan_waits1]; exact c⟩
        rw [st_in (by omega) (by omega)]; unfold fanF; rw [if_neg hL]
    · rw [if_neg c, List.eq_nil_iff_forall_not_mem]
      intro x hx
      obtain ⟨_, _, _, q⟩ := mem_among.1 hx
      by_cases e : x = 1
      · subst e; rw [fan_waits1] at q; exact c q
      · rw [fan_waits e] at q; cases q
  rw [e1]
  congr 1
  refine upTo_congr fun x _ _ => ?_
  unfold fanF
  by_cases c : x = k
  · rw [if_pos c, if_pos (by rw [c]; simp)]
  · rw [if_neg c]
    by_cases d : x ∈ L
    · rw [if_pos d, if_pos (List.mem_cons_of_mem _ d)]
    · rw [if_neg d, if_neg (fun q => by rcases List.mem_cons.1 q with q | q; exact c q; exact d q)]
/-- How many are left. -/
theorem fan_left (h1 : 2 ≤ k) (h2 : k ≤ (n : Int) + 1) (hk : k ∉ L) : (among (fun x => 2 ≤ x ∧ x ∉ k :: L) (n + 1)).length + 1 = (among (fun x => 2 ≤ x ∧ x ∉ L) (n + 1)).length := by
  rw [← among_out (P := fun x => 2 ≤ x ∧ x ∉ L) (by omega) (by omega) ⟨h1, hk⟩]
  congr 2
  refine among_congr fun x _ _ => ?_
  rw [List.mem_cons, not_or]
  exact ⟨fun q => ⟨⟨q.1, q.2.2⟩, q.2.1⟩, fun q => ⟨q.1.1, q.2, q.1.2⟩⟩
theorem fan_all : ∀ n : Nat, (among (fun x => 2 ≤ x ∧ x ∉ ([] : List Int)) (n + 1)).length = n
  | 0 => by
    rw [List.length_eq_zero_iff, List.eq_nil_iff_forall_not_mem]
    intro x hx
    have := mem_among.1 hx
    omega
  | n + 1 => by rw [among_succ, List.length_append, fan_all n, if_pos ⟨by omega, by simp⟩]; rfl
theorem fan_last (h1 : 2 ≤ k) (h2 : k ≤ (n : Int) + 1) (hk : k ∉ L) : among (fun x => 2 ≤ x ∧ x ∉ L) (n + 1) = [k] ↔ (among (fun x => 2 ≤ x ∧ x ∉ L) (n + 1)).length = 1 := by
  constructor
  · intro e; rw [e]; rfl
  · intro e
    obtain ⟨y, hy⟩ := List.length_eq_one_iff.1 e
    have m : k ∈ among (fun x => 2 ≤ x ∧ x ∉ L) (n + 1) := mem_among.2 ⟨by omega, by omega, h1, hk⟩
    rw [hy, List.mem_singleton] at m
    rw [hy, m]
/-- A turned order names each once. -/
theorem turn_once {i j t n : Nat} (hi : i < n) (hj : j < n) (h : (i + t) % n = (j + t) % n) : i = j := by
  rcases Nat.lt_trichotomy i j with q | q | q
  · have := Nat.sub_mod_eq_zero_of_mod_eq h.symm
    rw [show j + t - (i + t) = j - i by omega, Nat.mod_eq_of_lt (by omega)] at this
    omega
  · exact q
  · have := Nat.sub_mod_eq_zero_of_mod_eq h
    rw [show i + t - (j + t) = i - j by omega, Nat.mod_eq_of_lt (by omega)] at this
    omega
end
end Go.Proofs.YtjobphjpfknfeaaDoor
