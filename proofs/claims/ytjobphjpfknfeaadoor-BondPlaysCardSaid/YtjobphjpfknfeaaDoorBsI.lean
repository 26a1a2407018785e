/- Sets of places, a bit a place, as 64-bit words: what each operation on the words makes of the set; the places in order. No dump; no condition. -/
import Derived.Test.YtjobphjpfknfeaaDoorMask
import Derived.Lib.TrailingZeros
namespace Go.Proofs.YtjobphjpfknfeaaDoor
set_option linter.unusedVariables false
set_option linter.unusedSimpArgs false
open Classical

noncomputable def wdN (P : Nat → Prop) (b : Nat) : Nat → Nat
  | 0 => 0
  | n + 1 => wdN P b n ||| (if P (b + n) then 2 ^ n else 0)
/-- Word i of the set. -/
noncomputable def wd (P : Nat → Prop) (i : Nat) : Nat := wdN P (64 * i) 64
section
variable {P R : Nat → Prop} {b n i j k p lo : Nat}
theorem testBit_wdN : ∀ (n j : Nat), (wdN P b n).testBit j = decide (j < n ∧ P (b + j))
  | 0, j => by simp [wdN]
  | n + 1, j => by
    unfold wdN
    rw [Nat.testBit_or, testBit_wdN n j]
    by_cases h : P (b + n)
    · rw [if_pos h, Nat.testBit_two_pow]
      by_cases e : n = j
      · subst e; simp [h]
      · have : (j < n) ↔ (j < n + 1) := by omega
        simp [e, this]
    · rw [if_neg h, Nat.zero_testBit]
      by_cases e : n = j
      · subst e; simp [h]
      · have : (j < n) ↔ (j < n + 1) := by omega
        simp [this]
theorem wdN_lt : ∀ n, wdN P b n < 2 ^ n
  | 0 => by simp [wdN]
  | n + 1 => by
    unfold wdN
    refine Nat.or_lt_two_pow (Nat.lt_of_lt_of_le (wdN_lt n) (Nat.pow_le_pow_right (by decide) (Nat.le_succ n))) ?_
    by_cases h : P (b + n)
    · rw [if_pos h]; exact Nat.pow_lt_pow_right (by decide) (Nat.lt_succ_self n)
    · rw [if_neg h]; exact Nat.two_pow_pos _
theorem wd_bit : (wd P i).testBit j = decide (j < 64 ∧ P (64 * i + j)) := testBit_wdN 64 j
theorem wd_yes : (wd P i).testBit j = true ↔ j < 64 ∧ P (64 * i + j) := by rw [wd_bit]; exact decide_eq_true_iff
theorem wd_no : (wd P i).testBit j = false ↔ ¬ (j < 64 ∧ P (64 * i + j)) := by rw [wd_bit]; exact decide_eq_false_iff_not
theorem wd_lt (P : Nat → Prop) (i : Nat) : wd P i < 18446744073709551616 := wdN_lt 64
theorem wd_le (P : Nat → Prop) (i : Nat) : wd P i ≤ 18446744073709551615 := by have := wd_lt P i; omega
theorem wd_ext {x : Nat} (h : ∀ j, x.testBit j = decide (j < 64 ∧ P (64 * i + j))) : x = wd P i := Nat.eq_of_testBit_eq fun j => by rw [h, wd_bit]
theorem wd_congr (h : ∀ j, j < 64 → (P (64 * i + j) ↔ R (64 * i + j))) : wd P i = wd R i := wd_ext fun j => by
  rw [wd_bit]
  by_cases c : j < 64
  · simp [c, h j c]
  · simp [c]
theorem wd_or : wd P i ||| wd R i = wd (fun p => P p ∨ R p) i := wd_ext fun j => by
  rw [Nat.testBit_or, wd_bit, wd_bit]
  by_cases c : j < 64 <;> simp [c]
theorem wd_less : wd P i &&& (18446744073709551615 - wd R i) = wd (fun p => P p ∧ ¬ R p) i := wd_ext fun j => by
  by_cases c : j < 64
  · rw [less_bit _ _ _ (wd_le R i) c, wd_bit, wd_bit]
    simp [c]
  · rw [Nat.testBit_and, wd_bit]
    simp [c]
theorem wd_add (hj : j < 64) : wd P i ||| 2 ^ j = wd (fun p => P p ∨ p = 64 * i + j) i := wd_ext fun k => by
  rw [Nat.testBit_or, wd_bit, Nat.testBit_two_pow]
  by_cases c : k < 64
  · by_cases e : j = k
    · subst e; simp [c]
    · have : ¬ (64 * i + k = 64 * i + j) := by omega
      have e2 : ¬ k = j := fun q => e q.symm
      simp [c, e, e2]
  · have : ¬ j = k := by omega
    simp [c, this]
theorem wd_drop (hj : j < 64) : wd P i &&& (18446744073709551615 - 2 ^ j) = wd (fun p => P p ∧ p ≠ 64 * i + j) i := wd_ext fun k => by
  have hp : 2 ^ j ≤ 18446744073709551615 := by
    have : 2 ^ j ≤ 2 ^ 63 := Nat.pow_le_pow_right (by decide) (by omega)
    omega
  by_cases c : k < 64
  · rw [less_bit _ _ _ hp c, wd_bit, Nat.testBit_two_pow]
    by_cases e : j = k
    · subst e; simp [c]
    · have : ¬ (64 * i + k = 64 * i + j) := by omega
      have e2 : ¬ k = j := fun q => e q.symm
      simp [c, e, e2]
  · rw [Nat.testBit_and, wd_bit]
    simp [c]
theorem wd_far (h : i ≠ k) (hj : j < 64) : wd (fun p => P p ∨ p = 64 * i + j) k = wd P k := wd_congr fun m hm => by
  have : ¬ (64 * k + m = 64 * i + j) := by omega
  simp [this]
theorem wd_far2 (h : i ≠ k) (hj : j < 64) : wd (fun p => P p ∧ p ≠ 64 * i + j) k = wd P k := wd_congr fun m hm => by
  have : ¬ (64 * k + m = 64 * i + j) := by omega
  simp [this]
theorem wd_zero : wd P i = 0 ↔ ∀ j, j < 64 → ¬ P (64 * i + j) := by
  constructor
  · intro h j hj hp
    have := wd_bit (P := P) (i := i) (j := j)
    rw [h, Nat.zero_testBit] at this
    simp [hj, hp] at this
  · intro h
    refine (wd_ext (P := P) (i := i) (x := 0) fun j => ?_).symm
    rw [Nat.zero_testBit]
    symm
    rw [decide_eq_false_iff_not]
    exact fun q => h j q.1 q.2
/-- The lowest bit of a number: where it is, and what is left without it. -/
theorem low_bit {x : Nat} (h0 : x ≠ 0) (hx : x < 18446744073709551616) : Lib.ctz 64 x < 64 ∧ x.testBit (Lib.ctz 64 x) = true ∧ (∀ j, j < Lib.ctz 64 x → x.testBit j = false) ∧ ∀ j, (x &&& (x - 1)).testBit j = (x.testBit j && decide (j ≠ Lib.ctz 64 x)) := by
  obtain ⟨m, hm, hk⟩ := Lib.ctzFrom_spec 64 x (by omega) hx
  have e : Lib.ctz 64 x = Lib.ctzFrom 64 x := by unfold Lib.ctz; rw [if_neg h0]
  rw [e]
  obtain ⟨c, ec⟩ : ∃ c, Lib.ctzFrom 64 x = c := ⟨_, rfl⟩
  rw [ec] at hm hk ⊢
  have hp := Nat.two_pow_pos c
  have e1 : x = 2 ^ c * (2 * m + 1) + 0 := by omega
  have e2 : x - 1 = 2 ^ c * (2 * m) + (2 ^ c - 1) := by
    rw [e1, Nat.mul_add]
    omega
  have t1 : ∀ j, x.testBit j = if j < c then false else (2 * m + 1).testBit (j - c) := fun j => by
    rw [e1, Nat.testBit_two_pow_mul_add _ hp]
    simp
  have t2 : ∀ j, (x - 1).testBit j = if j < c then (2 ^ c - 1).testBit j else (2 * m).testBit (j - c) := fun j => by
    rw [e2, Nat.testBit_two_pow_mul_add _ (by omega)]
  refine ⟨hk, ?_, fun j hj => ?_, fun j => ?_⟩
  · rw [t1, if_neg (by omega), Nat.sub_self]
    simp [Nat.testBit_zero]
  · rw [t1, if_pos hj]
  · rw [Nat.testBit_and, t1, t2]
    by_cases h : j < c
    · rw [if_pos h]; simp
    · rw [if_neg h, if_neg h]
      by_cases e : j = c
      · subst e; rw [Nat.sub_self]; simp [Nat.testBit_zero]
      · obtain ⟨d, hd⟩ : ∃ d, j - c = d + 1 := ⟨j - c - 1, by omega⟩
        rw [hd, Nat.testBit_succ, Nat.testBit_succ, show (2 * m + 1) / 2 = m by omega, show 2 * m / 2 = m by omega]
        simp [e]
theorem clear_lt {x : Nat} (h0 : x ≠ 0) : x &&& (x - 1) < x := Nat.lt_of_le_of_lt Nat.and_le_right (by omega)
/-- Those below n that are in the set, rising. -/
noncomputable def plc (P : Nat → Prop) (n : Nat) : List Nat := (List.range n).filter (fun p => decide (P p))
theorem mem_plc : p ∈ plc P n ↔ p < n ∧ P p := by unfold plc; rw [List.mem_filter, List.mem_range, decide_eq_true_iff]
theorem plc_succ : plc P (n + 1) = plc P n ++ (if P n then [n] else []) := by
  unfold plc
  rw [List.range_succ, List.filter_append]
  by_cases h : P n <;> simp [h]
theorem plc_len : (plc P n).length ≤ n := by
  unfold plc
  exact Nat.le_trans (List.length_filter_le _ _) (by simp)
theorem plc_skip (h : ∀ q, lo ≤ q → q < n → ¬ P q) (hl : lo ≤ n) : plc P n = plc P lo := by
  induction n with
  | zero => rw [show lo = 0 by omega]
  | succ n ih =>
    by_cases e : lo = n + 1
    · rw [e]
    · rw [plc_succ, if_neg (h n (by omega) (by omega)), List.append_nil, ih (fun q h1 h2 => h q h1 (by omega)) (by omega)]
theorem plc_next (hl : lo ≤ p) (hp : P p) (h : ∀ q, lo ≤ q → q < p → ¬ P q) : plc P (p + 1) = plc P lo ++ [p] := by
  rw [plc_succ, if_pos hp, plc_skip h hl]
theorem plc_rises : (plc P n).Pairwise (· < ·) := List.Pairwise.filter _ List.pairwise_lt_range
theorem plc_congr (h : ∀ p, p < n → (P p ↔ R p)) : plc P n = plc R n := by
  unfold plc
  refine List.filter_congr fun p hp => ?_
  simp [h p (List.mem_range.1 hp)]
/-- The word that is left when all places below lo have been told; the next one. -/
theorem wd_left (h0 : wd (fun p => P p ∧ lo ≤ p) i ≠ 0) : ∃ p, Lib.ctz 64 (wd (fun p => P p ∧ lo ≤ p) i) + 64 * i = p ∧ p < 64 * i + 64 ∧ lo ≤ p ∧ P p ∧ (∀ q, 64 * i ≤ q → lo ≤ q → q < p → ¬ P q) ∧
    wd (fun p => P p ∧ lo ≤ p) i &&& (wd (fun p => P p ∧ lo ≤ p) i - 1) = wd (fun q => P q ∧ p + 1 ≤ q) i := by
  obtain ⟨h1, h2, h3, h4⟩ := low_bit h0 (wd_lt _ _)
  obtain ⟨c, ec⟩ : ∃ c, Lib.ctz 64 (wd (fun p => P p ∧ lo ≤ p) i) = c := ⟨_, rfl⟩
  rw [ec] at h1 h2 h3 h4 ⊢
  replace h2 := wd_yes.1 h2
  refine ⟨c + 64 * i, rfl, by omega, by omega, by rw [Nat.add_comm]; exact h2.2.1, fun q q0 q1 q2 hq => ?_, wd_ext fun j => ?_⟩
  · have := h3 (q - 64 * i) (by omega)
    have := wd_no.1 this
    rw [show 64 * i + (q - 64 * i) = q by omega] at this
    exact this ⟨by omega, hq, q1⟩
  · rw [h4, wd_bit]
    by_cases c64 : j < 64
    · by_cases e : j = c
      · subst e
        have : ¬ (j + 64 * i + 1 ≤ 64 * i + j) := by omega
        simp [this]
      · by_cases lt : j < c
        · have a1 : ¬ (c + 64 * i + 1 ≤ 64 * i + j) := by omega
          have := h3 j lt
          rw [wd_bit] at this
          rw [this]
          simp [a1]
        · have a1 : c + 64 * i + 1 ≤ 64 * i + j := by omega
          have a2 : lo ≤ 64 * i + j := by omega
          simp [c64, e, a1, a2]
    · simp [c64]
end
end Go.Proofs.YtjobphjpfknfeaaDoor
