/- For ChainOrders: the links i + 1 of those places that still stand, the last one first; what is left behind a cut; how one comes around a ring. No dump; no condition. -/
import Derived.Test.YtagboodnbgpnkaaChI
namespace Go.Proofs.Ytagboodnbgpnkaa
open Go.ChangeShapes Go.WideShapes Go.ChangeAt Go.RowKit
set_option linter.unusedVariables false

/-- Of the places below k those that stand, by their links, the greatest first. -/
def fl (bs : Nat → Bool) : Nat → List Int
  | 0 => []
  | k + 1 => if bs k = true then ((k : Int) + 1) :: fl bs k else fl bs k
def off (bs : Nat → Bool) (k : Nat) (i : Nat) : Bool := if i = k then false else bs i
section
variable {bs : Nat → Bool}
theorem fl_mem : ∀ (k : Nat) (x : Int), x ∈ fl bs k ↔ ∃ i : Nat, i < k ∧ bs i = true ∧ x = (i : Int) + 1
  | 0, x => by simp [fl]
  | k + 1, x => by
    unfold fl
    constructor
    · intro h
      split at h
      · rename_i hb
        rcases List.mem_cons.1 h with rfl | h
        · exact ⟨k, by omega, hb, rfl⟩
        · obtain ⟨i, h1, h2, h3⟩ := (fl_mem k x).1 h
          exact ⟨i, by omega, h2, h3⟩
      · obtain ⟨i, h1, h2, h3⟩ := (fl_mem k x).1 h
        exact ⟨i, by omega, h2, h3⟩
    · rintro ⟨i, h1, h2, h3⟩
      by_cases e : i = k
      · subst e
        rw [if_pos h2, h3]
        exact List.mem_cons_self
      · have := (fl_mem k x).2 ⟨i, by omega, h2, h3⟩
        split
        · exact List.mem_cons_of_mem _ this
        · exact this
theorem fl_in {k i : Nat} (hi : i < k) : ((i : Int) + 1 ∈ fl bs k) ↔ bs i = true := by
  rw [fl_mem]
  constructor
  · rintro ⟨j, _, h2, h3⟩
    obtain rfl : i = j := by omega
    exact h2
  · exact fun h => ⟨i, hi, h, rfl⟩
theorem fl_nodup : ∀ k, (fl bs k).Nodup
  | 0 => by simp [fl]
  | k + 1 => by
    unfold fl
    split
    · refine List.nodup_cons.2 ⟨fun h => ?_, fl_nodup k⟩
      obtain ⟨i, h1, _, h3⟩ := (fl_mem k _).1 h
      omega
    · exact fl_nodup k
theorem fl_len : ∀ k, (fl bs k).length ≤ k
  | 0 => by simp [fl]
  | k + 1 => by
    have := fl_len k
    unfold fl
    split
    · simp; omega
    · omega
theorem fl_all : ∀ k, (∀ i, i < k → bs i = true) → (fl bs k).length = k
  | 0, _ => rfl
  | k + 1, h => by
    unfold fl
    rw [if_pos (h k (by omega)), List.length_cons, fl_all k (fun i hi => h i (by omega))]
theorem fl_none (k : Nat) (h : (fl bs k).length = 0) : fl bs k = [] := List.length_eq_zero_iff.1 h
theorem fl_same {cs : Nat → Bool} : ∀ k, (∀ i, i < k → bs i = cs i) → fl bs k = fl cs k
  | 0, _ => rfl
  | k + 1, h => by
    unfold fl
    rw [h k (by omega), fl_same k (fun i hi => h i (by omega))]
theorem fl_off {k : Nat} (hb : bs k = true) : ∀ n, k < n → (fl bs n).erase ((k : Int) + 1) = fl (off bs k) n
  | n + 1, h => by
    by_cases e : k = n
    · subst e
      have e1 : fl bs (k + 1) = ((k : Int) + 1) :: fl bs k := by
        show (if bs k = true then _ else _) = _
        rw [if_pos hb]
      have e2 : fl (off bs k) (k + 1) = fl (off bs k) k := by
        show (if off bs k k = true then _ else _) = _
        rw [if_neg (by simp [off])]
      rw [e1, e2, List.erase_cons_head]
      exact fl_same k (fun i hi => by unfold off; rw [if_neg (by omega)])
    · have ih := fl_off hb n (by omega)
      have e3 : off bs k n = bs n := by unfold off; rw [if_neg (fun x => e x.symm)]
      unfold fl
      rw [e3]
      split
      · rw [List.erase_cons_tail (by simp; omega), ih]
      · exact ih
theorem fl_some {k : Nat} (h : (fl bs k).length ≠ 0) : ∃ i, i < k ∧ bs i = true := by
  cases hl : fl bs k with
  | nil => rw [hl] at h; exact absurd rfl h
  | cons x r =>
    obtain ⟨i, h1, h2, _⟩ := (fl_mem k x).1 (by rw [hl]; exact List.mem_cons_self)
    exact ⟨i, h1, h2⟩
/-- So far the list has been gone through: us; what stands from there on. -/
def Split (bs : Nat → Bool) (n m j : Nat) : Prop := ∃ us, fl bs n = us ++ fl bs m ∧ us.length = j
theorem Split.start (n : Nat) : Split bs n n 0 := ⟨[], rfl, rfl⟩
theorem Split.skip {n m j : Nat} (h : Split bs n (m + 1) j) (hb : bs m = false) : Split bs n m j := by
  obtain ⟨us, h1, h2⟩ := h
  refine ⟨us, ?_, h2⟩
  rw [h1]
  show us ++ (if bs m = true then _ else _) = _
  rw [if_neg (by simp [hb])]
theorem Split.take {n m j : Nat} (h : Split bs n (m + 1) j) (hb : bs m = true) : j < (fl bs n).length ∧ (fl bs n).getD j 0 = (m : Int) + 1 ∧ Split bs n m (j + 1) := by
  obtain ⟨us, h1, h2⟩ := h
  have e : fl bs (m + 1) = ((m : Int) + 1) :: fl bs m := by
    show (if bs m = true then _ else _) = _
    rw [if_pos hb]
  rw [e] at h1
  refine ⟨by rw [h1, List.length_append, List.length_cons]; omega, ?_, us ++ [(m : Int) + 1], by rw [h1]; simp, by simp [h2]⟩
  rw [h1, List.getD_eq_getElem?_getD, List.getElem?_append_right (by omega), h2, Nat.sub_self]
  rfl
theorem Split.done {n j : Nat} (h : Split bs n 0 j) : (fl bs n).length = j := by
  obtain ⟨us, h1, h2⟩ := h
  rw [h1, List.length_append, h2]
  rfl
/-- How far it is from k on around a ring of n to i. -/
def far (n i k : Nat) : Nat := (i + n - k) % n
theorem far_next {n i k : Nat} (hi : i < n) (hk : k < n) (h : k ≠ i) : far n i ((k + 1) % n) < far n i k := by
  unfold far
  by_cases e : k + 1 = n
  · subst e
    rw [Nat.mod_self]
    have a1 : (i + (k + 1) - 0) % (k + 1) = i := by rw [Nat.sub_zero, Nat.add_mod_right]; exact Nat.mod_eq_of_lt hi
    have a2 : (i + (k + 1) - k) % (k + 1) = i + 1 := by
      rw [show i + (k + 1) - k = i + 1 by omega]
      exact Nat.mod_eq_of_lt (by omega)
    omega
  · rw [Nat.mod_eq_of_lt (show k + 1 < n by omega)]
    by_cases h1 : k < i
    · have a1 : (i + n - (k + 1)) % n = i - (k + 1) := by
        rw [show i + n - (k + 1) = (i - (k + 1)) + n by omega, Nat.add_mod_right]
        exact Nat.mod_eq_of_lt (by omega)
      have a2 : (i + n - k) % n = i - k := by
        rw [show i + n - k = (i - k) + n by omega, Nat.add_mod_right]
        exact Nat.mod_eq_of_lt (by omega)
      omega
    · have a1 : (i + n - (k + 1)) % n = i + n - (k + 1) := Nat.mod_eq_of_lt (by omega)
      have a2 : (i + n - k) % n = i + n - k := Nat.mod_eq_of_lt (by omega)
      omega
end
end Go.Proofs.Ytagboodnbgpnkaa
