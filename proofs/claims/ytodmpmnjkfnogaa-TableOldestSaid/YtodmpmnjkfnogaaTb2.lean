/- Plain facts on Tables: who lives, and the oldest of them, behind a Make and behind the turn of one of them; no dump; no condition. -/
import Derived.Test.YtodmpmnjkfnogaaTb
namespace Go.Proofs.Ytodmpmnjkfnogaa
open Go.ChangeShapes Go.WideShapes Go.ChangeAt Go.RowKit
set_option linter.unusedVariables false

theorem liveTo_congr {s s' : TS} (k : Nat) (h : ∀ i, i < k → s.tx i = s'.tx i) : s.liveTo k = s'.liveTo k := by
  induction k with
  | zero => rfl
  | succ k ih => unfold TS.liveTo; rw [ih (fun i hi => h i (by omega)), h k (by omega)]
theorem oldTo_congr {s s' : TS} (now : Int) (k : Nat) (h : ∀ i, i < k → s.tx i = s'.tx i) : s.oldTo now k = s'.oldTo now k := by
  induction k with
  | zero => rfl
  | succ k ih => unfold TS.oldTo; rw [ih (fun i hi => h i (by omega)), h k (by omega)]
theorem push_eq (s : TS) (x : Tx) (i : Nat) (hi : i < s.l.length) : s.tx i = ({ s with l := s.l ++ [x] } : TS).tx i := by rw [TS.tx_push, if_neg (by omega)]
theorem live_push (s : TS) (x : Tx) : ({ s with l := s.l ++ [x] } : TS).live = if x.lives = true then s.live ++ [(s.l.length : Int) + 1] else s.live := by
  unfold TS.live
  have hl : ({ s with l := s.l ++ [x] } : TS).l.length = s.l.length + 1 := by simp
  rw [hl]
  show (if _ then _ else _) = _
  rw [TS.tx_push, if_pos rfl, ← liveTo_congr s.l.length (push_eq s x)]
theorem old_push (s : TS) (x : Tx) (now : Int) : ({ s with l := s.l ++ [x] } : TS).old now = if x.lives = true then min (s.old now) x.b else s.old now := by
  unfold TS.old
  have hl : ({ s with l := s.l ++ [x] } : TS).l.length = s.l.length + 1 := by simp
  rw [hl]
  show (if _ then _ else _) = _
  rw [TS.tx_push, if_pos rfl, ← oldTo_congr now s.l.length (push_eq s x)]
theorem liveTo_put (s : TS) (i : Nat) (hi : i < s.l.length) (x : Tx) (hx : x.lives = false) (k : Nat) : (s.put i x).liveTo k = (s.liveTo k).filter (fun z => decide (z ≠ (i : Int) + 1)) := by
  induction k with
  | zero => rfl
  | succ k ih =>
    unfold TS.liveTo
    rw [TS.tx_put s i k x hi, ih]
    by_cases e : i = k
    · subst e
      rw [if_pos rfl, hx, if_neg (by simp)]
      split
      · rw [List.filter_append]; simp
      · rfl
    · rw [if_neg e]
      split
      · have n : ((k : Int) + 1) ≠ (i : Int) + 1 := by omega
        rw [List.filter_append]; congr 1; exact (List.filter_eq_self.2 (fun z hz => by rw [List.mem_singleton.1 hz]; exact decide_eq_true n)).symm
      · rfl
theorem live_put (s : TS) (i : Nat) (hi : i < s.l.length) (x : Tx) (hx : x.lives = false) : (s.put i x).live = s.live.filter (fun z => decide (z ≠ (i : Int) + 1)) := by
  unfold TS.live
  rw [TS.put_len]
  exact liveTo_put s i hi x hx s.l.length
theorem liveTo_sorted (s : TS) (k : Nat) : (s.liveTo k).Pairwise (· < ·) := by
  induction k with
  | zero => exact List.Pairwise.nil
  | succ k ih =>
    unfold TS.liveTo
    split
    · rw [List.pairwise_append]
      refine ⟨ih, List.pairwise_singleton _ _, fun a ha b hb => ?_⟩
      have := liveTo_mem s k a ha
      simp at hb
      omega
    · exact ih
/-- With the first one that lives no more, the rest live. -/
theorem live_tail (s : TS) (a : Int) (r : List Int) (h : s.live = a :: r) (i : Nat) (hi : i < s.l.length) (ha : a = (i : Int) + 1) (x : Tx) (hx : x.lives = false) : (s.put i x).live = r := by
  rw [live_put s i hi x hx, h]
  have srt := liveTo_sorted s s.l.length
  have srt : (a :: r).Pairwise (· < ·) := by rw [← h]; exact srt
  rw [List.pairwise_cons] at srt
  rw [List.filter_cons_of_neg (by simp [ha]), List.filter_eq_self]
  intro z hz
  have := srt.1 z hz
  simp
  omega
theorem live_st (s : TS) (k : Nat) : ∀ x ∈ s.liveTo k, (s.tx (x - 1).toNat).lives = true := by
  induction k with
  | zero => simp [TS.liveTo]
  | succ k ih =>
    unfold TS.liveTo
    split
    · rename_i hl
      intro x hx
      rw [List.mem_append, List.mem_singleton] at hx
      rcases hx with hx | rfl
      · exact ih x hx
      · rw [show ((k : Int) + 1 - 1).toNat = k by omega]; exact hl
    · exact ih
theorem old_nil (s : TS) (now : Int) (h : s.live = []) : s.old now = now := by
  unfold TS.old
  rw [← old_fold]
  have : s.liveTo s.l.length = [] := h
  rw [this]; rfl
/-- One that was made and turned at once is no longer among them. -/
theorem live_gone (s : TS) (x y : Tx) (hy : y.lives = false) : (({ s with l := s.l ++ [x] } : TS).put s.l.length y).live = s.live := by
  have e : ({ s with l := s.l ++ [x] } : TS).put s.l.length y = { s with l := s.l ++ [y] } := by simp [TS.put]
  rw [e, live_push, hy, if_neg (by simp)]
theorem old_gone (s : TS) (x y : Tx) (now : Int) (hy : y.lives = false) : (({ s with l := s.l ++ [x] } : TS).put s.l.length y).old now = s.old now := by
  have e : ({ s with l := s.l ++ [x] } : TS).put s.l.length y = { s with l := s.l ++ [y] } := by simp [TS.put]
  rw [e, old_push, hy, if_neg (by simp)]
end Go.Proofs.Ytodmpmnjkfnogaa
