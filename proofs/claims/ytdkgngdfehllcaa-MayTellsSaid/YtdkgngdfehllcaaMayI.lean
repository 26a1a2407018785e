/- What layer 8 answers, as plain functions of words and of what is told of transactions; no dump; no condition. -/
import Derived.Test.YtdkgngdfehllcaaSeeI
namespace Go.Proofs.Ytdkgngdfehllcaa
open Go.ChangeShapes Go.WideShapes Go.ChangeAt Go.RowKit
set_option linter.unusedVariables false

/-- Whether one may put one's own end word on the end word e. -/
def writeI (L : Int → Option Tx) (e me : Int) : Int × Int :=
  if rdK e = 3 ∨ (rdK e = 2 ∧ rdN e = me) then (1, 0) else if rdK e ≠ 2 then (2, 0) else
  match L (rdN e) with
  | none => (3, 0)
  | some x => if x.st = 5 then (3, 0) else if x.st = 4 then (1, rdN e) else (2, rdN e)
/-- Whether one begin word lets a first version be made. -/
def oneI (L : Int → Option Tx) (me t w : Int) : Bool :=
  if rdK w = 1 then decide (w ≤ t) else if rdK w = 2 then (decide (rdN w = me) || match L (rdN w) with
    | none => true
    | some x => decide (x.st = 4) || decide (x.st = 5)) else false
def firstI (L : Int → Option Tx) (ws : List Int) (me t : Int) : Bool := ws.all (oneI L me t)
theorem firstI_nil (L : Int → Option Tx) (me t : Int) : firstI L [] me t = true := rfl
theorem oneI_txn {L : Int → Option Tx} {me t w : Int} (h : rdK w = 2) : oneI L me t w = (decide (rdN w = me) || match L (rdN w) with
    | none => true
    | some x => decide (x.st = 4) || decide (x.st = 5)) := by
  unfold oneI
  rw [if_neg (by omega), if_pos h]
theorem oneI_time {L : Int → Option Tx} {me t w : Int} (h : rdK w = 1) : oneI L me t w = decide (w ≤ t) := by
  unfold oneI
  rw [if_pos h]
theorem oneI_else {L : Int → Option Tx} {me t w : Int} (h : rdK w ≠ 1) (h2 : rdK w ≠ 2) : oneI L me t w = false := by
  unfold oneI
  rw [if_neg h, if_neg h2]
theorem writeI_txn {L : Int → Option Tx} {e me : Int} (h : rdK e = 2) (hm : rdN e ≠ me) : writeI L e me = match L (rdN e) with
  | none => (3, 0)
  | some x => if x.st = 5 then (3, 0) else if x.st = 4 then (1, rdN e) else (2, rdN e) := by
  unfold writeI
  rw [if_neg (by omega), if_neg (by omega)]
/-- A slice that one has made oneself reads as it stands. -/
theorem firstI_push (L : Int → Option Tx) (ws : List Int) (w me t : Int) : firstI L (ws ++ [w]) me t = (firstI L ws me t && oneI L me t w) := by
  unfold firstI
  simp
theorem firstI_false {L : Int → Option Tx} {ws : List Int} {me t : Int} (k : Nat) (hk : k < ws.length) (h : oneI L me t (ws.getD k 0) = false) : firstI L ws me t = false := by
  unfold firstI
  rw [List.all_eq_false]
  refine ⟨ws[k], List.getElem_mem hk, ?_⟩
  have e : ws.getD k 0 = ws[k] := by simp [List.getD_eq_getElem?_getD, hk]
  rw [e] at h
  rw [h]
  simp
theorem firstI_true {L : Int → Option Tx} {ws : List Int} {me t : Int} (h : ∀ k, k < ws.length → oneI L me t (ws.getD k 0) = true) : firstI L ws me t = true := by
  unfold firstI
  rw [List.all_eq_true]
  intro x hx
  obtain ⟨k, hk, rfl⟩ := List.getElem_of_mem hx
  have := h k hk
  have e : ws.getD k 0 = ws[k] := by simp [List.getD_eq_getElem?_getD, hk]
  rwa [e] at this
/-- So many words let it be. -/
def Upto (L : Int → Option Tx) (ws : List Int) (me t : Int) (k : Nat) : Prop := ∀ j, j < k → oneI L me t (ws.getD j 0) = true
theorem Upto.zero (L : Int → Option Tx) (ws : List Int) (me t : Int) : Upto L ws me t 0 := fun j hj => absurd hj (Nat.not_lt_zero j)
theorem Upto.next {L : Int → Option Tx} {ws : List Int} {me t : Int} {k : Nat} (h : Upto L ws me t k) (a : Int) (ea : ws.getD k 0 = a) (h1 : oneI L me t a = true) : Upto L ws me t (k + 1) := fun j hj => by
  by_cases e : j = k
  · subst e; rw [ea]; exact h1
  · exact h j (by omega)
/-- What a word says, way by way. -/
theorem oneI_ways (L : Int → Option Tx) (me t a : Int) (h0 : rdK a = 2) : (rdN a = me ∧ oneI L me t a = true) ∨ (rdN a ≠ me ∧ ((L (rdN a) = none ∧ oneI L me t a = true) ∨ ∃ x, L (rdN a) = some x ∧ ((x.st = 4 ∧ oneI L me t a = true) ∨ (x.st = 5 ∧ oneI L me t a = true) ∨ (x.st ≠ 4 ∧ x.st ≠ 5 ∧ oneI L me t a = false)))) := by
  rw [oneI_txn h0]
  by_cases hm : rdN a = me
  · exact .inl ⟨hm, by simp [hm]⟩
  · refine .inr ⟨hm, ?_⟩
    cases hL : L (rdN a) with
    | none => exact .inl ⟨rfl, by simp⟩
    | some x =>
      refine .inr ⟨x, rfl, ?_⟩
      by_cases h4 : x.st = 4
      · exact .inl ⟨h4, by simp [h4]⟩
      · by_cases h5 : x.st = 5
        · exact .inr (.inl ⟨h5, by simp [h5]⟩)
        · exact .inr (.inr ⟨h4, h5, by simp [hm, h4, h5]⟩)
end Go.Proofs.Ytdkgngdfehllcaa
