/- What layer 7 answers, as plain functions of words and of what is told of transactions; no dump; no condition. -/
import Derived.Test.YtbbinfdgmfmaeaaTb
import Derived.Test.YtbbinfdgmfmaeaaBits
namespace Go.Proofs.Ytbbinfdgmfmaeaa
open Go.ChangeShapes Go.WideShapes Go.ChangeAt Go.RowKit
set_option linter.unusedVariables false

def byX (x : Tx) (id t : Int) : Int × Int := if x.st = 5 then (3, 0) else if x.st = 3 ∧ x.e ≤ t then (1, 0) else if x.st = 2 ∧ x.e ≠ 0 ∧ x.e ≤ t then (4, id) else (2, 0)
/-- What a word of the transaction id says at a time; L: what is told of each transaction. -/
def byI (L : Int → Option Tx) (id me t : Int) : Int × Int :=
  if id = me then (1, 0) else
  match L id with
  | none => (3, 0)
  | some x => byX x id t
def beginI (L : Int → Option Tx) (w me t : Int) : Int × Int :=
  if rdK w = 1 ∧ w ≤ t then (1, 0) else if rdK w = 2 then byI L (rdN w) me t else (2, 0)
def endI (L : Int → Option Tx) (w me t : Int) : Int × Int :=
  if rdK w = 2 then byI L (rdN w) me t else if rdK w = 3 ∨ (rdK w = 1 ∧ t < w) then (2, 0) else (1, 0)
def seeI (L : Int → Option Tx) (b e me t : Int) : Int × List Int :=
  if (beginI L b me t).1 = 2 ∨ (beginI L b me t).1 = 3 then ((beginI L b me t).1, []) else
  if (endI L e me t).1 = 3 then (3, []) else if (endI L e me t).1 = 1 then (2, []) else if (endI L e me t).1 = 4 then (2, [(endI L e me t).2]) else
  if (beginI L b me t).1 = 4 then (1, [(beginI L b me t).2]) else (1, [])
theorem by_cases' (L : Int → Option Tx) (id me t : Int) : (byI L id me t = (1, 0) ∨ byI L id me t = (2, 0) ∨ byI L id me t = (3, 0) ∨ byI L id me t = (4, id)) := by
  unfold byI
  split
  · simp
  · split
    · simp
    · unfold byX
      split
      · simp
      · split
        · simp
        · split <;> simp
theorem begin_cases (L : Int → Option Tx) (w me t : Int) : (beginI L w me t = (1, 0) ∨ beginI L w me t = (2, 0) ∨ beginI L w me t = (3, 0) ∨ beginI L w me t = (4, rdN w)) := by
  unfold beginI
  split
  · simp
  · split
    · exact by_cases' L _ me t
    · simp
theorem end_cases (L : Int → Option Tx) (w me t : Int) : (endI L w me t = (1, 0) ∨ endI L w me t = (2, 0) ∨ endI L w me t = (3, 0) ∨ endI L w me t = (4, rdN w)) := by
  unfold endI
  split
  · exact by_cases' L _ me t
  · split <;> simp
theorem see_len (L : Int → Option Tx) (b e me t : Int) : (seeI L b e me t).2.length ≤ 1 := by
  unfold seeI
  split
  · simp
  · split
    · simp
    · split
      · simp
      · split
        · simp
        · split <;> simp
end Go.Proofs.Ytbbinfdgmfmaeaa
