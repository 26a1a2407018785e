/- What layer 7 answers of times, of oneself, and of one that is not told; no dump; no condition. -/
import Derived.Test.YtbbinfdgmfmaeaaSeeD
namespace Go.Proofs.Ytbbinfdgmfmaeaa
open Go.ChangeShapes Go.WideShapes Go.ChangeAt Go.RowKit
set_option linter.unusedVariables false
theorem time_b (a me t : Int) (h : a ≤ 1099511627776) : beginI noL a me t = (if a ≤ t then 1 else 2, 0) := by
  unfold beginI
  have : rdK a = 1 := by unfold rdK; rw [if_pos h]
  by_cases h1 : a ≤ t
  · rw [if_pos ⟨this, h1⟩, if_pos h1]
  · rw [if_neg (fun x => h1 x.2), if_neg (by rw [this]; decide), if_neg h1]
theorem time_e (a me t : Int) (h : a ≤ 1099511627776) : endI noL a me t = (if a ≤ t then 1 else 2, 0) := by
  unfold endI
  have : rdK a = 1 := by unfold rdK; rw [if_pos (by omega)]
  rw [if_neg (by rw [this]; decide)]
  by_cases h1 : a ≤ t
  · rw [if_neg (by rw [this]; omega), if_pos h1]
  · rw [if_pos (.inr ⟨this, by omega⟩), if_neg h1]
theorem ever_e (me t : Int) : endI noL 2305843009213693952 me t = (2, 0) := by rfl
theorem txn_b (L : Int → Option Tx) (m me t : Int) (h0 : 1 ≤ m) (h1 : m ≤ 65535) : beginI L (4611686018427387904 + m) me t = byI L m me t := by
  have k : rdK (4611686018427387904 + m) = 2 := by unfold rdK; rw [if_neg (by omega), if_neg (by omega), if_pos (by omega)]
  have n : rdN (4611686018427387904 + m) = m := by unfold rdN; rw [if_neg (by omega), if_pos (by omega)]; omega
  unfold beginI
  rw [k, n, if_neg (by omega), if_pos rfl]
theorem txn_e (L : Int → Option Tx) (m me t : Int) (h0 : 1 ≤ m) (h1 : m ≤ 65535) : endI L (4611686018427387904 + m) me t = byI L m me t := by
  have k : rdK (4611686018427387904 + m) = 2 := by unfold rdK; rw [if_neg (by omega), if_neg (by omega), if_pos (by omega)]
  have n : rdN (4611686018427387904 + m) = m := by unfold rdN; rw [if_neg (by omega), if_pos (by omega)]; omega
  unfold endI
  rw [k, n, if_pos rfl]
theorem by_me (L : Int → Option Tx) (m t : Int) : byI L m m t = (1, 0) := by unfold byI; rw [if_pos rfl]
theorem by_no (m me t : Int) (h : m ≠ me) : byI noL m me t = (3, 0) := by unfold byI; rw [if_neg h]; rfl
end Go.Proofs.Ytbbinfdgmfmaeaa
