/- A slice of vinculumref1's Other that came in: what its cells hold; no condition beyond the argument's own reading. -/
import Derived.Test.YtbbinfdgmfmaeaaRow
import Derived.Test.YtbbinfdgmfmaeaaTb
namespace Go.Proofs.Ytbbinfdgmfmaeaa
open Go.ChangeShapes Go.WideShapes Go.ChangeAt Go.RowKit
set_option linter.unusedVariables false

/-- What is told of a transaction: is it there, and what it is. -/
structure Ot where
  th : Bool
  x : Tx
structure OtAt (w : World) (b o : Nat) (y : Ot) : Prop where
  c0 : w.cell? ⟨b, o, none⟩ = some (.bool y.th)
  c1 : w.cell? ⟨b, o + 1, none⟩ = some (.int .i64 y.x.lv)
  c2 : w.cell? ⟨b, o + 2, none⟩ = some (.int .i64 y.x.st)
  c3 : w.cell? ⟨b, o + 3, none⟩ = some (.int .u64 y.x.b)
  c4 : w.cell? ⟨b, o + 4, none⟩ = some (.int .u64 y.x.e)
/-- Each number fits its kind. -/
structure TxFit (x : Tx) : Prop where
  l0 : -9223372036854775808 ≤ x.lv
  l1 : x.lv ≤ 9223372036854775807
  s0 : -9223372036854775808 ≤ x.st
  s1 : x.st ≤ 9223372036854775807
  b0 : 0 ≤ x.b
  b1 : x.b ≤ 18446744073709551615
  e0 : 0 ≤ x.e
  e1 : x.e ≤ 18446744073709551615
structure IsOth (w : World) (A : Option Addr) (n c : Nat) (f : Nat → Ot) : Prop where
  cap : n ≤ c
  max : c ≤ 9223372036854775807
  nil : A = none → n = 0
  cell : 0 < n → ∃ b off, A = some ⟨b, off, none⟩ ∧ b < w.heap.size ∧ ∀ j, j < n → OtAt w b (off + j * 5) (f j)
  ok : ∀ j, j < n → TxFit (f j).x
theorem Addr.add_zero5 (a : Addr) : a.add 0 = a := by simp [Addr.add]
theorem cells_txn5 : Try.prog.cellsOf 98 = 4 := by kernel_rfl
theorem cells_bool5 : Try.prog.cellsOf 4 = 1 := by kernel_rfl
theorem cells_int5 : Try.prog.cellsOf 3 = 1 := by kernel_rfl
theorem cells_u645 : Try.prog.cellsOf 26 = 1 := by kernel_rfl
theorem IsOth.keep {S : Nat → Prop} {w w' : World} {A : Option Addr} {n c : Nat} {f : Nat → Ot} (h : IsOth w A n c f) (k : Keep S w w') (hn : ∀ b o, A = some ⟨b, o, none⟩ → ¬ S b) : IsOth w' A n c f := by
  refine ⟨h.cap, h.max, h.nil, fun hp => ?_, h.ok⟩
  obtain ⟨b, off, e, hb, hc⟩ := h.cell hp
  have nb := hn b off e
  exact ⟨b, off, e, Nat.lt_of_lt_of_le hb k.size, fun j hj => ⟨k.cell (hc j hj).c0 nb, k.cell (hc j hj).c1 nb, k.cell (hc j hj).c2 nb, k.cell (hc j hj).c3 nb, k.cell (hc j hj).c4 nb⟩⟩
end Go.Proofs.Ytbbinfdgmfmaeaa
