/- Contracts of the document's own answer for layer 7: Begin, End, See; condition: the slice reads as that list. -/
import Derived.Test.YtbbinfdgmfmaeaaRefSee
import Derived.Test.YtbbinfdgmfmaeaaPushN
namespace Go.Proofs.Ytbbinfdgmfmaeaa
open Go.ChangeShapes Go.WideShapes Go.ChangeAt Go.RowKit
set_option linter.unusedVariables false

section
variable {A : Option Addr} {n c : Nat} {f : Nat → Ot} {w : World}
theorem rd_bd2 (a : Int) : 0 ≤ rdN a ∨ True := .inr trivial
def SeeV (r : Int × List Int) (w : World) (e : Ending) (w' : World) : Prop := ∃ v, e = .returned (.tuple #[.int .i64 r.1, v]) ∧ OwnN w.heap.size w' v r.2 ∧ Below w.heap.size w w'
theorem own_one {w : World} {B : Nat} (hB : B ≤ w.heap.size) (x : Int) : OwnN B (w.alloc (.cells #[.int .i64 x] 3)) (.slice (some ⟨w.heap.size, 0, none⟩) 1 1) [x] := World.ownsRow_lit w #[.int .i64 x] 1 hB (by unfold maxLen; omega) rfl
end
end Go.Proofs.Ytbbinfdgmfmaeaa
