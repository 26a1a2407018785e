/- Contracts of the document's own answer for layer 7 (vinculumref1's Look, by, Begin, End, See): of what is told of the transactions in a slice; condition: the slice reads as that list. -/
import Derived.Test.YtbbinfdgmfmaeaaOth
import Derived.Test.YtbbinfdgmfmaeaaSeeI
import Derived.Test.YtbbinfdgmfmaeaaWord
import Derived.Deep.QuietTactic
import Derived.BigQuiet
namespace Go.Proofs.Ytbbinfdgmfmaeaa
open Go.ChangeShapes Go.WideShapes Go.ChangeAt Go.RowKit
set_option linter.unusedVariables false

def txV (x : Tx) : Value := .agg #[.int .i64 x.lv, .int .i64 x.st, .int .u64 x.b, .int .u64 x.e]
/-- What the list tells of each transaction. -/
def lookL (f : Nat → Ot) (n : Nat) (id : Int) : Option Tx := if 1 ≤ id ∧ id ≤ n ∧ (f (id - 1).toNat).th = true then some (f (id - 1).toNat).x else none
def lookV (o : Option Tx) : Value := match o with
  | none => .tuple #[txV ⟨0, 0, 0, 0⟩, .bool false]
  | some x => .tuple #[txV x, .bool true]
def V2 (r : Int × Int) : Value := .tuple #[.int .i64 r.1, .int .i64 r.2]
end Go.Proofs.Ytbbinfdgmfmaeaa
