/- Contract of All of package pool: the links of the taken slots, in a slice of the call's own; condition: a state that calls can bring about. -/
import Derived.Test.YtmfpjnlplimkeaaPoolA
import Derived.Test.YtmfpjnlplimkeaaPush
namespace Go.Proofs.Ytmfpjnlplimkeaa
open Go.ChangeShapes Go.WideShapes Go.ChangeAt Go.RowKit
set_option linter.unusedVariables false

section
variable {w : World} {p b1 : Nat} {d m : Int} {vf : Value} {u : Int} {s : St}
def AllP (zs : List Int) (w : World) (e : Ending) (w' : World) : Prop := ∃ v, e = .returned v ∧ OwnU w.heap.size w' v zs ∧ Below w.heap.size w w'
end
end Go.Proofs.Ytmfpjnlplimkeaa
