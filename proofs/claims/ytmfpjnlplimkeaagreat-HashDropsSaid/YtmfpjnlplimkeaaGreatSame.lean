/- Contract of vinculumref1.Same: two rows of the same 64-bit numbers: it answers true; no further condition. -/
import Derived.Test.YtmfpjnlplimkeaaGreatKeep
import Derived.Deep.QuietTactic
import Derived.BigQuiet
namespace Go.Proofs.YtmfpjnlplimkeaaGreat
open Go.ChangeShapes Go.WideShapes Go.ChangeAt Go.RowKit
set_option linter.unusedVariables false

def SamePost (w : World) (e : Ending) (w' : World) : Prop := e = .returned (.bool true) ∧ ∃ d, w' = w.drewN d
end Go.Proofs.YtmfpjnlplimkeaaGreat
