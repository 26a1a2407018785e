/- slices.Index and slices.Contains of a list of words of the call's own: the first place of a word, or -1; whether it is there. Condition: the list has 100,000 elements at most. -/
import Derived.Test.YtmfpjnlplimkeaaChAt
namespace Go.Proofs.Ytmfpjnlplimkeaa
open Go.ChangeShapes Go.WideShapes Go.ChangeAt Go.RowKit
set_option linter.unusedVariables false

end Go.Proofs.Ytmfpjnlplimkeaa
