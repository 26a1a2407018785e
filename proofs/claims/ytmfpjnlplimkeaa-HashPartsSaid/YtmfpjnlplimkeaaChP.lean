/- Package chain, third part: Push and Cut of any Chain over a Store and a word of an Arena; condition: 4095 links at most, the counts of accesses at most 2^61. -/
import Derived.Test.YtmfpjnlplimkeaaChM
namespace Go.Proofs.Ytmfpjnlplimkeaa
open Go.ChangeShapes Go.WideShapes Go.ChangeAt Go.RowKit
set_option linter.unusedVariables false

section
variable {w w1 w' : World} {p pa qa q at' : Nat} {S S1 S' : Nat → Prop} {s s' : RS} {zs zs' : List Int} {C C' : Int} {l : List Int}
theorem head_u64 (ln : Linked s l) (ok : ROk s) : U64 (l.headD 0) := by
  have := ln.u64 ok 0
  cases l <;> exact this
end
end Go.Proofs.Ytmfpjnlplimkeaa
