/- Package chain, fourth part: Cut of any Chain over a Store and a word of an Arena: what stands nowhere, what stands first, what stands behind another one; condition: 4095 links at most, the counts of accesses at most 2^61. -/
import Derived.Test.YtmfpjnlplimkeaaChP
namespace Go.Proofs.Ytmfpjnlplimkeaa
open Go.ChangeShapes Go.WideShapes Go.ChangeAt Go.RowKit
set_option linter.unusedVariables false

def CutR (w : World) (p : Nat) (S : Nat → Prop) (pa qa q at' : Nat) (s2 : RS) (zs2 : List Int) (C2 : Int) (m : Nat) (dv : Value) (wr : World) : Prop :=
  (m = 1 ∧ dv = .bool false ∧ w = wr) ∨ (m = 0 ∧ dv = .bool true ∧ ∃ S', CG wr p S' s2 pa qa zs2 C2 q at' ∧ Turn pa qa S S' w wr)
section
variable {w w1 w' : World} {p pa qa q at' : Nat} {S S1 S' : Nat → Prop} {s s' : RS} {zs zs' : List Int} {C C' : Int} {l : List Int}
theorem slice_form {B : Nat} {w : World} {v : Value} (o : OwnU B w v l) : ∃ A c, v = Value.slice A l.length c := by
  rcases OwnU.shape o with ⟨h1, h2⟩ | ⟨g, c, h1, _⟩
  · exact ⟨none, 0, by rw [h1, h2]; rfl⟩
  · exact ⟨_, c, h1⟩
end
end Go.Proofs.Ytmfpjnlplimkeaa
