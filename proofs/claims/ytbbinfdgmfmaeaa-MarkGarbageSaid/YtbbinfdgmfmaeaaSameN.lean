/- Contract of vinculumref1.SameInts: two rows of the same ints: it answers true; no further condition. -/
import Derived.Test.YtbbinfdgmfmaeaaPushN
import Derived.Deep.QuietTactic
import Derived.BigQuiet
namespace Go.Proofs.Ytbbinfdgmfmaeaa
open Go.ChangeShapes Go.WideShapes Go.ChangeAt Go.RowKit
set_option linter.unusedVariables false

def SameNPost (w : World) (e : Ending) (w' : World) : Prop := e = .returned (.bool true) ∧ ∃ d, w' = w.drewN d
/-- A slice of the call's own, written out but for where it lies. -/
theorem OwnN.out {B : Nat} {w : World} {v : Value} {zs : List Int} (h : OwnN B w v zs) : ∃ A c, v = .slice A zs.length c ∧ (A = none → zs = []) ∧ ∀ ad, A = some ad → ∃ g, ad = ⟨g, 0, none⟩ := by
  obtain ⟨h1, h2⟩ := id h
  rcases h2 with ⟨h3, h4⟩ | ⟨g, c, cur, hv, _⟩
  · exact ⟨none, 0, by rw [h4]; exact h3, fun _ => List.length_eq_zero_iff.1 h4, fun ad h => by cases h⟩
  · exact ⟨some ⟨g, 0, none⟩, c, hv, fun h => (by cases h), fun ad h => by cases h; exact ⟨g, rfl⟩⟩
end Go.Proofs.Ytbbinfdgmfmaeaa
