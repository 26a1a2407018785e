/- Package hash, sixth part: Drop of an Index in memory. -/
import Derived.Test.YtmfpjnlplimkeaaHsF
namespace Go.Proofs.Ytmfpjnlplimkeaa
open Go.ChangeShapes Go.WideShapes Go.ChangeAt Go.RowKit
set_option linter.unusedVariables false

theorem HOk.more {s : RS} {h : HS} (a : HOk s h) (n : Nat) : HOk (s.more n) h := ⟨fun k l e => (a.ln k l e).more n, a.dj, a.pt, a.lt, a.nd⟩
theorem HS.set_same {h : HS} {key : Nat} {l : List Int} (hl : h.ch key = some l) : h.set key l = h := by
  cases h with
  | mk ch put =>
    unfold HS.set
    congr 1
    funext k
    by_cases e : k = key
    · subst e; rw [if_pos rfl]; exact hl.symm
    · rw [if_neg e]
section
variable {w w' : World} {x p n : Nat} {s s' : RS} {h h' : HS} {mk : Option Nat} {vs : Nat → Value} {qf pf af o : Nat → Nat} {C C' : Int} {T : Nat → Prop}
end
end Go.Proofs.Ytmfpjnlplimkeaa
