/- Contract of Give of package pool: a link of a taken slot; condition: a state that calls can bring about. -/
import Derived.Test.YtmfpjnlplimkeaaPoolT
namespace Go.Proofs.Ytmfpjnlplimkeaa
open Go.ChangeShapes Go.WideShapes Go.ChangeAt Go.RowKit
set_option linter.unusedVariables false

section
variable {w : World} {p b1 b2 : Nat} {d m : Int} {vf : Value} {u : Int} {s : St}
def GiveP (p b1 b2 : Nat) (st : List Int) (n : Nat) (u : Int) (s : St) (w : World) (e : Ending) (w' : World) : Prop :=
  e = .returned (.int .i64 0) ∧ Core w' p b1 1 0 (.slice (some ⟨b2, 0, none⟩) st.length n) u s ∧ OwnP w' (.slice (some ⟨b2, 0, none⟩) st.length n) st ∧ Keep (fun k => k = p ∨ k = b1 ∨ k = b2) w w'
theorem one_liesP (w : World) (i : Nat) : ∀ j u, [Value.int .i64 (i : Int)][j]? = some u → (w.alloc (.cells #[.int .i64 (i : Int)] 3)).cell? ((⟨w.heap.size, 0, none⟩ : Addr).add j) = some u := by
  intro j u hj
  match j, hj with
  | 0, hj => simp at hj; subst hj; simp [Addr.add]
end
end Go.Proofs.Ytmfpjnlplimkeaa
