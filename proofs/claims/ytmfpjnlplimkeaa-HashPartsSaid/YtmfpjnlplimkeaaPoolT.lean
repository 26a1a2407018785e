/- Contract of Take of package pool: the list is made where it is not yet; then its top is taken, or none is there; condition: a state that calls can bring about. -/
import Derived.Test.YtmfpjnlplimkeaaPoolB
import Derived.Test.YtmfpjnlplimkeaaOnceDo
namespace Go.Proofs.Ytmfpjnlplimkeaa
open Go.ChangeShapes Go.WideShapes Go.ChangeAt Go.RowKit
set_option linter.unusedVariables false

section
variable {w : World} {p b1 : Nat} {d m : Int} {vf : Value} {u : Int} {s : St}
/-- The list is there. -/
def Listed (p b1 : Nat) (vf : Value) (u : Int) (s : St) (w w' : World) : Prop :=
  ∃ b2, Core w' p b1 1 0 (.slice (some ⟨b2, 0, none⟩) s.stack.length s.tags.length) u s ∧ OwnP w' (.slice (some ⟨b2, 0, none⟩) s.stack.length s.tags.length) s.stack ∧ p ≠ b2 ∧ b1 ≠ b2 ∧ Keep (fun k => k = p) w w' ∧ (vf.ownBlock = some b2 ∨ w.heap.size ≤ b2)
def DoPost (p b1 : Nat) (vf : Value) (u : Int) (s : St) (w : World) (e : Ending) (w' : World) : Prop := e = .returned (.tuple #[]) ∧ Listed p b1 vf u s w w'
theorem stack_all (s : St) (hg : s.given = []) (hf : s.fresh = 0) : s.stack.length = s.tags.length := by simp [St.stack, hg, hf]
theorem Own.cut {g c : Nat} {w : World} {zs : List Int} {x : Int} (h : OwnP w (.slice (some ⟨g, 0, none⟩) (zs.length + 1) c) (zs ++ [x])) : OwnP w (.slice (some ⟨g, 0, none⟩) zs.length c) zs := by
  obtain ⟨h1, h2⟩ := id h
  refine ⟨by simp, .inr ?_⟩
  rcases h2 with ⟨h2, _⟩ | ⟨g', c', cur, hv, hb, hh, hl, hm, hs, ht⟩
  · simp at h2
  · refine ⟨g', c', cur, ?_, hb, hh, by simp at hl; omega, hm, hs, ?_⟩
    · simp at hv ⊢; exact ⟨hv.1, hv.2⟩
    · have := congrArg (List.take zs.length) ht
      simpa [List.take_take] using this
def TakeP (v : Value) (p b1 : Nat) (vf : Value) (st : List Int) (n : Nat) (u : Int) (s : St) (w : World) (e : Ending) (w' : World) : Prop :=
  e = .returned v ∧ ∃ b2, Core w' p b1 1 0 (.slice (some ⟨b2, 0, none⟩) st.length n) u s ∧ OwnP w' (.slice (some ⟨b2, 0, none⟩) st.length n) st ∧ p ≠ b2 ∧ b1 ≠ b2 ∧ Keep (fun k => k = p ∨ k = b1) w w' ∧ (vf.ownBlock = some b2 ∨ w.heap.size ≤ b2)
end
end Go.Proofs.Ytmfpjnlplimkeaa
