/- Where a word stands in a list of one's own (vinculumlaw9.at): its first place, or nowhere. No condition but the list's length of 100,000 at most. -/
import Derived.Test.YtmfpjnlplimkeaaGreatApp
import Derived.Test.YtmfpjnlplimkeaaGreatChI
namespace Go.Proofs.YtmfpjnlplimkeaaGreat
open Go.ChangeShapes Go.WideShapes Go.ChangeAt Go.RowKit
set_option linter.unusedVariables false

/-- It stands there first. -/
structure FirstAt (l : List Int) (x : Int) (i : Nat) : Prop where
  lt : i < l.length
  eq : l.getD i 0 = x
  no : ∀ m, m < i → l.getD m 0 ≠ x
theorem first_or (x : Int) : ∀ l : List Int, x ∉ l ∨ ∃ i, FirstAt l x i
  | [] => .inl (by simp)
  | a :: l => by
    by_cases h : a = x
    · exact .inr ⟨0, by simp, by simpa using h, fun m hm => absurd hm (Nat.not_lt_zero m)⟩
    · rcases first_or x l with h1 | ⟨i, h1⟩
      · exact .inl (by simp only [List.mem_cons, not_or]; exact ⟨fun e => h e.symm, h1⟩)
      · refine .inr ⟨i + 1, by have := h1.lt; simp; omega, by rw [List.getD_cons_succ]; exact h1.eq, fun m hm => ?_⟩
        cases m with
        | zero => rw [List.getD_cons_zero]; exact h
        | succ m => rw [List.getD_cons_succ]; exact h1.no m (by omega)
theorem FirstAt.mem {l : List Int} {x : Int} {i : Nat} (h : FirstAt l x i) : x ∈ l := by rw [← h.eq]; exact getD_mem h.lt
end Go.Proofs.YtmfpjnlplimkeaaGreat
