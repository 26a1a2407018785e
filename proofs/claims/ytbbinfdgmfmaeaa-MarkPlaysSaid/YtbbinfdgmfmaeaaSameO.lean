/- vinculumref1.Same of two lists of the call's own that hold the same words. -/
import Derived.Test.YtbbinfdgmfmaeaaSame
import Derived.Test.YtbbinfdgmfmaeaaPush
namespace Go.Proofs.Ytbbinfdgmfmaeaa
open Go.ChangeShapes Go.WideShapes Go.ChangeAt Go.RowKit
set_option linter.unusedVariables false

/-- A slice of the call's own, written out but for where it lies. -/
theorem OwnU.out {B : Nat} {w : World} {v : Value} {zs : List Int} (h : OwnU B w v zs) : ∃ A c, v = .slice A zs.length c ∧ (A = none → zs = []) ∧ ∀ ad, A = some ad → ∃ g, ad = ⟨g, 0, none⟩ := by
  obtain ⟨h1, h2⟩ := id h
  rcases h2 with ⟨h3, h4⟩ | ⟨g, c, cur, hv, _⟩
  · exact ⟨none, 0, by rw [h4]; exact h3, fun _ => List.length_eq_zero_iff.1 h4, fun ad h => by cases h⟩
  · exact ⟨some ⟨g, 0, none⟩, c, hv, fun h => (by cases h), fun ad h => by cases h; exact ⟨g, rfl⟩⟩
theorem same_nil (A1 A2 : Option Addr) (c1 c2 : Nat) (w : World) : Calls Try.prog 15 #[.slice A1 0 c1, .slice A2 0 c2] w (SamePost w) := by
  go_enter Try.func15, Try.ntmps15
  go_wp2
  go_loopw [5] (fun i wr => i = .int .i64 0 ∧ wr = w) (fun _ _ => 0)
  case atStart => exact ⟨rfl, rfl⟩
  case round =>
    obtain ⟨rfl, rfl⟩ := hrel
    go_wp2
    go_ret
    exact ⟨rfl, 0, rfl⟩
theorem same_own {B B2 : Nat} {w : World} {v1 v2 : Value} {zs : List Int} (h1 : OwnU B w v1 zs) (h2 : OwnU B2 w v2 zs) (hl : zs.length ≤ 100000) : Calls Try.prog 15 #[v1, v2] w (SamePost w) := by
  obtain ⟨A1, c1, e1, n1, s1⟩ := h1.out
  obtain ⟨A2, c2, e2, n2, s2⟩ := h2.out
  subst e1; subst e2
  by_cases h0 : zs = []
  · subst h0
    exact same_nil A1 A2 c1 c2 w
  · cases A1 with
    | none => exact absurd (n1 rfl) h0
    | some a1 =>
      cases A2 with
      | none => exact absurd (n2 rfl) h0
      | some a2 =>
        obtain ⟨g1, rfl⟩ := s1 _ rfl
        obtain ⟨g2, rfl⟩ := s2 _ rfl
        exact same_yes g1 g2 0 0 c1 c2 zs w hl (fun i hi => by rw [Nat.zero_add]; exact h1.cell i hi) (fun i hi => by rw [Nat.zero_add]; exact h2.cell i hi)
end Go.Proofs.Ytbbinfdgmfmaeaa
