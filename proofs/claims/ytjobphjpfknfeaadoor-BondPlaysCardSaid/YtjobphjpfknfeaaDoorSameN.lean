/- Contract of vinculumref1.SameInts: two rows of the same ints: it answers true; no further condition. -/
import Derived.Test.YtjobphjpfknfeaaDoorPushN
import Derived.Deep.QuietTactic
import Derived.BigQuiet
namespace Go.Proofs.YtjobphjpfknfeaaDoor
open Go.ChangeShapes Go.WideShapes Go.ChangeAt Go.RowKit
set_option linter.unusedVariables false

def SameNPost (w : World) (e : Ending) (w' : World) : Prop := e = .returned (.bool true) ∧ ∃ d, w' = w.drewN d
theorem sameN_yes (b b2 o o2 c1 c2 : Nat) (xs : List Int) (w : World) (hl : xs.length ≤ 100000)
    (h1 : ∀ i, i < xs.length → w.cell? ⟨b, o + i, none⟩ = some (.int .i64 (xs.getD i 0))) (h2 : ∀ i, i < xs.length → w.cell? ⟨b2, o2 + i, none⟩ = some (.int .i64 (xs.getD i 0))) :
    Calls Tryd.prog 15 #[.slice (some ⟨b, o, none⟩) xs.length c1, .slice (some ⟨b2, o2, none⟩) xs.length c2] w (SameNPost w) := by
  go_enter Tryd.func15, Tryd.ntmps15
  go_wp2
  go_loopw [5] (fun i wr => ∃ k d : Nat, k ≤ xs.length ∧ i = .int .i64 k ∧ wr = w.drewN d) (fun i _ => xs.length - (intOf i).toNat)
  case atStart => exact ⟨0, 0, Nat.zero_le _, rfl, rfl⟩
  case round =>
    obtain ⟨k, d, hk, rfl, rfl⟩ := hrel
    by_cases hlt : k < xs.length
    · have c1 := h1 k hlt
      have c2 := h2 k hlt
      obtain ⟨y, ey⟩ : ∃ y, xs.getD k 0 = y := ⟨_, rfl⟩
      rw [ey] at c1 c2
      clear ey h1 h2
      go_wp2_with fail
      go_quiet (fail)
      go_wp2
      go_roundw
      case rel => exact ⟨k + 1, _, by omega, by go_num, rfl⟩
      case measure => simp [intOf]; omega
    · obtain rfl : k = xs.length := by omega
      clear h1 h2
      go_wp2
      go_ret
      exact ⟨rfl, d, rfl⟩
/-- A slice of the call's own, written out but for where it lies. -/
theorem OwnN.out {B : Nat} {w : World} {v : Value} {zs : List Int} (h : OwnN B w v zs) : ∃ A c, v = .slice A zs.length c ∧ (A = none → zs = []) ∧ ∀ ad, A = some ad → ∃ g, ad = ⟨g, 0, none⟩ := by
  obtain ⟨h1, h2⟩ := id h
  rcases h2 with ⟨h3, h4⟩ | ⟨g, c, cur, hv, _⟩
  · exact ⟨none, 0, by rw [h4]; exact h3, fun _ => List.length_eq_zero_iff.1 h4, fun ad h => by cases h⟩
  · exact ⟨some ⟨g, 0, none⟩, c, hv, fun h => (by cases h), fun ad h => by cases h; exact ⟨g, rfl⟩⟩
theorem sameN_nil (A1 A2 : Option Addr) (c1 c2 : Nat) (w : World) : Calls Tryd.prog 15 #[.slice A1 0 c1, .slice A2 0 c2] w (SameNPost w) := by
  go_enter Tryd.func15, Tryd.ntmps15
  go_wp2
  go_loopw [5] (fun i wr => i = .int .i64 0 ∧ wr = w) (fun _ _ => 0)
  case atStart => exact ⟨rfl, rfl⟩
  case round =>
    obtain ⟨rfl, rfl⟩ := hrel
    go_wp2
    go_ret
    exact ⟨rfl, 0, rfl⟩
theorem sameN_own {B B2 : Nat} {w : World} {v1 v2 : Value} {zs : List Int} (h1 : OwnN B w v1 zs) (h2 : OwnN B2 w v2 zs) (hl : zs.length ≤ 100000) : Calls Tryd.prog 15 #[v1, v2] w (SameNPost w) := by
  obtain ⟨A1, c1, e1, n1, s1⟩ := h1.out
  obtain ⟨A2, c2, e2, n2, s2⟩ := h2.out
  subst e1; subst e2
  by_cases h0 : zs = []
  · subst h0
    exact sameN_nil A1 A2 c1 c2 w
  · cases A1 with
    | none => exact absurd (n1 rfl) h0
    | some a1 =>
      cases A2 with
      | none => exact absurd (n2 rfl) h0
      | some a2 =>
        obtain ⟨g1, rfl⟩ := s1 _ rfl
        obtain ⟨g2, rfl⟩ := s2 _ rfl
        exact sameN_yes g1 g2 0 0 c1 c2 zs w hl (fun i hi => by rw [Nat.zero_add]; exact h1.cell i hi) (fun i hi => by rw [Nat.zero_add]; exact h2.cell i hi)
end Go.Proofs.YtjobphjpfknfeaaDoor
