/- The contracts of package see with answers under names of one's own; what layer 7's awake answers; conditions: those of IsLook. -/
import Derived.Test.YtbbinfdgmfmaeaaSeeP2
import Derived.Test.YtbbinfdgmfmaeaaSameN
namespace Go.Proofs.Ytbbinfdgmfmaeaa
open Go.ChangeShapes Go.WideShapes Go.ChangeAt Go.RowKit
set_option linter.unusedVariables false

/-- The same, its answers under names of one's own. -/
theorem psee_to {fv : Value} {P : World → Prop} {L : Int → Option Tx} {w : World} (h : IsLook fv P L) (hP : P w) (a b me t v : Int) (zs : List Int) (hr : seeI L a b me t = (v, zs)) (a0 : 0 ≤ a) (a1 : a ≤ 18446744073709551615) (b0 : 0 ≤ b) (b1 : b ≤ 18446744073709551615) :
    Calls Try.prog 17 #[.int .u64 a, .int .u64 b, .int .i64 me, .int .u64 t, fv] w fun e w' => ∃ A c, e = .returned (.tuple #[.int .i64 v, .slice A zs.length c]) ∧ OwnN w.heap.size w' (.slice A zs.length c) zs ∧ Below w.heap.size w w' := by
  refine (psee_any h hP a b me t a0 a1 b0 b1).mono ?_
  rw [hr]
  rintro e w' ⟨x, rfl, o, bl⟩
  obtain ⟨A, c, rfl, _⟩ := o.out
  exact ⟨A, c, rfl, o, bl⟩
theorem psee_one {fv : Value} {P : World → Prop} {L : Int → Option Tx} {w : World} (h : IsLook fv P L) (hP : P w) (a b me t v x : Int) (hr : seeI L a b me t = (v, [x])) (a0 : 0 ≤ a) (a1 : a ≤ 18446744073709551615) (b0 : 0 ≤ b) (b1 : b ≤ 18446744073709551615) :
    Calls Try.prog 17 #[.int .u64 a, .int .u64 b, .int .i64 me, .int .u64 t, fv] w fun e w' => ∃ g c, e = .returned (.tuple #[.int .i64 v, .slice (some ⟨g, 0, none⟩) 1 c]) ∧ OwnN w.heap.size w' (.slice (some ⟨g, 0, none⟩) 1 c) [x] ∧ w'.cell? ⟨g, 0, none⟩ = some (.int .i64 x) ∧ w.heap.size ≤ g ∧ Below w.heap.size w w' := by
  refine (psee_to h hP a b me t v [x] hr a0 a1 b0 b1).mono ?_
  rintro e w' ⟨A, c, rfl, o, bl⟩
  obtain ⟨A2, c2, e2, hn, hs⟩ := o.out
  cases A with
  | none => simp at e2; obtain ⟨rfl, rfl⟩ := e2; simpa using hn rfl
  | some ad =>
    simp at e2
    obtain ⟨rfl, rfl⟩ := e2
    obtain ⟨g, rfl⟩ := hs ad rfl
    exact ⟨g, c, rfl, o, by simpa using o.cell 0 (by simp), (OwnN.lt o rfl).1, bl⟩
theorem pbegin_to {fv : Value} {P : World → Prop} {L : Int → Option Tx} {w : World} (h : IsLook fv P L) (hP : P w) (a me t p q : Int) (hr : beginI L a me t = (p, q)) (a0 : 0 ≤ a) (a1 : a ≤ 18446744073709551615) :
    Calls Try.prog 28 #[.int .u64 a, .int .i64 me, .int .u64 t, fv] w fun e w' => e = .returned (.tuple #[.int .i64 p, .int .i64 q]) ∧ Below w.heap.size w w' := by
  have := pbegin_any h hP a me t a0 a1
  rw [hr] at this
  exact this
theorem pend_to {fv : Value} {P : World → Prop} {L : Int → Option Tx} {w : World} (h : IsLook fv P L) (hP : P w) (a me t p q : Int) (hr : endI L a me t = (p, q)) (a0 : 0 ≤ a) (a1 : a ≤ 18446744073709551615) :
    Calls Try.prog 29 #[.int .u64 a, .int .i64 me, .int .u64 t, fv] w fun e w' => e = .returned (.tuple #[.int .i64 p, .int .i64 q]) ∧ Below w.heap.size w w' := by
  have := pend_any h hP a me t a0 a1
  rw [hr] at this
  exact this
end Go.Proofs.Ytbbinfdgmfmaeaa
