/- The contracts of package may with answers under names of one's own; what layer 8's awake answers; conditions: those of IsLook. -/
import Derived.Test.YtdkgngdfehllcaaMayP
import Derived.Test.YtdkgngdfehllcaaPush
namespace Go.Proofs.Ytdkgngdfehllcaa
open Go.ChangeShapes Go.WideShapes Go.ChangeAt Go.RowKit
set_option linter.unusedVariables false

section
variable {fv : Value} {P : World → Prop} {L : Int → Option Tx} {w : World}
theorem pwrite_to (h : IsLook fv P L) (hP : P w) (a me p q : Int) (hr : writeI L a me = (p, q)) (a0 : 0 ≤ a) (a1 : a ≤ 18446744073709551615) :
    Calls Try.prog 33 #[.int .u64 a, .int .i64 me, fv] w fun e w' => e = .returned (.tuple #[.int .i64 p, .int .i64 q]) ∧ Below w.heap.size w w' := by
  have := pwrite_any h hP a me a0 a1
  rw [hr] at this
  exact this
theorem pfirst_to (h : IsLook fv P L) (hP : P w) {B : Option Addr} {m d : Nat} (ws : List Int) (r : IsRow .u64 w B m d ws) (me t : Int) (v : Bool) (hr : firstI L ws me t = v) :
    Calls Try.prog 37 #[.slice B m d, .int .i64 me, .int .u64 t, fv] w fun e w' => e = .returned (.bool v) ∧ Below w.heap.size w w' := by
  rw [← hr]
  exact pfirst_any h hP r me t
end
theorem row_nil (k : IntKind) (w : World) : IsRow k w none 0 0 [] := ⟨rfl, Nat.le_refl _, by omega, fun h => absurd h (Nat.not_lt_zero _), by simp⟩
/-- A slice of words that the call has made itself reads so. -/
theorem OwnU.row {B : Nat} {w : World} {A : Option Addr} {c : Nat} {zs : List Int} (h : OwnU B w (.slice A zs.length c) zs) (hb : ∀ x ∈ zs, (Lit.int .u64 x).wf = true) : IsRow .u64 w A zs.length c zs := by
  obtain ⟨h1, h2⟩ := id h
  rcases h2 with ⟨h3, h4⟩ | ⟨g, c', cur, hv, _, hh, hc, hm, _⟩
  · obtain rfl : zs = [] := List.length_eq_zero_iff.1 h4
    simp at h3
    obtain ⟨rfl, rfl⟩ := h3
    exact row_nil _ _
  · simp at hv
    obtain ⟨rfl, rfl⟩ := hv
    refine ⟨rfl, hc, by unfold maxLen at hm; omega, fun _ => ⟨g, 0, rfl, lt_of_block hh, fun j hj => ?_⟩, hb⟩
    have := OwnU.cell h j hj
    simpa using this
theorem awake8_any (w : World) : Calls Try.prog 35 #[] w fun e w' => e = .returned (.bool true) ∧ Below w.heap.size w w' := by
  go_enter Try.func35, Try.ntmps35
  go_wp2_with fail
  refine (ever7_any _).mono ?_
  rintro e w1 ⟨rfl, rfl⟩
  go_wp2_with fail
  refine (pwrite_to look_nil trivial 2305843009213693952 1 1 0 (by decide) (by omega) (by omega)).mono ?_
  rintro e w1 ⟨rfl, b1⟩
  go_wp2_with fail
  refine (pwrite_to look_nil trivial 5 1 2 0 (by decide) (by omega) (by omega)).mono ?_
  rintro e w2 ⟨rfl, b2⟩
  go_wp2_with fail
  refine (pfirst_to look_nil trivial [] (row_nil _ _) 1 5 true rfl).mono ?_
  rintro e w3 ⟨rfl, b3⟩
  go_wp2
  go_ret
  exact ⟨rfl, thru (thru b1 b2) b3⟩
end Go.Proofs.Ytdkgngdfehllcaa
