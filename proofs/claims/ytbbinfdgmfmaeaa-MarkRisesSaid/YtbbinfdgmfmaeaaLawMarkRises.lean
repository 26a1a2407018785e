/- Proved here: vinculumlaw17.MarkRises returns true and leaves its arguments as they were, for any four 64-bit words; no further condition. -/
import Derived.Test.YtbbinfdgmfmaeaaMkD
import Derived.ChangeOld
import Derived.Deep.CutRange
import Derived.Deep.CutBlock
namespace Go.Proofs.Ytbbinfdgmfmaeaa.markRises
open Go.ChangeShapes Go.WideShapes Go.ChangeAt Go.RowKit
set_option linter.unusedVariables false
theorem chain {w w1 w2 : World} (h : Below w.heap.size w w1) (k : Below w1.heap.size w1 w2) : Below w.heap.size w w2 := h.trans (k.mono h.size)
set_option maxRecDepth 100000 in
set_option maxHeartbeats 4000000 in
theorem walk (a0 a1 a2 a3 : Int) (w : World) (w0 : (Lit.int .u64 a0).wf = true) (w1 : (Lit.int .u64 a1).wf = true) (w2 : (Lit.int .u64 a2).wf = true) (w3 : (Lit.int .u64 a3).wf = true) :
    Calls Try.prog 4 #[.int .u64 a0, .int .u64 a1, .int .u64 a2, .int .u64 a3] w fun e w' => e = .returned (.bool true) ∧ Below w.heap.size w w' := by
  have u0 : U64 a0 := bounds_u64 w0
  have u1 : U64 a1 := bounds_u64 w1
  have u2 : U64 a2 := bounds_u64 w2
  have u3 : U64 a3 := bounds_u64 w3
  clear w0 w1 w2 w3
  go_enter Try.func4, Try.ntmps4
  go_upto_if 11 with fail
  go_cut [2, 3] from 9 to 13 (fun x y wx => w = wx ∧ ∃ a b : Int, x = .int .u64 a ∧ y = .int .u64 b ∧ U64 a ∧ U64 b ∧ a ≤ b)
  case first =>
    by_cases h : a3 < a2
    · go_wp2_with fail
      go_meet
      case rel => exact ⟨rfl, a3, a2, rfl, rfl, u3, u2, by omega⟩
    · go_wp2_with fail
      go_meet
      case rel => exact ⟨rfl, a2, a3, rfl, rfl, u2, u3, by omega⟩
  case rest =>
  obtain ⟨rfl, a, b, rfl, rfl, ua, ub, hab⟩ := hcut
  have g2 : garbI 2305843009213693952 b = false := decide_eq_false (by omega)
  have g3 : garbI 0 b = false := decide_eq_false (by omega)
  have g4 : garbI 4611686018427387909 b = false := decide_eq_false (by omega)
  cases ga : garbI a1 a with
  | true =>
    have gb : garbI a1 b = true := by
      have := of_decide_eq_true ga
      exact decide_eq_true (by omega)
    go_wp2_with fail
    refine (garb_any a0 a1 a u0 u1 ua true ga _).mono ?_
    rintro e y1 ⟨rfl, b1⟩
    go_wp2_with fail
    refine (garb_any a0 a1 b u0 u1 ub true gb _).mono ?_
    rintro e y2 ⟨rfl, b2⟩
    have b1 := chain b1 b2
    clear b2
    go_wp2_with fail; refine (garb_any a0 2305843009213693952 b u0 ⟨by omega, by omega⟩ ub false g2 _).mono ?_; rintro e z1 ⟨rfl, c1⟩; have b1 := chain b1 c1; clear c1; go_wp2_with fail; refine (garb_any a0 0 b u0 ⟨by omega, by omega⟩ ub false g3 _).mono ?_; rintro e z2 ⟨rfl, c1⟩; have b1 := chain b1 c1; clear c1; go_wp2_with fail; refine (garb_any a0 4611686018427387909 b u0 ⟨by omega, by omega⟩ ub false g4 _).mono ?_; rintro e z3 ⟨rfl, c1⟩; have b1 := chain b1 c1; clear c1; go_wp2_with fail; refine (awake17_any _).mono ?_; rintro e z4 ⟨rfl, c1⟩; have b1 := chain b1 c1; go_wp2; go_ret; exact ⟨rfl, b1⟩
  | false =>
    go_wp2_with fail
    refine (garb_any a0 a1 a u0 u1 ua false ga _).mono ?_
    rintro e y1 ⟨rfl, b1⟩
    go_wp2_with fail; refine (garb_any a0 2305843009213693952 b u0 ⟨by omega, by omega⟩ ub false g2 _).mono ?_; rintro e z1 ⟨rfl, c1⟩; have b1 := chain b1 c1; clear c1; go_wp2_with fail; refine (garb_any a0 0 b u0 ⟨by omega, by omega⟩ ub false g3 _).mono ?_; rintro e z2 ⟨rfl, c1⟩; have b1 := chain b1 c1; clear c1; go_wp2_with fail; refine (garb_any a0 4611686018427387909 b u0 ⟨by omega, by omega⟩ ub false g4 _).mono ?_; rintro e z3 ⟨rfl, c1⟩; have b1 := chain b1 c1; clear c1; go_wp2_with fail; refine (awake17_any _).mono ?_; rintro e z4 ⟨rfl, c1⟩; have b1 := chain b1 c1; go_wp2; go_ret; exact ⟨rfl, b1⟩
theorem own : ownKnob Try.prog.godebug = none := by kernel_rfl
theorem laidOut : laidOutB Try.prog = true := by kernel_rfl
set_option maxRecDepth 100000 in
theorem lifted (os : Os) (started : os.Started) (H : Type) (enc : TypeId × Value → H) :
    ReturnsInHanded {} Try.checked os 4 .any (Rows.markRisesSpec.pre6 enc Try.prog Try.f4 Rows.markRisesRow.domain false) (Rows.markRisesSpec.post enc Try.prog Try.f4 false true false false) := by
  refine returnsInHanded_of_change (C := Try.checked) own started (by kernel_rfl) Try.func4
    (ChangeSpec.witness6 (enc := enc) (C := Try.checked) false ⟨#[], #[.int .u64 0, .int .u64 0, .int .u64 0, .int .u64 0], []⟩ 8 (by kernel_rfl) (by kernel_rfl) (by kernel_rfl) (by kernel_rfl)) ?_
  intro W base args ds gs before hval0 hW hcnd _
  have hval : ∀ (j : Nat) t v, Try.f4.params[j]? = some t → args[j]? = some v → Value.okWide Try.prog W .any base t v := hval0
  have hW' := hW
  obtain ⟨p, q, hA0, hV, rfl, hfz, hnd⟩ := hW
  have hA : DataW.TrodAll enc Try.prog W 0 (fun _ => true) true Try.f4.params.toList args.toList ds p := hA0
  rw [Try.params4] at hA hval
  obtain ⟨v0, vs0, d0, ds0, p0, q0, hargs, rfl, rfl, h0, r0⟩ := trodAll_cons hA
  obtain ⟨v1, vs1, d1, ds1, p1, q1, rfl, rfl, rfl, h1, r1⟩ := trodAll_cons r0
  obtain ⟨v2, vs2, d2, ds2, p2, q2, rfl, rfl, rfl, h2, r2⟩ := trodAll_cons r1
  obtain ⟨v3, vs3, d3, ds3, p3, q3, rfl, rfl, rfl, h3, r3⟩ := trodAll_cons r2
  obtain ⟨rfl, rfl, rfl⟩ := trodAll_nil r3
  obtain rfl : args = #[v0, v1, v2, v3] := by cases args; simp_all
  obtain ⟨rfl, rfl⟩ := trodVars_none hV
  obtain ⟨a0, rfl, rfl, rfl, w0⟩ := open_int Try.underlying26 (hval 0 26 v0 rfl rfl) h0
  obtain ⟨a1, rfl, rfl, rfl, w1⟩ := open_int Try.underlying26 (hval 1 26 v1 rfl rfl) h1
  obtain ⟨a2, rfl, rfl, rfl, w2⟩ := open_int Try.underlying26 (hval 2 26 v2 rfl rfl) h2
  obtain ⟨a3, rfl, rfl, rfl, w3⟩ := open_int Try.underlying26 (hval 3 26 v3 rfl rfl) h3
  clear hA0 hval0
  refine (walk a0 a1 a2 a3 W w0 w1 w2 w3).mono fun e W' ⟨he, bel⟩ => ?_
  subst he
  exact ⟨_, rfl, _, _, _, [], _, [], hW', trodAll_mk1 (shut_bool Try.underlying4 _), (trodAll_cons_mk (shut_int Try.underlying26 w0) (trodAll_cons_mk (shut_int Try.underlying26 w1) (trodAll_cons_mk (shut_int Try.underlying26 w2) (trodAll_cons_mk (shut_int Try.underlying26 w3) trodAll_mk0)))), rfl, bel.frame _, fun h => by cases h⟩
theorem over : Rows.markRisesRow.holds Try.pinned (OpenSpec.ofChange Rows.markRisesSpec) :=
  OpenClaim.holds_of_wide 4 Try.f4 rfl rfl rfl rfl rfl rfl rfl ⟨rfl, rfl, rfl, rfl, rfl⟩ rfl rfl rfl rfl rfl (by kernel_rfl) Try.func4 (by kernel_rfl)
    (of_decide_eq_true (by kernel_rfl)) (by unfold Func.isWrapper; first | (rw [if_pos (by decide +kernel)]; kernel_rfl) | (rw [if_neg (by decide +kernel)]; exact ⟨rfl, rfl⟩))
    (fun os started H enc _ => lifted os started H enc)
theorem proved : Rows.MarkRisesSaid := over
end Go.Proofs.Ytbbinfdgmfmaeaa.markRises
