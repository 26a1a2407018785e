/- Proved here: vinculumlaw7.SeeNone returns true and leaves its arguments as they were, for any three words and any int; no further condition. -/
import Derived.Test.YtdkgngdfehllcaaSeeD
import Derived.Test.YtdkgngdfehllcaaMask
import Derived.Test.YtdkgngdfehllcaaSeeF
import Derived.ChangeOld
namespace Go.Proofs.Ytdkgngdfehllcaa.seeNone
open Go.ChangeShapes Go.WideShapes Go.ChangeAt Go.RowKit
set_option linter.unusedVariables false

set_option maxHeartbeats 4000000 in
theorem walk (a0 a1 a2 a3 : Int) (w : World) (w0 : (Lit.int .u64 a0).wf = true) (w1 : (Lit.int .u64 a1).wf = true) (w2 : (Lit.int .i64 a2).wf = true) (w3 : (Lit.int .u64 a3).wf = true) :
    Calls Try.prog 7 #[.int .u64 a0, .int .u64 a1, .int .i64 a2, .int .u64 a3] w fun e w' => e = .returned (.bool true) ∧ Below w.heap.size w w' := by
  obtain ⟨p0, p1⟩ := bounds_u64 w0
  obtain ⟨q0, q1⟩ := bounds_u64 w1
  obtain ⟨s0, s1⟩ := bounds_u64 w3
  have h0 := u64_mask5 a0 p0 p1
  have h1 := u64_mask5 a1 q0 q1
  have h2 := i64_mask12 a2
  have h3 := u64_mask5 a3 s0 s1
  obtain ⟨x, ex⟩ : ∃ x, a0 % 32 = x := ⟨_, rfl⟩
  obtain ⟨y, ey⟩ : ∃ x, a1 % 32 = x := ⟨_, rfl⟩
  obtain ⟨m, em⟩ : ∃ x, a2 % 4096 = x := ⟨_, rfl⟩
  obtain ⟨t, et⟩ : ∃ x, a3 % 32 = x := ⟨_, rfl⟩
  rw [ex] at h0
  rw [ey] at h1
  rw [em] at h2
  rw [et] at h3
  have x0 : 0 ≤ x ∧ x ≤ 31 := by omega
  have y0 : 0 ≤ y ∧ y ≤ 31 := by omega
  have t0 : 0 ≤ t ∧ t ≤ 31 := by omega
  have m0 : 0 ≤ m ∧ m ≤ 4095 := by omega
  clear ex ey em et p0 p1 q0 q1 s0 s1 w0 w1 w2 w3
  have f1 : seeI noL (4611686018427387904 + (m + 1)) 2305843009213693952 (m + 1) t = (1, []) := by
    unfold seeI; rw [txn_b _ _ _ _ (by omega) (by omega), by_me, ever_e]; rfl
  have f2 : seeI noL x (4611686018427387904 + (m + 1)) (m + 1) t = (2, []) := by
    unfold seeI; rw [txn_e _ _ _ _ (by omega) (by omega), by_me, time_b _ _ _ (by omega)]; split <;> rfl
  have f3 : seeI noL (4611686018427387904 + (m + 1) + 1) 2305843009213693952 (m + 1) t = (3, []) := by
    unfold seeI; rw [show 4611686018427387904 + (m + 1) + 1 = 4611686018427387904 + (m + 2) by omega, txn_b _ _ _ _ (by omega) (by omega), by_no _ _ _ (by omega)]; rfl
  rcases (by omega : (x ≤ t ∧ t < y) ∨ (x ≤ t ∧ ¬ t < y) ∨ ¬ x ≤ t) with ⟨h5, h6⟩ | ⟨h5, h6⟩ | h5
  · have tb : beginI noL x (m + 1) t = (1, 0) := by rw [time_b _ _ _ (by omega), if_pos h5]
    have te : endI noL y (m + 1) t = (2, 0) := by rw [time_e _ _ _ (by omega), if_neg (by omega)]
    have g1 : seeI noL x y (m + 1) t = (1, []) := by unfold seeI; rw [tb, te]; rfl
    have g2 : seeI noL x 2305843009213693952 (m + 1) t = (1, []) := by unfold seeI; rw [tb, ever_e]; rfl
    clear tb te
    go_enter Try.func7, Try.ntmps7; go_wp2_with fail; refine (ever7_any _).mono ?_; rintro e z0 ⟨rfl, rfl⟩; go_wp2_with fail; refine (psee_to look_nil trivial x y (m + 1) t _ _ g1 (by omega) (by omega) (by omega) (by omega)).mono ?_; rintro e z1 ⟨A1, c1, rfl, o1, b1⟩; go_wp2_with fail; refine (psee_to look_nil trivial _ _ (m + 1) t _ _ f1 (by omega) (by omega) (by omega) (by omega)).mono ?_; rintro e z2 ⟨A2, c2, rfl, o2, b2⟩; go_wp2_with fail; refine (psee_to look_nil trivial _ _ (m + 1) t _ _ f2 (by omega) (by omega) (by omega) (by omega)).mono ?_; rintro e z3 ⟨A3, c3, rfl, o3, b3⟩; go_wp2_with fail; refine (psee_to look_nil trivial _ _ (m + 1) t _ _ f3 (by omega) (by omega) (by omega) (by omega)).mono ?_; rintro e z4 ⟨A4, c4, rfl, o4, b4⟩; go_wp2_with fail; refine (psee_to look_nil trivial _ _ (m + 1) t _ _ g2 (by omega) (by omega) (by omega) (by omega)).mono ?_; rintro e z5 ⟨A5, c5, rfl, o5, b5⟩; go_wp2_with fail; refine (awake7_any _).mono ?_; rintro e z6 ⟨rfl, b6⟩; go_wp2; go_ret; exact ⟨rfl, thru (thru (thru (thru (thru b1 b2) b3) b4) b5) b6⟩
  · have tb : beginI noL x (m + 1) t = (1, 0) := by rw [time_b _ _ _ (by omega), if_pos h5]
    have te : endI noL y (m + 1) t = (1, 0) := by rw [time_e _ _ _ (by omega), if_pos (by omega)]
    have g1 : seeI noL x y (m + 1) t = (2, []) := by unfold seeI; rw [tb, te]; rfl
    have g2 : seeI noL x 2305843009213693952 (m + 1) t = (1, []) := by unfold seeI; rw [tb, ever_e]; rfl
    clear tb te
    go_enter Try.func7, Try.ntmps7; go_wp2_with fail; refine (ever7_any _).mono ?_; rintro e z0 ⟨rfl, rfl⟩; go_wp2_with fail; refine (psee_to look_nil trivial x y (m + 1) t _ _ g1 (by omega) (by omega) (by omega) (by omega)).mono ?_; rintro e z1 ⟨A1, c1, rfl, o1, b1⟩; go_wp2_with fail; refine (psee_to look_nil trivial _ _ (m + 1) t _ _ f1 (by omega) (by omega) (by omega) (by omega)).mono ?_; rintro e z2 ⟨A2, c2, rfl, o2, b2⟩; go_wp2_with fail; refine (psee_to look_nil trivial _ _ (m + 1) t _ _ f2 (by omega) (by omega) (by omega) (by omega)).mono ?_; rintro e z3 ⟨A3, c3, rfl, o3, b3⟩; go_wp2_with fail; refine (psee_to look_nil trivial _ _ (m + 1) t _ _ f3 (by omega) (by omega) (by omega) (by omega)).mono ?_; rintro e z4 ⟨A4, c4, rfl, o4, b4⟩; go_wp2_with fail; refine (psee_to look_nil trivial _ _ (m + 1) t _ _ g2 (by omega) (by omega) (by omega) (by omega)).mono ?_; rintro e z5 ⟨A5, c5, rfl, o5, b5⟩; go_wp2_with fail; refine (awake7_any _).mono ?_; rintro e z6 ⟨rfl, b6⟩; go_wp2; go_ret; exact ⟨rfl, thru (thru (thru (thru (thru b1 b2) b3) b4) b5) b6⟩
  · have tb : beginI noL x (m + 1) t = (2, 0) := by rw [time_b _ _ _ (by omega), if_neg h5]
    have g1 : seeI noL x y (m + 1) t = (2, []) := by unfold seeI; rw [tb]; rfl
    have g2 : seeI noL x 2305843009213693952 (m + 1) t = (2, []) := by unfold seeI; rw [tb, ever_e]; rfl
    clear tb
    go_enter Try.func7, Try.ntmps7; go_wp2_with fail; refine (ever7_any _).mono ?_; rintro e z0 ⟨rfl, rfl⟩; go_wp2_with fail; refine (psee_to look_nil trivial x y (m + 1) t _ _ g1 (by omega) (by omega) (by omega) (by omega)).mono ?_; rintro e z1 ⟨A1, c1, rfl, o1, b1⟩; go_wp2_with fail; refine (psee_to look_nil trivial _ _ (m + 1) t _ _ f1 (by omega) (by omega) (by omega) (by omega)).mono ?_; rintro e z2 ⟨A2, c2, rfl, o2, b2⟩; go_wp2_with fail; refine (psee_to look_nil trivial _ _ (m + 1) t _ _ f2 (by omega) (by omega) (by omega) (by omega)).mono ?_; rintro e z3 ⟨A3, c3, rfl, o3, b3⟩; go_wp2_with fail; refine (psee_to look_nil trivial _ _ (m + 1) t _ _ f3 (by omega) (by omega) (by omega) (by omega)).mono ?_; rintro e z4 ⟨A4, c4, rfl, o4, b4⟩; go_wp2_with fail; refine (psee_to look_nil trivial _ _ (m + 1) t _ _ g2 (by omega) (by omega) (by omega) (by omega)).mono ?_; rintro e z5 ⟨A5, c5, rfl, o5, b5⟩; go_wp2_with fail; refine (awake7_any _).mono ?_; rintro e z6 ⟨rfl, b6⟩; go_wp2; go_ret; exact ⟨rfl, thru (thru (thru (thru (thru b1 b2) b3) b4) b5) b6⟩
theorem own : ownKnob Try.prog.godebug = none := by kernel_rfl
theorem laidOut : laidOutB Try.prog = true := by kernel_rfl
set_option maxRecDepth 100000 in
theorem lifted (os : Os) (started : os.Started) (H : Type) (enc : TypeId × Value → H) :
    ReturnsInHanded {} Try.checked os 7 .any (Rows.seeNoneSpec.pre6 enc Try.prog Try.f7 Rows.seeNoneRow.domain false) (Rows.seeNoneSpec.post enc Try.prog Try.f7 false true false false) := by
  refine returnsInHanded_of_change (C := Try.checked) own started (by kernel_rfl) Try.func7
    (ChangeSpec.witness6 (enc := enc) (C := Try.checked) false ⟨#[], #[.int .u64 0, .int .u64 0, .int .i64 0, .int .u64 0], []⟩ 8 (by kernel_rfl) (by kernel_rfl) (by kernel_rfl) (by kernel_rfl)) ?_
  intro W base args ds gs before hval0 hW hcnd _
  have hval : ∀ (j : Nat) t v, Try.f7.params[j]? = some t → args[j]? = some v → Value.okWide Try.prog W .any base t v := hval0
  have hW' := hW
  obtain ⟨p, q, hA0, hV, rfl, hfz, hnd⟩ := hW
  have hA : DataW.TrodAll enc Try.prog W 0 (fun _ => true) true Try.f7.params.toList args.toList ds p := hA0
  rw [Try.params7] at hA hval
  obtain ⟨v0, vs0, d0, ds0, p0, q0, hargs, rfl, rfl, h0, r0⟩ := trodAll_cons hA
  obtain ⟨v1, vs1, d1, ds1, p1, q1, rfl, rfl, rfl, h1, r1⟩ := trodAll_cons r0
  obtain ⟨v2, vs2, d2, ds2, p2, q2, rfl, rfl, rfl, h2, r2⟩ := trodAll_cons r1
  obtain ⟨v3, vs3, d3, ds3, p3, q3, rfl, rfl, rfl, h3, r3⟩ := trodAll_cons r2
  obtain ⟨rfl, rfl, rfl⟩ := trodAll_nil r3
  obtain rfl : args = #[v0, v1, v2, v3] := by cases args; simp_all
  obtain ⟨rfl, rfl⟩ := trodVars_none hV
  obtain ⟨a0, rfl, rfl, rfl, w0⟩ := open_int Try.underlying22 (hval 0 22 v0 rfl rfl) h0
  obtain ⟨a1, rfl, rfl, rfl, w1⟩ := open_int Try.underlying22 (hval 1 22 v1 rfl rfl) h1
  obtain ⟨a2, rfl, rfl, rfl, w2⟩ := open_int Try.underlying3 (hval 2 3 v2 rfl rfl) h2
  obtain ⟨a3, rfl, rfl, rfl, w3⟩ := open_int Try.underlying22 (hval 3 22 v3 rfl rfl) h3
  clear hA0 hval0
  refine (walk a0 a1 a2 a3 W w0 w1 w2 w3).mono fun e W' ⟨he, bel⟩ => ?_
  subst he
  exact ⟨_, rfl, _, _, _, [], _, [], hW', trodAll_mk1 (shut_bool Try.underlying4 _), (trodAll_cons_mk (shut_int Try.underlying22 w0) (trodAll_cons_mk (shut_int Try.underlying22 w1) (trodAll_cons_mk (shut_int Try.underlying3 w2) (trodAll_cons_mk (shut_int Try.underlying22 w3) trodAll_mk0)))), rfl, bel.frame _, fun h => by cases h⟩
theorem over : Rows.seeNoneRow.holds Try.pinned (OpenSpec.ofChange Rows.seeNoneSpec) :=
  OpenClaim.holds_of_wide 7 Try.f7 rfl rfl rfl rfl rfl rfl rfl ⟨rfl, rfl, rfl, rfl, rfl⟩ rfl rfl rfl rfl rfl (by kernel_rfl) Try.func7 (by kernel_rfl)
    (of_decide_eq_true (by kernel_rfl)) (by unfold Func.isWrapper; first | (rw [if_pos (by decide +kernel)]; kernel_rfl) | (rw [if_neg (by decide +kernel)]; exact ⟨rfl, rfl⟩))
    (fun os started H enc _ => lifted os started H enc)
theorem proved : Rows.SeeNoneSaid := over
end Go.Proofs.Ytdkgngdfehllcaa.seeNone
