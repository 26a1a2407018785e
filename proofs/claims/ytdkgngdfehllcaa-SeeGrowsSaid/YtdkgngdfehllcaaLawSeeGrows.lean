/- Proved here: vinculumlaw7.SeeGrows returns true and leaves its arguments as they were, for any four words; no further condition. -/
import Derived.Test.YtdkgngdfehllcaaSeeD
import Derived.Test.YtdkgngdfehllcaaMask
import Derived.Test.YtdkgngdfehllcaaSeeF
import Derived.ChangeOld
namespace Go.Proofs.Ytdkgngdfehllcaa.seeGrows
open Go.ChangeShapes Go.WideShapes Go.ChangeAt Go.RowKit
set_option linter.unusedVariables false

set_option maxHeartbeats 8000000 in
theorem walk (a0 a1 a2 a3 : Int) (w : World) (w0 : (Lit.int .u64 a0).wf = true) (w1 : (Lit.int .u64 a1).wf = true) (w2 : (Lit.int .u64 a2).wf = true) (w3 : (Lit.int .u64 a3).wf = true) :
    Calls Try.prog 5 #[.int .u64 a0, .int .u64 a1, .int .u64 a2, .int .u64 a3] w fun e w' => e = .returned (.bool true) ∧ Below w.heap.size w w' := by
  obtain ⟨p0, p1⟩ := bounds_u64 w0
  obtain ⟨q0, q1⟩ := bounds_u64 w1
  obtain ⟨r0, r1⟩ := bounds_u64 w2
  obtain ⟨s0, s1⟩ := bounds_u64 w3
  have h0 := u64_mask6 a0 p0 p1
  have h1 := u64_mask6 a1 q0 q1
  have h2 := u64_mask6 a2 r0 r1
  have h3 := u64_mask6 a3 s0 s1
  obtain ⟨x, ex⟩ : ∃ x, a0 % 64 = x := ⟨_, rfl⟩
  obtain ⟨y, ey⟩ : ∃ x, a1 % 64 = x := ⟨_, rfl⟩
  obtain ⟨a, ea⟩ : ∃ x, a2 % 64 = x := ⟨_, rfl⟩
  obtain ⟨b, eb⟩ : ∃ x, a3 % 64 = x := ⟨_, rfl⟩
  rw [ex] at h0
  rw [ey] at h1
  rw [ea] at h2
  rw [eb] at h3
  have x0 : 0 ≤ x ∧ x ≤ 63 := by omega
  have y0 : 0 ≤ y ∧ y ≤ 63 := by omega
  have a0' : 0 ≤ a ∧ a ≤ 63 := by omega
  have b0' : 0 ≤ b ∧ b ≤ 63 := by omega
  clear ex ey ea eb p0 p1 q0 q1 r0 r1 s0 s1 w0 w1 w2 w3
  have go : ∀ lo hi : Int, 0 ≤ lo → lo ≤ hi → hi ≤ 63 → ∃ p q r s : Int, beginI noL x 3 lo = (p, 0) ∧ beginI noL x 3 hi = (q, 0) ∧ endI noL y 3 lo = (r, 0) ∧ endI noL y 3 hi = (s, 0) ∧ ((p = 1 ∧ q = 1) ∨ (p = 2 ∧ (q = 1 ∨ q = 2))) ∧ ((r = 1 ∧ s = 1) ∨ (r = 2 ∧ (s = 1 ∨ s = 2))) := by
    intro lo hi l0 lh h1
    refine ⟨_, _, _, _, time_b x 3 lo (by omega), time_b x 3 hi (by omega), time_e y 3 lo (by omega), time_e y 3 hi (by omega), ?_, ?_⟩
    · split <;> split <;> omega
    · split <;> split <;> omega
  by_cases hba : b < a
  · have d1 : decide (b < a) = true := decide_eq_true hba
    (obtain ⟨p, q, r, s, hp, hq, hr, hs, h5, h6⟩ := go b a (by omega) (by omega) (by omega); clear go hba a0' b0'; rcases h5 with ⟨rfl, rfl⟩ | ⟨rfl, rfl | rfl⟩ <;> rcases h6 with ⟨rfl, rfl⟩ | ⟨rfl, rfl | rfl⟩ <;> (go_enter Try.func5, Try.ntmps5; go_wp2_with fail; refine (pbegin_to look_nil trivial x 3 b _ _ hp (by omega) (by omega)).mono ?_; rintro e w1 ⟨rfl, b1⟩; go_wp2_with fail; refine (pbegin_to look_nil trivial x 3 a _ _ hq (by omega) (by omega)).mono ?_; rintro e w2 ⟨rfl, b2⟩; go_wp2_with fail; refine (pend_to look_nil trivial y 3 b _ _ hr (by omega) (by omega)).mono ?_; rintro e w3 ⟨rfl, b3⟩; go_wp2_with fail; refine (pend_to look_nil trivial y 3 a _ _ hs (by omega) (by omega)).mono ?_; rintro e w4 ⟨rfl, b4⟩; go_wp2_with fail; refine (ever7_any _).mono ?_; rintro e w5 ⟨rfl, rfl⟩; go_wp2_with fail; refine (pend_to look_nil trivial 2305843009213693952 3 a 2 0 rfl (by omega) (by omega)).mono ?_; rintro e w5 ⟨rfl, b5⟩; go_wp2_with fail; refine (awake7_any _).mono ?_; rintro e w6 ⟨rfl, b6⟩; go_wp2; go_ret; exact ⟨rfl, thru (thru (thru (thru (thru b1 b2) b3) b4) b5) b6⟩))
  · have d1 : decide (b < a) = false := decide_eq_false hba
    (obtain ⟨p, q, r, s, hp, hq, hr, hs, h5, h6⟩ := go a b (by omega) (by omega) (by omega); clear go hba a0' b0'; rcases h5 with ⟨rfl, rfl⟩ | ⟨rfl, rfl | rfl⟩ <;> rcases h6 with ⟨rfl, rfl⟩ | ⟨rfl, rfl | rfl⟩ <;> (go_enter Try.func5, Try.ntmps5; go_wp2_with fail; refine (pbegin_to look_nil trivial x 3 a _ _ hp (by omega) (by omega)).mono ?_; rintro e w1 ⟨rfl, b1⟩; go_wp2_with fail; refine (pbegin_to look_nil trivial x 3 b _ _ hq (by omega) (by omega)).mono ?_; rintro e w2 ⟨rfl, b2⟩; go_wp2_with fail; refine (pend_to look_nil trivial y 3 a _ _ hr (by omega) (by omega)).mono ?_; rintro e w3 ⟨rfl, b3⟩; go_wp2_with fail; refine (pend_to look_nil trivial y 3 b _ _ hs (by omega) (by omega)).mono ?_; rintro e w4 ⟨rfl, b4⟩; go_wp2_with fail; refine (ever7_any _).mono ?_; rintro e w5 ⟨rfl, rfl⟩; go_wp2_with fail; refine (pend_to look_nil trivial 2305843009213693952 3 b 2 0 rfl (by omega) (by omega)).mono ?_; rintro e w5 ⟨rfl, b5⟩; go_wp2_with fail; refine (awake7_any _).mono ?_; rintro e w6 ⟨rfl, b6⟩; go_wp2; go_ret; exact ⟨rfl, thru (thru (thru (thru (thru b1 b2) b3) b4) b5) b6⟩))
theorem own : ownKnob Try.prog.godebug = none := by kernel_rfl
theorem laidOut : laidOutB Try.prog = true := by kernel_rfl
set_option maxRecDepth 100000 in
theorem lifted (os : Os) (started : os.Started) (H : Type) (enc : TypeId × Value → H) :
    ReturnsInHanded {} Try.checked os 5 .any (Rows.seeGrowsSpec.pre6 enc Try.prog Try.f5 Rows.seeGrowsRow.domain false) (Rows.seeGrowsSpec.post enc Try.prog Try.f5 false true false false) := by
  refine returnsInHanded_of_change (C := Try.checked) own started (by kernel_rfl) Try.func5
    (ChangeSpec.witness6 (enc := enc) (C := Try.checked) false ⟨#[], #[.int .u64 0, .int .u64 0, .int .u64 0, .int .u64 0], []⟩ 8 (by kernel_rfl) (by kernel_rfl) (by kernel_rfl) (by kernel_rfl)) ?_
  intro W base args ds gs before hval0 hW hcnd _
  have hval : ∀ (j : Nat) t v, Try.f5.params[j]? = some t → args[j]? = some v → Value.okWide Try.prog W .any base t v := hval0
  have hW' := hW
  obtain ⟨p, q, hA0, hV, rfl, hfz, hnd⟩ := hW
  have hA : DataW.TrodAll enc Try.prog W 0 (fun _ => true) true Try.f5.params.toList args.toList ds p := hA0
  rw [Try.params5] at hA hval
  obtain ⟨v0, vs0, d0, ds0, p0, q0, hargs, rfl, rfl, h0, r0⟩ := trodAll_cons hA
  obtain ⟨v1, vs1, d1, ds1, p1, q1, rfl, rfl, rfl, h1, r1⟩ := trodAll_cons r0
  obtain ⟨v2, vs2, d2, ds2, p2, q2, rfl, rfl, rfl, h2, r2⟩ := trodAll_cons r1
  obtain ⟨v3, vs3, d3, ds3, p3, q3, rfl, rfl, rfl, h3, r3⟩ := trodAll_cons r2
  obtain ⟨rfl, rfl, rfl⟩ := trodAll_nil r3
  obtain rfl : args = #[v0, v1, v2, v3] := by cases args; simp_all
  obtain ⟨rfl, rfl⟩ := trodVars_none hV
  obtain ⟨a0, rfl, rfl, rfl, w0⟩ := open_int Try.underlying22 (hval 0 22 v0 rfl rfl) h0
  obtain ⟨a1, rfl, rfl, rfl, w1⟩ := open_int Try.underlying22 (hval 1 22 v1 rfl rfl) h1
  obtain ⟨a2, rfl, rfl, rfl, w2⟩ := open_int Try.underlying22 (hval 2 22 v2 rfl rfl) h2
  obtain ⟨a3, rfl, rfl, rfl, w3⟩ := open_int Try.underlying22 (hval 3 22 v3 rfl rfl) h3
  clear hA0 hval0
  refine (walk a0 a1 a2 a3 W w0 w1 w2 w3).mono fun e W' ⟨he, bel⟩ => ?_
  subst he
  exact ⟨_, rfl, _, _, _, [], _, [], hW', trodAll_mk1 (shut_bool Try.underlying4 _), (trodAll_cons_mk (shut_int Try.underlying22 w0) (trodAll_cons_mk (shut_int Try.underlying22 w1) (trodAll_cons_mk (shut_int Try.underlying22 w2) (trodAll_cons_mk (shut_int Try.underlying22 w3) trodAll_mk0)))), rfl, bel.frame _, fun h => by cases h⟩
theorem over : Rows.seeGrowsRow.holds Try.pinned (OpenSpec.ofChange Rows.seeGrowsSpec) :=
  OpenClaim.holds_of_wide 5 Try.f5 rfl rfl rfl rfl rfl rfl rfl ⟨rfl, rfl, rfl, rfl, rfl⟩ rfl rfl rfl rfl rfl (by kernel_rfl) Try.func5 (by kernel_rfl)
    (of_decide_eq_true (by kernel_rfl)) (by unfold Func.isWrapper; first | (rw [if_pos (by decide +kernel)]; kernel_rfl) | (rw [if_neg (by decide +kernel)]; exact ⟨rfl, rfl⟩))
    (fun os started H enc _ => lifted os started H enc)
theorem proved : Rows.SeeGrowsSaid := over
end Go.Proofs.Ytdkgngdfehllcaa.seeGrows
