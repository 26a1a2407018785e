/- Proved here: vinculumlaw8.MayStates returns true and leaves its arguments as they were, for any three ints; no further condition. -/
import Derived.Test.YtdkgngdfehllcaaMayW
import Derived.Test.YtdkgngdfehllcaaMayD
import Derived.Deep.CutRange
import Derived.BigRegion
import Derived.WalkArith
import Derived.ChangeOld
namespace Go.Proofs.Ytdkgngdfehllcaa.mayStates
open Go.ChangeShapes Go.WideShapes Go.ChangeAt Go.RowKit
set_option linter.unusedVariables false

theorem start (w : World) (s o : Int) : ∃ W, ((w.alloc (.cells #[.int .i64 s] 3)).alloc (.cells #[.int .i64 o] 3)).drew = W ∧ Below w.heap.size w W ∧ TwoAt w.heap.size (w.heap.size + 1) s o W := by
  have k := (Keep.alloc (Keep.refl (fun _ => False) w) (.cells #[.int .i64 s] 3))
  have kd := (Keep.refl (fun _ => False) ((w.alloc (.cells #[.int .i64 s] 3)).alloc (.cells #[.int .i64 o] 3))).drew
  refine ⟨_, rfl, ((k.alloc _).drew).below (Nat.le_refl _) (by simp), ?_, ?_⟩
  · exact kd.cell ((Keep.alloc (Keep.refl (fun _ => False) _) _).cell (by simp) (by simp)) (by simp)
  · exact kd.cell (by simp) (by simp)
theorem row_one (w : World) (x : Int) (h : (Lit.int .u64 x).wf = true) : IsRow .u64 (w.alloc (.cells #[.int .u64 x] 22)) (some ⟨w.heap.size, 0, none⟩) 1 1 [x] := by
  refine ⟨rfl, Nat.le_refl _, by omega, fun _ => ⟨w.heap.size, 0, rfl, by simp, fun j hj => ?_⟩, by simpa using h⟩
  obtain rfl : j = 0 := by omega
  simp
theorem told (o : Int) (m : Int) (h0 : 300 ≤ o) (h1 : o ≤ 65535) (hm : o ≠ m) (s : Int) : writeI (oneL o ⟨1, s, 1, 2⟩) (4611686018427387904 + o) m = (if s = 5 then (3, 0) else if s = 4 then (1, o) else (2, o)) ∧ firstI (oneL o ⟨1, s, 1, 2⟩) [4611686018427387904 + o] m 5 = (decide (s = 4) || decide (s = 5)) := by
  have k : rdK (4611686018427387904 + o) = 2 := by unfold rdK; rw [if_neg (by omega), if_neg (by omega), if_pos (by omega)]
  have n : rdN (4611686018427387904 + o) = o := by unfold rdN; rw [if_neg (by omega), if_pos (by omega)]; omega
  have hL : oneL o ⟨1, s, 1, 2⟩ o = some ⟨1, s, 1, 2⟩ := by unfold oneL; rw [if_pos rfl]
  constructor
  · rw [writeI_txn k (by rw [n]; exact hm), n, hL]
  · show (oneI _ m 5 _ && true) = _
    rw [oneI_txn k, n, hL]
    simp [hm]
set_option maxRecDepth 100000 in
set_option maxHeartbeats 8000000 in
theorem walk (a0 a1 a2 : Int) (w : World) (w0 : (Lit.int .i64 a0).wf = true) (w1 : (Lit.int .i64 a1).wf = true) (w2 : (Lit.int .i64 a2).wf = true) :
    Calls Try.prog 11 #[.int .i64 a0, .int .i64 a1, .int .i64 a2] w fun e w' => e = .returned (.bool true) ∧ Below w.heap.size w w' := by
  have h0 := i64_mask8 a0
  have h1 := i64_mask8 a1
  have h2 := i64_mask8 a2
  obtain ⟨q, eq⟩ : ∃ q, a0 % 256 = q := ⟨_, rfl⟩
  obtain ⟨s, es⟩ : ∃ s, q % 5 + 1 = s := ⟨_, rfl⟩
  obtain ⟨m, em⟩ : ∃ m, a1 % 256 = m := ⟨_, rfl⟩
  obtain ⟨o, eo⟩ : ∃ o, a2 % 256 = o := ⟨_, rfl⟩
  rw [eq] at h0
  rw [em] at h1
  rw [eo] at h2
  have q0 : 0 ≤ q := by omega
  have m0 : 0 ≤ m ∧ m ≤ 255 := by omega
  have o0 : 0 ≤ o ∧ o ≤ 255 := by omega
  have s0 : 1 ≤ s ∧ s ≤ 5 := by omega
  have wm : IntKind.i64.wrap (m + 1) = m + 1 := IntWalk.i64_in _ (by omega)
  have wo : IntKind.i64.wrap (o + 300) = o + 300 := IntWalk.i64_in _ (by omega)
  have wo2 : IntKind.u64.wrap (o + 300) = o + 300 := IntWalk.u64_in _ (by omega)
  have wo3 : IntKind.u64.wrap (4611686018427387904 + (o + 300)) = 4611686018427387904 + (o + 300) := IntWalk.u64_in _ (by omega)
  have wq : IntKind.i64.wrap (q % 5) = q % 5 := IntWalk.i64_in _ (by omega)
  have wq0 : q.tmod 5 = q % 5 := Int.tmod_eq_emod_of_nonneg q0
  have wq2 : IntKind.i64.wrap (q % 5 + 1) = s := by rw [IntWalk.i64_in _ (by omega)]; exact es
  clear eq em eo w0 w1 w2
  obtain ⟨e1, e2⟩ := told (o + 300) (m + 1) (by omega) (by omega) (by omega) s
  have hw : (Lit.int .u64 (4611686018427387904 + (o + 300))).wf = true := WalkArith.wf_u64 (by omega)
  rcases (by omega : s = 1 ∨ s = 2 ∨ s = 3 ∨ s = 4 ∨ s = 5) with rfl | rfl | rfl | rfl | rfl
  all_goals
    simp at e1 e2
    go_enter Try.func11, Try.ntmps11; go_wp2_with fail; go_region; go_upto_region 3 with fail; (obtain ⟨W, eW, hB, hT⟩ := start w _ (o + 300)); rw [eW]; clear eW; generalize w.heap.size + 1 = G2 at hT ⊢; generalize w.heap.size = G at hT ⊢; have c0 := hT.1; have c1 := hT.2; go_wp2_with fail; refine (pwrite_to (looks_states _ _ _ _) hT _ _ _ _ e1 (by omega) (by omega)).mono ?_; rintro e z1 ⟨rfl, b1⟩; have hT1 := (looks_states _ _ _ _).stay hT b1; clear c0 c1; have c0 := hT1.1; have c1 := hT1.2; go_wp2_with fail; have kA := (Keep.alloc (Keep.refl (fun _ => False) z1) (.cells #[.int .u64 (4611686018427387904 + (o + 300))] 22)).below (Nat.le_refl _) (by simp); have hT2 := (looks_states _ _ _ _).stay hT1 kA; refine (pfirst_to (looks_states _ _ _ _) hT2 _ (row_one z1 _ hw) _ 5 _ e2).mono ?_; rintro e z2 ⟨rfl, b2⟩; have hT3 := (looks_states _ _ _ _).stay hT2 b2; clear c0 c1; have c0 := hT3.1; have c1 := hT3.2; clear e1 e2; go_wp2_with fail; refine (awake8_any _).mono ?_; rintro e z3 ⟨rfl, b3⟩; go_wp2; go_ret; exact ⟨rfl, thru (thru (thru (thru hB b1) kA) b2) b3⟩
theorem own : ownKnob Try.prog.godebug = none := by kernel_rfl
theorem laidOut : laidOutB Try.prog = true := by kernel_rfl
set_option maxRecDepth 100000 in
theorem lifted (os : Os) (started : os.Started) (H : Type) (enc : TypeId × Value → H) :
    ReturnsInHanded {} Try.checked os 11 .any (Rows.mayStatesSpec.pre6 enc Try.prog Try.f11 Rows.mayStatesRow.domain false) (Rows.mayStatesSpec.post enc Try.prog Try.f11 false true false false) := by
  refine returnsInHanded_of_change (C := Try.checked) own started (by kernel_rfl) Try.func11
    (ChangeSpec.witness6 (enc := enc) (C := Try.checked) false ⟨#[], #[.int .i64 0, .int .i64 0, .int .i64 0], []⟩ 8 (by kernel_rfl) (by kernel_rfl) (by kernel_rfl) (by kernel_rfl)) ?_
  intro W base args ds gs before hval0 hW hcnd _
  have hval : ∀ (j : Nat) t v, Try.f11.params[j]? = some t → args[j]? = some v → Value.okWide Try.prog W .any base t v := hval0
  have hW' := hW
  obtain ⟨p, q, hA0, hV, rfl, hfz, hnd⟩ := hW
  have hA : DataW.TrodAll enc Try.prog W 0 (fun _ => true) true Try.f11.params.toList args.toList ds p := hA0
  rw [Try.params11] at hA hval
  obtain ⟨v0, vs0, d0, ds0, p0, q0, hargs, rfl, rfl, h0, r0⟩ := trodAll_cons hA
  obtain ⟨v1, vs1, d1, ds1, p1, q1, rfl, rfl, rfl, h1, r1⟩ := trodAll_cons r0
  obtain ⟨v2, vs2, d2, ds2, p2, q2, rfl, rfl, rfl, h2, r2⟩ := trodAll_cons r1
  obtain ⟨rfl, rfl, rfl⟩ := trodAll_nil r2
  obtain rfl : args = #[v0, v1, v2] := by cases args; simp_all
  obtain ⟨rfl, rfl⟩ := trodVars_none hV
  obtain ⟨a0, rfl, rfl, rfl, w0⟩ := open_int Try.underlying3 (hval 0 3 v0 rfl rfl) h0
  obtain ⟨a1, rfl, rfl, rfl, w1⟩ := open_int Try.underlying3 (hval 1 3 v1 rfl rfl) h1
  obtain ⟨a2, rfl, rfl, rfl, w2⟩ := open_int Try.underlying3 (hval 2 3 v2 rfl rfl) h2
  clear hA0 hval0
  refine (walk a0 a1 a2 W w0 w1 w2).mono fun e W' ⟨he, bel⟩ => ?_
  subst he
  exact ⟨_, rfl, _, _, _, [], _, [], hW', trodAll_mk1 (shut_bool Try.underlying4 _), (trodAll_cons_mk (shut_int Try.underlying3 w0) (trodAll_cons_mk (shut_int Try.underlying3 w1) (trodAll_cons_mk (shut_int Try.underlying3 w2) trodAll_mk0))), rfl, bel.frame _, fun h => by cases h⟩
theorem over : Rows.mayStatesRow.holds Try.pinned (OpenSpec.ofChange Rows.mayStatesSpec) :=
  OpenClaim.holds_of_wide 11 Try.f11 rfl rfl rfl rfl rfl rfl rfl ⟨rfl, rfl, rfl, rfl, rfl⟩ rfl rfl rfl rfl rfl (by kernel_rfl) Try.func11 (by kernel_rfl)
    (of_decide_eq_true (by kernel_rfl)) (by unfold Func.isWrapper; first | (rw [if_pos (by decide +kernel)]; kernel_rfl) | (rw [if_neg (by decide +kernel)]; exact ⟨rfl, rfl⟩))
    (fun os started H enc _ => lifted os started H enc)
theorem proved : Rows.MayStatesSaid := over
end Go.Proofs.Ytdkgngdfehllcaa.mayStates
