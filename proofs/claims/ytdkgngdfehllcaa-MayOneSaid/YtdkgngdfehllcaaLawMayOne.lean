/- Proved here: vinculumlaw8.MayOne returns true and leaves its arguments as they were, for any three ints and any word; no further condition. -/
import Derived.Test.YtdkgngdfehllcaaMayW
import Derived.ChangeOld
namespace Go.Proofs.Ytdkgngdfehllcaa.mayOne
open Go.ChangeShapes Go.WideShapes Go.ChangeAt Go.RowKit
set_option linter.unusedVariables false

theorem start (w : World) (s : Int) : Below w.heap.size w (w.alloc (.cells #[.int .i64 s] 3)) ∧ OneAt w.heap.size s (w.alloc (.cells #[.int .i64 s] 3)) :=
  ⟨(Keep.alloc (Keep.refl (fun _ => False) w) _).below (Nat.le_refl _) (by simp), by unfold OneAt; simp⟩
theorem write_own (L : Int → Option Tx) (m : Int) (h0 : 1 ≤ m) (h1 : m ≤ 65535) : writeI L (4611686018427387904 + m) m = (1, 0) := by
  have k : rdK (4611686018427387904 + m) = 2 := by unfold rdK; rw [if_neg (by omega), if_neg (by omega), if_pos (by omega)]
  have n : rdN (4611686018427387904 + m) = m := by unfold rdN; rw [if_neg (by omega), if_pos (by omega)]; omega
  unfold writeI
  rw [k, n, if_pos (.inr ⟨rfl, rfl⟩)]
theorem write_other (x : Tx) (o m : Int) (h0 : 1 ≤ o) (h1 : o ≤ 65535) (hm : o ≠ m) (h4 : x.st ≠ 4) (h5 : x.st ≠ 5) : writeI (fun _ => some x) (4611686018427387904 + o) m = (2, o) := by
  have k : rdK (4611686018427387904 + o) = 2 := by unfold rdK; rw [if_neg (by omega), if_neg (by omega), if_pos (by omega)]
  have n : rdN (4611686018427387904 + o) = o := by unfold rdN; rw [if_neg (by omega), if_pos (by omega)]; omega
  rw [writeI_txn k (by rw [n]; exact hm), n]
  dsimp only
  rw [if_neg h5, if_neg h4]
theorem write_time (L : Int → Option Tx) (t m : Int) (h : t ≤ 1099511627776) : writeI L t m = (2, 0) := by
  have k : rdK t = 1 := by unfold rdK; rw [if_pos h]
  unfold writeI
  rw [k, if_neg (by omega), if_pos (by omega)]
set_option maxRecDepth 100000 in
set_option maxHeartbeats 8000000 in
theorem walk (a0 a1 a2 a3 : Int) (w : World) (w0 : (Lit.int .i64 a0).wf = true) (w1 : (Lit.int .i64 a1).wf = true) (w2 : (Lit.int .i64 a2).wf = true) (w3 : (Lit.int .u64 a3).wf = true) :
    Calls Try.prog 13 #[.int .i64 a0, .int .i64 a1, .int .i64 a2, .int .u64 a3] w fun e w' => e = .returned (.bool true) ∧ Below w.heap.size w w' := by
  obtain ⟨p0, p1⟩ := bounds_u64 w3
  have h0 := i64_mask3 a0
  have h1 := i64_mask3 a1
  have h2 := i64_mask8 a2
  have h3 := u64_mask16 a3 p0 p1
  obtain ⟨m, em⟩ : ∃ m, a0 % 8 = m := ⟨_, rfl⟩
  obtain ⟨o, eo⟩ : ∃ o, a1 % 8 = o := ⟨_, rfl⟩
  obtain ⟨q, eq⟩ : ∃ q, a2 % 256 = q := ⟨_, rfl⟩
  obtain ⟨s, es⟩ : ∃ s, q % 3 + 1 = s := ⟨_, rfl⟩
  obtain ⟨t, et⟩ : ∃ t, a3 % 65536 = t := ⟨_, rfl⟩
  rw [em] at h0
  rw [eo] at h1
  rw [eq] at h2
  rw [et] at h3
  have m0 : 0 ≤ m ∧ m ≤ 7 := by omega
  have o0 : 0 ≤ o ∧ o ≤ 7 := by omega
  have q0 : 0 ≤ q := by omega
  have s0 : 1 ≤ s ∧ s ≤ 3 := by omega
  have t0 : 0 ≤ t ∧ t ≤ 65535 := by omega
  have wm : IntKind.i64.wrap (m + 1) = m + 1 := IntWalk.i64_in _ (by omega)
  have wo : IntKind.i64.wrap (o + 1) = o + 1 := IntWalk.i64_in _ (by omega)
  have wo2 : IntKind.u64.wrap (o + 1) = o + 1 := IntWalk.u64_in _ (by omega)
  have wo3 : IntKind.u64.wrap (4611686018427387904 + (o + 1)) = 4611686018427387904 + (o + 1) := IntWalk.u64_in _ (by omega)
  have wq : IntKind.i64.wrap (q % 3) = q % 3 := IntWalk.i64_in _ (by omega)
  have wq0 : q.tmod 3 = q % 3 := Int.tmod_eq_emod_of_nonneg q0
  have wq2 : IntKind.i64.wrap (q % 3 + 1) = s := by rw [IntWalk.i64_in _ (by omega)]; exact es
  have e2 := write_time (fun _ => some ⟨1, s, 1, 2⟩) t (m + 1) (by omega)
  clear em eo eq et p0 p1 w0 w1 w2 w3
  by_cases hmo : o = m
  · subst hmo
    have e1 := write_own (fun _ => some ⟨1, s, 1, 2⟩) (o + 1) (by omega) (by omega)
    go_enter Try.func13, Try.ntmps13; go_wp2_with fail; obtain ⟨hB, hT⟩ := start w s; generalize w.alloc (Obj.cells #[Value.int IntKind.i64 s] 3) = W0 at hB hT ⊢; generalize w.heap.size = G at hT ⊢; refine (pwrite_to (looks_one _ s) hT _ _ _ _ e1 (by omega) (by omega)).mono ?_; rintro e z1 ⟨rfl, b1⟩; have hT1 := (looks_one _ s).stay hT b1; go_wp2_with fail; refine (pwrite_to (looks_one _ s) hT1 _ _ _ _ e2 (by omega) (by omega)).mono ?_; rintro e z2 ⟨rfl, b2⟩; clear e1 e2; go_wp2_with fail; refine (awake8_any _).mono ?_; rintro e z3 ⟨rfl, b3⟩; go_wp2; go_ret; exact ⟨rfl, thru (thru (thru hB b1) b2) b3⟩
  · have e1 := write_other ⟨1, s, 1, 2⟩ (o + 1) (m + 1) (by omega) (by omega) (by omega) (by dsimp only; omega) (by dsimp only; omega)
    have q1 : (m + 1 == o + 1) = false := by simp; omega
    have q2 : (m == o) = false := by simp; omega
    go_enter Try.func13, Try.ntmps13; go_wp2_with fail; obtain ⟨hB, hT⟩ := start w s; generalize w.alloc (Obj.cells #[Value.int IntKind.i64 s] 3) = W0 at hB hT ⊢; generalize w.heap.size = G at hT ⊢; refine (pwrite_to (looks_one _ s) hT _ _ _ _ e1 (by omega) (by omega)).mono ?_; rintro e z1 ⟨rfl, b1⟩; have hT1 := (looks_one _ s).stay hT b1; go_wp2_with fail; refine (pwrite_to (looks_one _ s) hT1 _ _ _ _ e2 (by omega) (by omega)).mono ?_; rintro e z2 ⟨rfl, b2⟩; clear e1 e2; go_wp2_with fail; refine (awake8_any _).mono ?_; rintro e z3 ⟨rfl, b3⟩; go_wp2; go_ret; exact ⟨rfl, thru (thru (thru hB b1) b2) b3⟩
theorem own : ownKnob Try.prog.godebug = none := by kernel_rfl
theorem laidOut : laidOutB Try.prog = true := by kernel_rfl
set_option maxRecDepth 100000 in
theorem lifted (os : Os) (started : os.Started) (H : Type) (enc : TypeId × Value → H) :
    ReturnsInHanded {} Try.checked os 13 .any (Rows.mayOneSpec.pre6 enc Try.prog Try.f13 Rows.mayOneRow.domain false) (Rows.mayOneSpec.post enc Try.prog Try.f13 false true false false) := by
  refine returnsInHanded_of_change (C := Try.checked) own started (by kernel_rfl) Try.func13
    (ChangeSpec.witness6 (enc := enc) (C := Try.checked) false ⟨#[], #[.int .i64 0, .int .i64 0, .int .i64 0, .int .u64 0], []⟩ 8 (by kernel_rfl) (by kernel_rfl) (by kernel_rfl) (by kernel_rfl)) ?_
  intro W base args ds gs before hval0 hW hcnd _
  have hval : ∀ (j : Nat) t v, Try.f13.params[j]? = some t → args[j]? = some v → Value.okWide Try.prog W .any base t v := hval0
  have hW' := hW
  obtain ⟨p, q, hA0, hV, rfl, hfz, hnd⟩ := hW
  have hA : DataW.TrodAll enc Try.prog W 0 (fun _ => true) true Try.f13.params.toList args.toList ds p := hA0
  rw [Try.params13] at hA hval
  obtain ⟨v0, vs0, d0, ds0, p0, q0, hargs, rfl, rfl, h0, r0⟩ := trodAll_cons hA
  obtain ⟨v1, vs1, d1, ds1, p1, q1, rfl, rfl, rfl, h1, r1⟩ := trodAll_cons r0
  obtain ⟨v2, vs2, d2, ds2, p2, q2, rfl, rfl, rfl, h2, r2⟩ := trodAll_cons r1
  obtain ⟨v3, vs3, d3, ds3, p3, q3, rfl, rfl, rfl, h3, r3⟩ := trodAll_cons r2
  obtain ⟨rfl, rfl, rfl⟩ := trodAll_nil r3
  obtain rfl : args = #[v0, v1, v2, v3] := by cases args; simp_all
  obtain ⟨rfl, rfl⟩ := trodVars_none hV
  obtain ⟨a0, rfl, rfl, rfl, w0⟩ := open_int Try.underlying3 (hval 0 3 v0 rfl rfl) h0
  obtain ⟨a1, rfl, rfl, rfl, w1⟩ := open_int Try.underlying3 (hval 1 3 v1 rfl rfl) h1
  obtain ⟨a2, rfl, rfl, rfl, w2⟩ := open_int Try.underlying3 (hval 2 3 v2 rfl rfl) h2
  obtain ⟨a3, rfl, rfl, rfl, w3⟩ := open_int Try.underlying22 (hval 3 22 v3 rfl rfl) h3
  clear hA0 hval0
  refine (walk a0 a1 a2 a3 W w0 w1 w2 w3).mono fun e W' ⟨he, bel⟩ => ?_
  subst he
  exact ⟨_, rfl, _, _, _, [], _, [], hW', trodAll_mk1 (shut_bool Try.underlying4 _), (trodAll_cons_mk (shut_int Try.underlying3 w0) (trodAll_cons_mk (shut_int Try.underlying3 w1) (trodAll_cons_mk (shut_int Try.underlying3 w2) (trodAll_cons_mk (shut_int Try.underlying22 w3) trodAll_mk0)))), rfl, bel.frame _, fun h => by cases h⟩
theorem over : Rows.mayOneRow.holds Try.pinned (OpenSpec.ofChange Rows.mayOneSpec) :=
  OpenClaim.holds_of_wide 13 Try.f13 rfl rfl rfl rfl rfl rfl rfl ⟨rfl, rfl, rfl, rfl, rfl⟩ rfl rfl rfl rfl rfl (by kernel_rfl) Try.func13 (by kernel_rfl)
    (of_decide_eq_true (by kernel_rfl)) (by unfold Func.isWrapper; first | (rw [if_pos (by decide +kernel)]; kernel_rfl) | (rw [if_neg (by decide +kernel)]; exact ⟨rfl, rfl⟩))
    (fun os started H enc _ => lifted os started H enc)
theorem proved : Rows.MayOneSaid := over
end Go.Proofs.Ytdkgngdfehllcaa.mayOne
