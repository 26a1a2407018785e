/- Proved here: vinculumlaw7.SeeStates returns true and leaves its arguments as they were, for any int and any two words; no further condition. -/
import Derived.Test.YtdkgngdfehllcaaSeeD
import Derived.Test.YtdkgngdfehllcaaMask
import Derived.Test.YtdkgngdfehllcaaSeeF
import Derived.ChangeOld
namespace Go.Proofs.Ytdkgngdfehllcaa.seeStates
open Go.ChangeShapes Go.WideShapes Go.ChangeAt Go.RowKit
set_option linter.unusedVariables false

/-- The closure tells one transaction, whatever is asked: its state and its end lie in two cells. -/
def Two (g1 g2 : Nat) (s e : Int) (w : World) : Prop := w.cell? ⟨g1, 0, none⟩ = some (.int .i64 s) ∧ w.cell? ⟨g2, 0, none⟩ = some (.int .u64 e)
theorem clo (g1 g2 : Nat) (s n id : Int) (w : World) (h : Two g1 g2 s n w) : Calls Try.prog 15 #[.int .i64 id, .pointer (some ⟨g1, 0, none⟩), .pointer (some ⟨g2, 0, none⟩)] w fun e w' => e = .returned (lookV (some ⟨1, s, 1, n⟩)) ∧ Below w.heap.size w w' := by
  obtain ⟨c1, c2⟩ := h
  have k1 := Keep.alloc (Keep.refl (fun _ => False) w) (.cells #[.int .i64 0, .int .i64 0, .int .u64 0, .int .u64 0] 24)
  have c1 := k1.cell c1 (by simp)
  have c2 := k1.cell c2 (by simp)
  obtain ⟨N, eN⟩ : ∃ N, w.heap.size = N := ⟨_, rfl⟩
  have y : ∀ i, (w.alloc (.cells #[.int .i64 0, .int .i64 0, .int .u64 0, .int .u64 0] 24)).cell? ⟨N, i, none⟩ = #[Value.int .i64 0, .int .i64 0, .int .u64 0, .int .u64 0][i]? := fun i => by rw [← eN]; simp
  have z : ∀ i, (w.alloc (.cells #[.int .i64 0, .int .i64 0, .int .u64 0, .int .u64 0] 24)).frozen? ⟨N, i, none⟩ = false := fun i => by rw [← eN]; simp
  obtain ⟨w1, e1⟩ : ∃ w1, w.alloc (.cells #[.int .i64 0, .int .i64 0, .int .u64 0, .int .u64 0] 24) = w1 := ⟨_, rfl⟩
  rw [e1] at k1 c1 c2 y z
  have y0 : w1.cell? ⟨N, 0, none⟩ = some (.int .i64 0) := y 0
  have y1 : w1.cell? ⟨N, 1, none⟩ = some (.int .i64 0) := y 1
  have y2 : w1.cell? ⟨N, 2, none⟩ = some (.int .u64 0) := y 2
  have y3 : w1.cell? ⟨N, 3, none⟩ = some (.int .u64 0) := y 3
  have z0 := z 0
  have z1 := z 1
  have z2 := z 2
  have z3 := z 3
  clear y z
  have W4 := Lib.hid (four_set0 w1 N _ _ _ _ (.int .i64 1) (.int .i64 s) (.int .u64 1) (.int .u64 n) y0 y1 y2 y3)
  go_enter Try.func15, Try.ntmps15
  go_wp2
  obtain ⟨W, eW, v0, v1, v2, v3, kW⟩ := W4.out
  rw [eW]
  have kk : Keep (fun _ => False) w W := by
    have := (k1.mono (T := fun j => j = N) (by simp)).trans kW
    exact ⟨this.os, this.tape, this.output, this.size, fun j hj _ => this.block j hj (by omega)⟩
  exact bodyPost_ret (v := lookV (some ⟨1, s, 1, n⟩)) (by simp [results, Try.results15, go_sem, lookV, txV, v0, v1, v2, v3]) rfl ⟨rfl, kk.below (Nat.le_refl _) (by simp)⟩
theorem looks (g1 g2 : Nat) (s n : Int) : IsLook (.func (.func 15) #[] #[.pointer (some ⟨g1, 0, none⟩), .pointer (some ⟨g2, 0, none⟩)]) (Two g1 g2 s n) (fun _ => some ⟨1, s, 1, n⟩) := by
  refine isLook_of (fun a w => by kernel_rfl) (fun id w _ _ h => clo g1 g2 s n id w h) (fun {w w'} h b => ⟨?_, ?_⟩)
  · exact (b.cell (p := ⟨g1, 0, none⟩) (lt_of_cell h.1)).trans h.1
  · exact (b.cell (p := ⟨g2, 0, none⟩) (lt_of_cell h.2)).trans h.2
theorem start (w : World) (s n : Int) : Below w.heap.size w ((w.alloc (.cells #[.int .i64 s] 3)).alloc (.cells #[.int .u64 n] 22)) ∧ Two w.heap.size (w.heap.size + 1) s n ((w.alloc (.cells #[.int .i64 s] 3)).alloc (.cells #[.int .u64 n] 22)) := by
  have k := (Keep.alloc (Keep.refl (fun _ => False) w) (.cells #[.int .i64 s] 3))
  refine ⟨(k.alloc _).below (Nat.le_refl _) (by simp), ?_, ?_⟩
  · exact (Keep.alloc (Keep.refl (fun _ => False) _) _).cell (by simp) (by simp)
  · simp
theorem see5 (x : Tx) (t v : Int) (q : Int) (h : byX x 5 t = (v, q)) : seeI (fun _ => some x) 4611686018427387909 2305843009213693952 9 t = if v = 2 ∨ v = 3 then (v, []) else if v = 4 then (1, [q]) else (1, []) := by
  have e1 : beginI (fun _ => some x) 4611686018427387909 9 t = (v, q) := by
    rw [show (4611686018427387909 : Int) = 4611686018427387904 + 5 from rfl, txn_b _ _ _ _ (by omega) (by omega)]
    unfold byI
    rw [if_neg (by omega)]
    exact h
  have e2 : endI (fun _ => some x) 2305843009213693952 9 t = (2, 0) := rfl
  unfold seeI
  rw [e1, e2]
  simp
set_option maxHeartbeats 8000000 in
theorem walk (a0 a1 a2 : Int) (w : World) (w0 : (Lit.int .i64 a0).wf = true) (w1 : (Lit.int .u64 a1).wf = true) (w2 : (Lit.int .u64 a2).wf = true) :
    Calls Try.prog 3 #[.int .i64 a0, .int .u64 a1, .int .u64 a2] w fun e w' => e = .returned (.bool true) ∧ Below w.heap.size w w' := by
  obtain ⟨p0, p1⟩ := bounds_u64 w1
  obtain ⟨q0, q1⟩ := bounds_u64 w2
  have h0 := i64_mask8 a0
  have h1 := u64_mask4 a1 p0 p1
  have h2 := u64_mask4 a2 q0 q1
  obtain ⟨m, em⟩ : ∃ m, a0 % 256 = m := ⟨_, rfl⟩
  obtain ⟨s, es⟩ : ∃ s, m % 5 + 1 = s := ⟨_, rfl⟩
  obtain ⟨n, en⟩ : ∃ n, a1 % 16 = n := ⟨_, rfl⟩
  obtain ⟨t, et⟩ : ∃ t, a2 % 16 = t := ⟨_, rfl⟩
  rw [em] at h0
  rw [en] at h1
  rw [et] at h2
  have s0 : 1 ≤ s ∧ s ≤ 5 := by omega
  have m0 : 0 ≤ m := by omega
  have n0 : 0 ≤ n ∧ n ≤ 15 := by omega
  have t0 : 0 ≤ t ∧ t ≤ 15 := by omega
  clear em en et p0 p1 q0 q1 w0 w1 w2
  rcases (by omega : s = 5 ∨ (s = 3 ∧ n ≤ t) ∨ (s = 3 ∧ ¬ n ≤ t) ∨ (s = 2 ∧ n = 0) ∨ (s = 2 ∧ n ≠ 0 ∧ n ≤ t) ∨ (s = 2 ∧ n ≠ 0 ∧ ¬ n ≤ t) ∨ s = 1 ∨ s = 4) with rfl | ⟨rfl, h5⟩ | ⟨rfl, h5⟩ | ⟨rfl, rfl⟩ | ⟨rfl, h5, h6⟩ | ⟨rfl, h5, h6⟩ | rfl | rfl
  · have hr := see5 ⟨1, 5, 1, n⟩ t 3 0 rfl
    go_enter Try.func3, Try.ntmps3; go_wp2_with fail; refine (ever7_any _).mono ?_; rintro e z0 ⟨rfl, rfl⟩; go_wp2_with fail; obtain ⟨hB, hT⟩ := start w _ (n); generalize (w.alloc (Obj.cells #[Value.int IntKind.i64 _] 3)).alloc (Obj.cells #[Value.int IntKind.u64 (n)] 22) = W0 at hB hT ⊢; generalize w.heap.size = G at hT ⊢; refine (psee_to (looks _ _ _ (n)) hT _ _ 9 t _ [] hr (by omega) (by omega) (by omega) (by omega)).mono ?_; rintro e z1 ⟨A, c, rfl, o, b1⟩; have hT := (looks _ _ _ (n)).stay hT b1; obtain ⟨c1, c2⟩ := hT; go_wp2_with fail; refine (awake7_any _).mono ?_; rintro e z2 ⟨rfl, b2⟩; go_wp2; go_ret; exact ⟨rfl, thru (thru hB b1) b2⟩
  · have d1 : decide (n ≤ t) = true := decide_eq_true h5
    have hr := see5 ⟨1, 3, 1, n⟩ t 1 0 (by unfold byX; rw [if_neg (by simp), if_pos ⟨rfl, h5⟩])
    go_enter Try.func3, Try.ntmps3; go_wp2_with fail; refine (ever7_any _).mono ?_; rintro e z0 ⟨rfl, rfl⟩; go_wp2_with fail; obtain ⟨hB, hT⟩ := start w _ (n); generalize (w.alloc (Obj.cells #[Value.int IntKind.i64 _] 3)).alloc (Obj.cells #[Value.int IntKind.u64 (n)] 22) = W0 at hB hT ⊢; generalize w.heap.size = G at hT ⊢; refine (psee_to (looks _ _ _ (n)) hT _ _ 9 t _ [] hr (by omega) (by omega) (by omega) (by omega)).mono ?_; rintro e z1 ⟨A, c, rfl, o, b1⟩; have hT := (looks _ _ _ (n)).stay hT b1; obtain ⟨c1, c2⟩ := hT; go_wp2_with fail; refine (awake7_any _).mono ?_; rintro e z2 ⟨rfl, b2⟩; go_wp2; go_ret; exact ⟨rfl, thru (thru hB b1) b2⟩
  · have d1 : decide (n ≤ t) = false := decide_eq_false h5
    have hr := see5 ⟨1, 3, 1, n⟩ t 2 0 (by unfold byX; rw [if_neg (by simp), if_neg (fun x => h5 x.2), if_neg (by simp)])
    go_enter Try.func3, Try.ntmps3; go_wp2_with fail; refine (ever7_any _).mono ?_; rintro e z0 ⟨rfl, rfl⟩; go_wp2_with fail; obtain ⟨hB, hT⟩ := start w _ (n); generalize (w.alloc (Obj.cells #[Value.int IntKind.i64 _] 3)).alloc (Obj.cells #[Value.int IntKind.u64 (n)] 22) = W0 at hB hT ⊢; generalize w.heap.size = G at hT ⊢; refine (psee_to (looks _ _ _ (n)) hT _ _ 9 t _ [] hr (by omega) (by omega) (by omega) (by omega)).mono ?_; rintro e z1 ⟨A, c, rfl, o, b1⟩; have hT := (looks _ _ _ (n)).stay hT b1; obtain ⟨c1, c2⟩ := hT; go_wp2_with fail; refine (awake7_any _).mono ?_; rintro e z2 ⟨rfl, b2⟩; go_wp2; go_ret; exact ⟨rfl, thru (thru hB b1) b2⟩
  · have hr := see5 ⟨1, 2, 1, 0⟩ t 2 0 (by unfold byX; rw [if_neg (by simp), if_neg (by simp), if_neg (by simp)])
    go_enter Try.func3, Try.ntmps3; go_wp2_with fail; refine (ever7_any _).mono ?_; rintro e z0 ⟨rfl, rfl⟩; go_wp2_with fail; obtain ⟨hB, hT⟩ := start w _ (0); generalize (w.alloc (Obj.cells #[Value.int IntKind.i64 _] 3)).alloc (Obj.cells #[Value.int IntKind.u64 (0)] 22) = W0 at hB hT ⊢; generalize w.heap.size = G at hT ⊢; refine (psee_to (looks _ _ _ (0)) hT _ _ 9 t _ [] hr (by omega) (by omega) (by omega) (by omega)).mono ?_; rintro e z1 ⟨A, c, rfl, o, b1⟩; have hT := (looks _ _ _ (0)).stay hT b1; obtain ⟨c1, c2⟩ := hT; go_wp2_with fail; refine (awake7_any _).mono ?_; rintro e z2 ⟨rfl, b2⟩; go_wp2; go_ret; exact ⟨rfl, thru (thru hB b1) b2⟩
  · have d1 : decide (n ≤ t) = true := decide_eq_true h6
    have d2 : (n != 0) = true := by simpa using h5
    have hr := see5 ⟨1, 2, 1, n⟩ t 4 5 (by unfold byX; rw [if_neg (by simp), if_neg (by simp), if_pos ⟨rfl, h5, h6⟩])
    go_enter Try.func3, Try.ntmps3; go_wp2_with fail; refine (ever7_any _).mono ?_; rintro e z0 ⟨rfl, rfl⟩; go_wp2_with fail; obtain ⟨hB, hT⟩ := start w _ (n); generalize (w.alloc (Obj.cells #[Value.int IntKind.i64 _] 3)).alloc (Obj.cells #[Value.int IntKind.u64 (n)] 22) = W0 at hB hT ⊢; generalize w.heap.size = G at hT ⊢
    refine (psee_one (looks _ _ 2 n) hT _ _ 9 t 1 5 hr (by omega) (by omega) (by omega) (by omega)).mono ?_
    rintro e z1 ⟨g, c, rfl, o, cg, _, b1⟩
    have hT := (looks _ _ _ (n)).stay hT b1; obtain ⟨c1, c2⟩ := hT; go_wp2_with fail; refine (awake7_any _).mono ?_; rintro e z2 ⟨rfl, b2⟩; go_wp2; go_ret; exact ⟨rfl, thru (thru hB b1) b2⟩
  · have d1 : decide (n ≤ t) = false := decide_eq_false h6
    have d2 : (n != 0) = true := by simpa using h5
    have hr := see5 ⟨1, 2, 1, n⟩ t 2 0 (by unfold byX; rw [if_neg (by simp), if_neg (by simp), if_neg (fun x => h6 x.2.2)])
    go_enter Try.func3, Try.ntmps3; go_wp2_with fail; refine (ever7_any _).mono ?_; rintro e z0 ⟨rfl, rfl⟩; go_wp2_with fail; obtain ⟨hB, hT⟩ := start w _ (n); generalize (w.alloc (Obj.cells #[Value.int IntKind.i64 _] 3)).alloc (Obj.cells #[Value.int IntKind.u64 (n)] 22) = W0 at hB hT ⊢; generalize w.heap.size = G at hT ⊢; refine (psee_to (looks _ _ _ (n)) hT _ _ 9 t _ [] hr (by omega) (by omega) (by omega) (by omega)).mono ?_; rintro e z1 ⟨A, c, rfl, o, b1⟩; have hT := (looks _ _ _ (n)).stay hT b1; obtain ⟨c1, c2⟩ := hT; go_wp2_with fail; refine (awake7_any _).mono ?_; rintro e z2 ⟨rfl, b2⟩; go_wp2; go_ret; exact ⟨rfl, thru (thru hB b1) b2⟩
  · have hr := see5 ⟨1, 1, 1, n⟩ t 2 0 (by unfold byX; rw [if_neg (by simp), if_neg (by simp), if_neg (by simp)])
    go_enter Try.func3, Try.ntmps3; go_wp2_with fail; refine (ever7_any _).mono ?_; rintro e z0 ⟨rfl, rfl⟩; go_wp2_with fail; obtain ⟨hB, hT⟩ := start w _ (n); generalize (w.alloc (Obj.cells #[Value.int IntKind.i64 _] 3)).alloc (Obj.cells #[Value.int IntKind.u64 (n)] 22) = W0 at hB hT ⊢; generalize w.heap.size = G at hT ⊢; refine (psee_to (looks _ _ _ (n)) hT _ _ 9 t _ [] hr (by omega) (by omega) (by omega) (by omega)).mono ?_; rintro e z1 ⟨A, c, rfl, o, b1⟩; have hT := (looks _ _ _ (n)).stay hT b1; obtain ⟨c1, c2⟩ := hT; go_wp2_with fail; refine (awake7_any _).mono ?_; rintro e z2 ⟨rfl, b2⟩; go_wp2; go_ret; exact ⟨rfl, thru (thru hB b1) b2⟩
  · have hr := see5 ⟨1, 4, 1, n⟩ t 2 0 (by unfold byX; rw [if_neg (by simp), if_neg (by simp), if_neg (by simp)])
    go_enter Try.func3, Try.ntmps3; go_wp2_with fail; refine (ever7_any _).mono ?_; rintro e z0 ⟨rfl, rfl⟩; go_wp2_with fail; obtain ⟨hB, hT⟩ := start w _ (n); generalize (w.alloc (Obj.cells #[Value.int IntKind.i64 _] 3)).alloc (Obj.cells #[Value.int IntKind.u64 (n)] 22) = W0 at hB hT ⊢; generalize w.heap.size = G at hT ⊢; refine (psee_to (looks _ _ _ (n)) hT _ _ 9 t _ [] hr (by omega) (by omega) (by omega) (by omega)).mono ?_; rintro e z1 ⟨A, c, rfl, o, b1⟩; have hT := (looks _ _ _ (n)).stay hT b1; obtain ⟨c1, c2⟩ := hT; go_wp2_with fail; refine (awake7_any _).mono ?_; rintro e z2 ⟨rfl, b2⟩; go_wp2; go_ret; exact ⟨rfl, thru (thru hB b1) b2⟩
theorem own : ownKnob Try.prog.godebug = none := by kernel_rfl
theorem laidOut : laidOutB Try.prog = true := by kernel_rfl
set_option maxRecDepth 100000 in
theorem lifted (os : Os) (started : os.Started) (H : Type) (enc : TypeId × Value → H) :
    ReturnsInHanded {} Try.checked os 3 .any (Rows.seeStatesSpec.pre6 enc Try.prog Try.f3 Rows.seeStatesRow.domain false) (Rows.seeStatesSpec.post enc Try.prog Try.f3 false true false false) := by
  refine returnsInHanded_of_change (C := Try.checked) own started (by kernel_rfl) Try.func3
    (ChangeSpec.witness6 (enc := enc) (C := Try.checked) false ⟨#[], #[.int .i64 0, .int .u64 0, .int .u64 0], []⟩ 8 (by kernel_rfl) (by kernel_rfl) (by kernel_rfl) (by kernel_rfl)) ?_
  intro W base args ds gs before hval0 hW hcnd _
  have hval : ∀ (j : Nat) t v, Try.f3.params[j]? = some t → args[j]? = some v → Value.okWide Try.prog W .any base t v := hval0
  have hW' := hW
  obtain ⟨p, q, hA0, hV, rfl, hfz, hnd⟩ := hW
  have hA : DataW.TrodAll enc Try.prog W 0 (fun _ => true) true Try.f3.params.toList args.toList ds p := hA0
  rw [Try.params3] at hA hval
  obtain ⟨v0, vs0, d0, ds0, p0, q0, hargs, rfl, rfl, h0, r0⟩ := trodAll_cons hA
  obtain ⟨v1, vs1, d1, ds1, p1, q1, rfl, rfl, rfl, h1, r1⟩ := trodAll_cons r0
  obtain ⟨v2, vs2, d2, ds2, p2, q2, rfl, rfl, rfl, h2, r2⟩ := trodAll_cons r1
  obtain ⟨rfl, rfl, rfl⟩ := trodAll_nil r2
  obtain rfl : args = #[v0, v1, v2] := by cases args; simp_all
  obtain ⟨rfl, rfl⟩ := trodVars_none hV
  obtain ⟨a0, rfl, rfl, rfl, w0⟩ := open_int Try.underlying3 (hval 0 3 v0 rfl rfl) h0
  obtain ⟨a1, rfl, rfl, rfl, w1⟩ := open_int Try.underlying22 (hval 1 22 v1 rfl rfl) h1
  obtain ⟨a2, rfl, rfl, rfl, w2⟩ := open_int Try.underlying22 (hval 2 22 v2 rfl rfl) h2
  clear hA0 hval0
  refine (walk a0 a1 a2 W w0 w1 w2).mono fun e W' ⟨he, bel⟩ => ?_
  subst he
  exact ⟨_, rfl, _, _, _, [], _, [], hW', trodAll_mk1 (shut_bool Try.underlying4 _), (trodAll_cons_mk (shut_int Try.underlying3 w0) (trodAll_cons_mk (shut_int Try.underlying22 w1) (trodAll_cons_mk (shut_int Try.underlying22 w2) trodAll_mk0))), rfl, bel.frame _, fun h => by cases h⟩
theorem over : Rows.seeStatesRow.holds Try.pinned (OpenSpec.ofChange Rows.seeStatesSpec) :=
  OpenClaim.holds_of_wide 3 Try.f3 rfl rfl rfl rfl rfl rfl rfl ⟨rfl, rfl, rfl, rfl, rfl⟩ rfl rfl rfl rfl rfl (by kernel_rfl) Try.func3 (by kernel_rfl)
    (of_decide_eq_true (by kernel_rfl)) (by unfold Func.isWrapper; first | (rw [if_pos (by decide +kernel)]; kernel_rfl) | (rw [if_neg (by decide +kernel)]; exact ⟨rfl, rfl⟩))
    (fun os started H enc _ => lifted os started H enc)
theorem proved : Rows.SeeStatesSaid := over
end Go.Proofs.Ytdkgngdfehllcaa.seeStates
