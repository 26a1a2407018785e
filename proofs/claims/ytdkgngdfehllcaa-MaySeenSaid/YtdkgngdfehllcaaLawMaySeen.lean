/- Proved here: vinculumlaw8.MaySeen returns true and leaves its arguments as they were, for any int, any word, anyone, at any time; no further condition. -/
import Derived.Test.YtdkgngdfehllcaaMayD
import Derived.Test.YtdkgngdfehllcaaSeeW
import Derived.Test.YtdkgngdfehllcaaSeeF
import Derived.ChangeOld
namespace Go.Proofs.Ytdkgngdfehllcaa.maySeen
open Go.ChangeShapes Go.WideShapes Go.ChangeAt Go.RowKit
set_option linter.unusedVariables false

theorem end_is {L : Int → Option Tx} {b me t : Int} (h : rdK b = 2) : endI L b me t = byI L (rdN b) me t := by unfold endI; rw [if_pos h]
set_option maxRecDepth 100000 in
set_option maxHeartbeats 8000000 in
theorem walk (a0 a1 a2 a3 : Int) (w : World) (w0 : (Lit.int .i64 a0).wf = true) (w1 : (Lit.int .u64 a1).wf = true) (w2 : (Lit.int .i64 a2).wf = true) (w3 : (Lit.int .u64 a3).wf = true) :
    Calls Try.prog 10 #[.int .i64 a0, .int .u64 a1, .int .i64 a2, .int .u64 a3] w fun e w' => e = .returned (.bool true) ∧ Below w.heap.size w w' := by
  obtain ⟨p0, p1⟩ := bounds_u64 w1
  have hb := wordI_b a0 a1 p0 p1
  have hW := word7_any a0 a1 p0 p1
  have hm := i64_mask12 a2
  obtain ⟨m, em⟩ : ∃ m, a2 % 4096 = m := ⟨_, rfl⟩
  rw [em] at hm
  have m0 : 0 ≤ m ∧ m ≤ 4095 := by omega
  obtain ⟨b, eb⟩ : ∃ b, wordI a0 a1 = b := ⟨_, rfl⟩
  rw [eb] at hb hW
  clear em eb p0 p1 w0 w1 w2 w3
  obtain ⟨b0, b1⟩ := hb
  have wm : IntKind.i64.wrap (m + 1) = m + 1 := IntWalk.i64_in _ (by omega)
  have hR := readr_any b b0 b1
  obtain ⟨⟨p, q⟩, eW⟩ : ∃ r, writeI noL b (m + 1) = r := ⟨_, rfl⟩
  obtain ⟨⟨x, y⟩, eE⟩ : ∃ r, endI noL b (m + 1) a3 = r := ⟨_, rfl⟩
  rcases rd_cases b with ⟨h1, hk, hn⟩ | ⟨h1, hk, hn⟩ | ⟨h1, h1', hk, hn⟩ | ⟨h1, h2, h3, hk, hn⟩
  · have e1 : writeI noL b (m + 1) = (2, 0) := by unfold writeI; rw [hk, if_neg (by omega), if_pos (by decide)]
    rw [e1] at eW
    cases eW
    rw [hk, hn] at hR
    go_enter Try.func10, Try.ntmps10; go_wp2_with fail; refine (hW _).mono ?_; rintro e z0 ⟨rfl, rfl⟩; go_wp2_with fail; refine (pwrite_to look_nil trivial _ (m + 1) _ _ (by assumption) b0 b1).mono ?_; rintro e z1 ⟨rfl, y1⟩; go_wp2_with fail; refine (hR _).mono ?_; rintro e z2 ⟨rfl, y2⟩; go_wp2_with fail; have yA := (thru y1 y2).alloc (thru y1 y2).size (.cells #[.int .i64 1, .int .u64 b] 52); have c0 : (z2.alloc (.cells #[.int .i64 1, .int .u64 b] 52)).cell? ⟨z2.heap.size, 0, none⟩ = some (.int .i64 1) := (by simp); have c1 : (z2.alloc (.cells #[.int .i64 1, .int .u64 b] 52)).cell? ⟨z2.heap.size, 1, none⟩ = some (.int .u64 b) := (by simp); refine (pend_to look_nil trivial _ (m + 1) a3 _ _ (by assumption) b0 b1).mono ?_; rintro e z3 ⟨rfl, y3⟩; have c0 := (y3.cell (p := ⟨z2.heap.size, 0, none⟩) (lt_of_cell c0)).trans c0; have c1 := (y3.cell (p := ⟨z2.heap.size, 1, none⟩) (lt_of_cell c1)).trans c1; clear eE hR hW; go_wp2_with fail; refine (awake8_any _).mono ?_; rintro e z4 ⟨rfl, y4⟩; go_wp2; go_ret; exact ⟨rfl, thru (thru yA y3) y4⟩
  · subst h1
    have e1 : writeI noL 2305843009213693952 (m + 1) = (1, 0) := by unfold writeI; rw [hk, if_pos (.inl rfl)]
    rw [e1] at eW
    cases eW
    have e2 := ever_e (m + 1) a3
    rw [e2] at eE
    cases eE
    rw [hk, hn] at hR
    have eW := e1
    have eE := e2
    go_enter Try.func10, Try.ntmps10; go_wp2_with fail; refine (hW _).mono ?_; rintro e z0 ⟨rfl, rfl⟩; go_wp2_with fail; refine (pwrite_to look_nil trivial _ (m + 1) _ _ (by assumption) b0 b1).mono ?_; rintro e z1 ⟨rfl, y1⟩; go_wp2_with fail; refine (hR _).mono ?_; rintro e z2 ⟨rfl, y2⟩; go_wp2_with fail; have yA := (thru y1 y2).alloc (thru y1 y2).size (.cells #[.int .i64 3, .int .u64 0] 52); have c0 : (z2.alloc (.cells #[.int .i64 3, .int .u64 0] 52)).cell? ⟨z2.heap.size, 0, none⟩ = some (.int .i64 3) := (by simp); have c1 : (z2.alloc (.cells #[.int .i64 3, .int .u64 0] 52)).cell? ⟨z2.heap.size, 1, none⟩ = some (.int .u64 0) := (by simp); refine (pend_to look_nil trivial _ (m + 1) a3 _ _ (by assumption) b0 b1).mono ?_; rintro e z3 ⟨rfl, y3⟩; have c0 := (y3.cell (p := ⟨z2.heap.size, 0, none⟩) (lt_of_cell c0)).trans c0; have c1 := (y3.cell (p := ⟨z2.heap.size, 1, none⟩) (lt_of_cell c1)).trans c1; clear eE hR hW; go_wp2_with fail; refine (awake8_any _).mono ?_; rintro e z4 ⟨rfl, y4⟩; go_wp2; go_ret; exact ⟨rfl, thru (thru yA y3) y4⟩
  · obtain ⟨i, ei⟩ : ∃ i, b - 4611686018427387904 = i := ⟨_, rfl⟩
    rw [ei] at hn
    rw [hk, hn] at hR
    have wr : IntKind.i64.wrap i = i := IntWalk.i64_in _ (by omega)
    have eT := end_is (L := noL) (me := m + 1) (t := a3) hk
    rw [hn] at eT
    by_cases hmi : i = m + 1
    · subst hmi
      have e1 : writeI noL b (m + 1) = (1, 0) := by unfold writeI; rw [hk, hn, if_pos (.inr ⟨rfl, rfl⟩)]
      rw [by_me] at eT
      rw [e1] at eW
      cases eW
      rw [eT] at eE
      cases eE
      have eW := e1
      have eE := eT
      clear ei
      go_enter Try.func10, Try.ntmps10; go_wp2_with fail; refine (hW _).mono ?_; rintro e z0 ⟨rfl, rfl⟩; go_wp2_with fail; refine (pwrite_to look_nil trivial _ (m + 1) _ _ (by assumption) b0 b1).mono ?_; rintro e z1 ⟨rfl, y1⟩; go_wp2_with fail; refine (hR _).mono ?_; rintro e z2 ⟨rfl, y2⟩; go_wp2_with fail; have yA := (thru y1 y2).alloc (thru y1 y2).size (.cells #[.int .i64 2, .int .u64 (m + 1)] 52); have c0 : (z2.alloc (.cells #[.int .i64 2, .int .u64 (m + 1)] 52)).cell? ⟨z2.heap.size, 0, none⟩ = some (.int .i64 2) := (by simp); have c1 : (z2.alloc (.cells #[.int .i64 2, .int .u64 (m + 1)] 52)).cell? ⟨z2.heap.size, 1, none⟩ = some (.int .u64 (m + 1)) := (by simp); refine (pend_to look_nil trivial _ (m + 1) a3 _ _ (by assumption) b0 b1).mono ?_; rintro e z3 ⟨rfl, y3⟩; have c0 := (y3.cell (p := ⟨z2.heap.size, 0, none⟩) (lt_of_cell c0)).trans c0; have c1 := (y3.cell (p := ⟨z2.heap.size, 1, none⟩) (lt_of_cell c1)).trans c1; clear eE hR hW; go_wp2_with fail; refine (awake8_any _).mono ?_; rintro e z4 ⟨rfl, y4⟩; go_wp2; go_ret; exact ⟨rfl, thru (thru yA y3) y4⟩
    · have e1 := writeI_txn (L := noL) hk (show rdN b ≠ m + 1 by rw [hn]; exact hmi)
      have e1 : writeI noL b (m + 1) = (3, 0) := e1
      rw [by_no _ _ _ hmi] at eT
      rw [e1] at eW
      cases eW
      rw [eT] at eE
      cases eE
      have eW := e1
      have eE := eT
      have q0 : (i == m + 1) = false := by simpa using hmi
      clear ei hmi
      go_enter Try.func10, Try.ntmps10; go_wp2_with fail; refine (hW _).mono ?_; rintro e z0 ⟨rfl, rfl⟩; go_wp2_with fail; refine (pwrite_to look_nil trivial _ (m + 1) _ _ (by assumption) b0 b1).mono ?_; rintro e z1 ⟨rfl, y1⟩; go_wp2_with fail; refine (hR _).mono ?_; rintro e z2 ⟨rfl, y2⟩; go_wp2_with fail; have yA := (thru y1 y2).alloc (thru y1 y2).size (.cells #[.int .i64 2, .int .u64 i] 52); have c0 : (z2.alloc (.cells #[.int .i64 2, .int .u64 i] 52)).cell? ⟨z2.heap.size, 0, none⟩ = some (.int .i64 2) := (by simp); have c1 : (z2.alloc (.cells #[.int .i64 2, .int .u64 i] 52)).cell? ⟨z2.heap.size, 1, none⟩ = some (.int .u64 i) := (by simp); refine (pend_to look_nil trivial _ (m + 1) a3 _ _ (by assumption) b0 b1).mono ?_; rintro e z3 ⟨rfl, y3⟩; have c0 := (y3.cell (p := ⟨z2.heap.size, 0, none⟩) (lt_of_cell c0)).trans c0; have c1 := (y3.cell (p := ⟨z2.heap.size, 1, none⟩) (lt_of_cell c1)).trans c1; clear eE hR hW; go_wp2_with fail; refine (awake8_any _).mono ?_; rintro e z4 ⟨rfl, y4⟩; go_wp2; go_ret; exact ⟨rfl, thru (thru yA y3) y4⟩
  · have e1 : writeI noL b (m + 1) = (2, 0) := by unfold writeI; rw [hk, if_neg (by omega), if_pos (by decide)]
    rw [e1] at eW
    cases eW
    rw [hk, hn] at hR
    clear h3
    go_enter Try.func10, Try.ntmps10; go_wp2_with fail; refine (hW _).mono ?_; rintro e z0 ⟨rfl, rfl⟩; go_wp2_with fail; refine (pwrite_to look_nil trivial _ (m + 1) _ _ (by assumption) b0 b1).mono ?_; rintro e z1 ⟨rfl, y1⟩; go_wp2_with fail; refine (hR _).mono ?_; rintro e z2 ⟨rfl, y2⟩; go_wp2_with fail; have yA := (thru y1 y2).alloc (thru y1 y2).size (.cells #[.int .i64 0, .int .u64 0] 52); have c0 : (z2.alloc (.cells #[.int .i64 0, .int .u64 0] 52)).cell? ⟨z2.heap.size, 0, none⟩ = some (.int .i64 0) := (by simp); have c1 : (z2.alloc (.cells #[.int .i64 0, .int .u64 0] 52)).cell? ⟨z2.heap.size, 1, none⟩ = some (.int .u64 0) := (by simp); refine (pend_to look_nil trivial _ (m + 1) a3 _ _ (by assumption) b0 b1).mono ?_; rintro e z3 ⟨rfl, y3⟩; have c0 := (y3.cell (p := ⟨z2.heap.size, 0, none⟩) (lt_of_cell c0)).trans c0; have c1 := (y3.cell (p := ⟨z2.heap.size, 1, none⟩) (lt_of_cell c1)).trans c1; clear eE hR hW; go_wp2_with fail; refine (awake8_any _).mono ?_; rintro e z4 ⟨rfl, y4⟩; go_wp2; go_ret; exact ⟨rfl, thru (thru yA y3) y4⟩
theorem own : ownKnob Try.prog.godebug = none := by kernel_rfl
theorem laidOut : laidOutB Try.prog = true := by kernel_rfl
set_option maxRecDepth 100000 in
theorem lifted (os : Os) (started : os.Started) (H : Type) (enc : TypeId × Value → H) :
    ReturnsInHanded {} Try.checked os 10 .any (Rows.maySeenSpec.pre6 enc Try.prog Try.f10 Rows.maySeenRow.domain false) (Rows.maySeenSpec.post enc Try.prog Try.f10 false true false false) := by
  refine returnsInHanded_of_change (C := Try.checked) own started (by kernel_rfl) Try.func10
    (ChangeSpec.witness6 (enc := enc) (C := Try.checked) false ⟨#[], #[.int .i64 0, .int .u64 0, .int .i64 0, .int .u64 0], []⟩ 8 (by kernel_rfl) (by kernel_rfl) (by kernel_rfl) (by kernel_rfl)) ?_
  intro W base args ds gs before hval0 hW hcnd _
  have hval : ∀ (j : Nat) t v, Try.f10.params[j]? = some t → args[j]? = some v → Value.okWide Try.prog W .any base t v := hval0
  have hW' := hW
  obtain ⟨p, q, hA0, hV, rfl, hfz, hnd⟩ := hW
  have hA : DataW.TrodAll enc Try.prog W 0 (fun _ => true) true Try.f10.params.toList args.toList ds p := hA0
  rw [Try.params10] at hA hval
  obtain ⟨v0, vs0, d0, ds0, p0, q0, hargs, rfl, rfl, h0, r0⟩ := trodAll_cons hA
  obtain ⟨v1, vs1, d1, ds1, p1, q1, rfl, rfl, rfl, h1, r1⟩ := trodAll_cons r0
  obtain ⟨v2, vs2, d2, ds2, p2, q2, rfl, rfl, rfl, h2, r2⟩ := trodAll_cons r1
  obtain ⟨v3, vs3, d3, ds3, p3, q3, rfl, rfl, rfl, h3, r3⟩ := trodAll_cons r2
  obtain ⟨rfl, rfl, rfl⟩ := trodAll_nil r3
  obtain rfl : args = #[v0, v1, v2, v3] := by cases args; simp_all
  obtain ⟨rfl, rfl⟩ := trodVars_none hV
  obtain ⟨a0, rfl, rfl, rfl, w0⟩ := open_int Try.underlying3 (hval 0 3 v0 rfl rfl) h0
  obtain ⟨a1, rfl, rfl, rfl, w1⟩ := open_int Try.underlying22 (hval 1 22 v1 rfl rfl) h1
  obtain ⟨a2, rfl, rfl, rfl, w2⟩ := open_int Try.underlying3 (hval 2 3 v2 rfl rfl) h2
  obtain ⟨a3, rfl, rfl, rfl, w3⟩ := open_int Try.underlying22 (hval 3 22 v3 rfl rfl) h3
  clear hA0 hval0
  refine (walk a0 a1 a2 a3 W w0 w1 w2 w3).mono fun e W' ⟨he, bel⟩ => ?_
  subst he
  exact ⟨_, rfl, _, _, _, [], _, [], hW', trodAll_mk1 (shut_bool Try.underlying4 _), (trodAll_cons_mk (shut_int Try.underlying3 w0) (trodAll_cons_mk (shut_int Try.underlying22 w1) (trodAll_cons_mk (shut_int Try.underlying3 w2) (trodAll_cons_mk (shut_int Try.underlying22 w3) trodAll_mk0)))), rfl, bel.frame _, fun h => by cases h⟩
theorem over : Rows.maySeenRow.holds Try.pinned (OpenSpec.ofChange Rows.maySeenSpec) :=
  OpenClaim.holds_of_wide 10 Try.f10 rfl rfl rfl rfl rfl rfl rfl ⟨rfl, rfl, rfl, rfl, rfl⟩ rfl rfl rfl rfl rfl (by kernel_rfl) Try.func10 (by kernel_rfl)
    (of_decide_eq_true (by kernel_rfl)) (by unfold Func.isWrapper; first | (rw [if_pos (by decide +kernel)]; kernel_rfl) | (rw [if_neg (by decide +kernel)]; exact ⟨rfl, rfl⟩))
    (fun os started H enc _ => lifted os started H enc)
theorem proved : Rows.MaySeenSaid := over
end Go.Proofs.Ytdkgngdfehllcaa.maySeen
