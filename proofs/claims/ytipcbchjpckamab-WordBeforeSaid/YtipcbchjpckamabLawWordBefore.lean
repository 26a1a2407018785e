/- Proved here: vinculumlaw1.WordBefore returns true and leaves its arguments as they were, for any two times and any transaction: every two uint64 and every int, cut down by the law itself; no further condition. -/
import Derived.Test.YtipcbchjpckamabStamp
import Derived.ChangeOld
namespace Go.Proofs.Ytipcbchjpckamab.wordBefore
open Go.ChangeShapes Go.WideShapes Go.ChangeAt Go.RowKit
set_option linter.unusedVariables false

theorem bef_no (a b : Int) (h : 1099511627776 < a) : befI a b = false := decide_eq_false (by omega)
theorem bef_no' (a b : Int) (h : b ≠ 2305843009213693952) (h' : 1099511627776 < b) : befI a b = false := decide_eq_false (by omega)
theorem bef_self (a : Int) : befI a a = false := decide_eq_false (by omega)
theorem bef_ever (a : Int) (h : a ≤ 1099511627776) : befI a 2305843009213693952 = true := decide_eq_true ⟨h, .inl rfl⟩
theorem bef_times (a b : Int) (h : a ≤ 1099511627776) (h' : b ≤ 1099511627776) : befI a b = decide (a < b) := by
  unfold befI; rw [Bool.eq_iff_iff]; simp; omega
set_option maxHeartbeats 1000000 in
theorem walk (a0 : Int) (a1 : Int) (a2 : Int) (w : World) (w0 : (Lit.int .u64 a0).wf = true) (w1 : (Lit.int .u64 a1).wf = true) (w2 : (Lit.int .i64 a2).wf = true) :
    Calls Try.prog 3 #[.int .u64 a0, .int .u64 a1, .int .i64 a2] w fun e w' => e = .returned (.bool true) ∧ Below w.heap.size w w' := by
  obtain ⟨p0, p1⟩ := bounds_u64 w0
  obtain ⟨q0, q1⟩ := bounds_u64 w1
  have ha := u64_mask40 a0 p0 p1
  have hb := u64_mask40 a1 q0 q1
  have hi := i64_mask12 a2
  obtain ⟨a, ea⟩ : ∃ x, a0 % 1099511627776 = x := ⟨_, rfl⟩
  obtain ⟨b, eb⟩ : ∃ x, a1 % 1099511627776 = x := ⟨_, rfl⟩
  obtain ⟨i, ei⟩ : ∃ x, a2 % 4096 = x := ⟨_, rfl⟩
  rw [ea] at ha
  rw [eb] at hb
  rw [ei] at hi
  have a00 : 0 ≤ a := by omega
  have a01 : a ≤ 1099511627775 := by omega
  have b00 : 0 ≤ b := by omega
  have b01 : b ≤ 1099511627775 := by omega
  have i00 : 0 ≤ i := by omega
  have i01 : i ≤ 4095 := by omega
  clear ea eb ei
  obtain ⟨ii, hii⟩ : ∃ x, i + 1 = x := ⟨_, rfl⟩
  have ii0 : 1 ≤ ii := by omega
  have ii1 : ii ≤ 65535 := by omega
  obtain ⟨x, hx⟩ : ∃ x, txnW ii = x := ⟨_, rfl⟩
  have xe : x = 4611686018427387904 + ii := by rw [← hx]; unfold txnW; rw [if_pos ⟨ii0, ii1⟩]
  have bi : txnB ii = true := decide_eq_true ⟨ii0, ii1⟩
  have ta := timeW_yes a (by omega)
  have tb := timeW_yes b (by omega)
  have x0 : 0 ≤ x := by omega
  have x1 : x ≤ 18446744073709551615 := by omega
  obtain ⟨u, hu⟩ : ∃ u, befI a b = u := ⟨_, rfl⟩
  have hu' : decide (a < b) = u := by rw [← hu]; exact (bef_times a b (by omega) (by omega)).symm
  have f1 := bef_ever a (by omega)
  have f2 := bef_no 2305843009213693952 a (by decide)
  have f3 := bef_self 2305843009213693952
  have f4 := bef_no x 2305843009213693952 (by omega)
  have f5 := bef_no' a x (by omega) (by omega)
  have f6 := bef_no x a (by omega)
  have f7 := bef_self a
  clear xe
  go_enter Try.func3, Try.ntmps3
  go_wp2_with (first | (go_at_call 6; refine (foreverw_any _).mono ?_; rintro e w' ⟨rfl, rfl⟩) | (go_at_call 4; refine (timew_any _ (by omega) (by omega) _).mono ?_; rintro e w' ⟨rfl, rfl⟩) | (go_at_call 5; refine (txnw_any _ (by omega) (by omega) _).mono ?_; rintro e w' ⟨rfl, rfl⟩) | (go_at_call 7; refine (beforew_any _ _ (by omega) (by omega) (by omega) (by omega) _).mono ?_; rintro e w' ⟨rfl, rfl⟩) | (go_at_call 8; refine (awake1_any _).mono ?_; rintro e w' ⟨rfl, bel⟩))
  go_ret
  exact ⟨rfl, bel⟩
theorem own : ownKnob Try.prog.godebug = none := by kernel_rfl
theorem laidOut : laidOutB Try.prog = true := by kernel_rfl
set_option maxRecDepth 100000 in
theorem lifted (os : Os) (started : os.Started) (H : Type) (enc : TypeId × Value → H) :
    ReturnsInHanded {} Try.checked os 3 .any (Rows.wordBeforeSpec.pre6 enc Try.prog Try.f3 Rows.wordBeforeRow.domain false) (Rows.wordBeforeSpec.post enc Try.prog Try.f3 false true false false) := by
  refine returnsInHanded_of_change (C := Try.checked) own started (by kernel_rfl) Try.func3
    (ChangeSpec.witness6 (enc := enc) (C := Try.checked) false ⟨#[], #[.int .u64 0, .int .u64 0, .int .i64 0], []⟩ 8 (by kernel_rfl) (by kernel_rfl) (by kernel_rfl) (by kernel_rfl)) ?_
  intro W base args ds gs before hval0 hW hcnd _
  have hval : ∀ (j : Nat) t v, Try.f3.params[j]? = some t → args[j]? = some v → Value.okWide Try.prog W .any base t v := hval0
  have hW' := hW
  obtain ⟨p, q, hA0, hV, rfl, hfz, hnd⟩ := hW
  have hA : DataW.TrodAll enc Try.prog W 0 (fun _ => true) true Try.f3.params.toList args.toList ds p := hA0
  rw [Try.params3] at hA hval
  obtain ⟨v0, vs0, d0, ds0, p0, q0, hargs, rfl, rfl, h0, r0⟩ := trodAll_cons hA
  obtain ⟨v1, vs1, d1, ds1, p1, q1, rfl, rfl, rfl, h1, r1⟩ := trodAll_cons r0
  obtain ⟨v2, vs2, d2, ds2, p2, q2, rfl, rfl, rfl, h2, r2⟩ := trodAll_cons r1
  obtain ⟨rfl, rfl, rfl⟩ := trodAll_nil r2
  obtain rfl : args = #[v0, v1, v2] := by cases args; simp_all
  obtain ⟨rfl, rfl⟩ := trodVars_none hV
  obtain ⟨a0, rfl, rfl, rfl, w0⟩ := open_int Try.underlying22 (hval 0 22 v0 rfl rfl) h0
  obtain ⟨a1, rfl, rfl, rfl, w1⟩ := open_int Try.underlying22 (hval 1 22 v1 rfl rfl) h1
  obtain ⟨a2, rfl, rfl, rfl, w2⟩ := open_int Try.underlying3 (hval 2 3 v2 rfl rfl) h2
  clear hA0 hval0
  refine (walk a0 a1 a2 W w0 w1 w2).mono fun e W' ⟨he, bel⟩ => ?_
  subst he
  exact ⟨_, rfl, _, _, _, [], _, [], hW', trodAll_mk1 (shut_bool Try.underlying4 _), (trodAll_cons_mk (shut_int Try.underlying22 w0) (trodAll_cons_mk (shut_int Try.underlying22 w1) (trodAll_cons_mk (shut_int Try.underlying3 w2) trodAll_mk0))), rfl, bel.frame _, fun h => by cases h⟩
theorem over : Rows.wordBeforeRow.holds Try.pinned (OpenSpec.ofChange Rows.wordBeforeSpec) :=
  OpenClaim.holds_of_wide 3 Try.f3 rfl rfl rfl rfl rfl rfl rfl ⟨rfl, rfl, rfl, rfl, rfl⟩ rfl rfl rfl rfl rfl (by kernel_rfl) Try.func3 (by kernel_rfl)
    (of_decide_eq_true (by kernel_rfl)) (by unfold Func.isWrapper; first | (rw [if_pos (by decide +kernel)]; kernel_rfl) | (rw [if_neg (by decide +kernel)]; exact ⟨rfl, rfl⟩))
    (fun os started H enc _ => lifted os started H enc)
theorem proved : Rows.WordBeforeSaid := over
#print axioms proved
end Go.Proofs.Ytipcbchjpckamab.wordBefore
