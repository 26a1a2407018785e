/- Proved here: vinculumlaw1.WordEnds returns true and leaves its arguments as they were, for any numbers: every uint64 and every three ints, brought around the bounds by the law itself; no further condition. -/
import Derived.Test.YtipcbchjpckamaaStamp
import Derived.ChangeOld
namespace Go.Proofs.Ytipcbchjpckamaa.wordEnds
open Go.ChangeShapes Go.WideShapes Go.ChangeAt Go.RowKit
set_option linter.unusedVariables false

set_option maxHeartbeats 1000000 in
theorem walk (a0 : Int) (a1 : Int) (a2 : Int) (a3 : Int) (w : World) (w0 : (Lit.int .u64 a0).wf = true) (w1 : (Lit.int .i64 a1).wf = true) (w2 : (Lit.int .i64 a2).wf = true) (w3 : (Lit.int .i64 a3).wf = true) :
    Calls Try.prog 4 #[.int .u64 a0, .int .i64 a1, .int .i64 a2, .int .i64 a3] w fun e w' => e = .returned (.bool true) ∧ Below w.heap.size w w' := by
  obtain ⟨p0, p1⟩ := bounds_u64 w0
  have h0 := u64_mask3 a0 p0 p1
  have h1 := i64_mask3 a1
  have h2 := i64_mask3 a2
  have h3 := i64_mask3 a3
  obtain ⟨r0, e0⟩ : ∃ x, a0 % 8 = x := ⟨_, rfl⟩
  obtain ⟨r1, e1⟩ : ∃ x, a1 % 8 = x := ⟨_, rfl⟩
  obtain ⟨r2, e2⟩ : ∃ x, a2 % 8 = x := ⟨_, rfl⟩
  obtain ⟨r3, e3⟩ : ∃ x, a3 % 8 = x := ⟨_, rfl⟩
  rw [e0] at h0
  rw [e1] at h1
  rw [e2] at h2
  rw [e3] at h3
  have l0 : 0 ≤ r0 := by omega
  have u0 : r0 ≤ 7 := by omega
  have l1 : 0 ≤ r1 := by omega
  have u1 : r1 ≤ 7 := by omega
  have l2 : 0 ≤ r2 := by omega
  have u2 : r2 ≤ 7 := by omega
  have l3 : 0 ≤ r3 := by omega
  have u3 : r3 ≤ 7 := by omega
  clear e0 e1 e2 e3
  obtain ⟨t, ht⟩ : ∃ x, 1099511627772 + r0 = x := ⟨_, rfl⟩
  obtain ⟨i, hi⟩ : ∃ x, 65532 + r1 = x := ⟨_, rfl⟩
  obtain ⟨s, hs⟩ : ∃ x, 65532 + r2 = x := ⟨_, rfl⟩
  obtain ⟨g, hg⟩ : ∃ x, 65532 + r3 = x := ⟨_, rfl⟩
  have t0 : 0 ≤ t := by omega
  have t1 : t ≤ 1099511627779 := by omega
  have i0 : 1 ≤ i := by omega
  have i1 : i ≤ 65539 := by omega
  have s0 : 0 ≤ s := by omega
  have s1 : s ≤ 65539 := by omega
  have g0 : 0 ≤ g := by omega
  have g1 : g ≤ 65539 := by omega
  obtain ⟨tb, et⟩ : ∃ x, timeB t = x := ⟨_, rfl⟩
  have et' : decide (t ≤ 1099511627776) = tb := et
  obtain ⟨ib, ei⟩ : ∃ x, txnB i = x := ⟨_, rfl⟩
  have ei' : decide (i ≤ 65535) = ib := by rw [← ei]; unfold txnB; rw [Bool.eq_iff_iff]; simp; omega
  have c1 : txnB 0 = false := by decide
  have c2 : linkI 0 0 = 1 := by decide
  have c3 : uslot 1 = 0 := by decide
  have c4 : utag 1 = 0 := by decide
  have c5 : mkd 1 = false := by decide
  by_cases hs1 : s ≤ 65535
  · by_cases hg1 : g ≤ 65535
    · go_enter Try.func4, Try.ntmps4
      go_wp2_with (first | (go_at_call 14; refine (timew_any _ (by omega) (by omega) _).mono ?_; rintro e w' ⟨rfl, rfl⟩) | (go_at_call 15; refine (txnw_any _ (by omega) (by omega) _).mono ?_; rintro e w' ⟨rfl, rfl⟩) | (go_at_call 11; refine (unlink_any _ (by omega) (by omega) _).mono ?_; rintro e w' ⟨rfl, rfl⟩) | (go_at_call 9; refine (linkw_ok _ _ (by omega) (by omega) (by omega) (by omega) _).mono ?_; rintro e w' ⟨rfl, rfl⟩) | (go_at_call 9; refine (linkw_no _ _ (by omega) (by omega) (by omega) (by omega) (by omega) _).mono ?_; rintro e w' ⟨rfl, rfl⟩) | (go_at_call 13; refine (awake1_any _).mono ?_; rintro e w' ⟨rfl, bel⟩))
      go_ret
      exact ⟨rfl, bel⟩
    · have hg2 : 65535 < g := by omega
      have hgd : decide (g ≤ 65535) = false := decide_eq_false hg1
      clear hg1
      go_enter Try.func4, Try.ntmps4
      go_wp2_with (first | (go_at_call 14; refine (timew_any _ (by omega) (by omega) _).mono ?_; rintro e w' ⟨rfl, rfl⟩) | (go_at_call 15; refine (txnw_any _ (by omega) (by omega) _).mono ?_; rintro e w' ⟨rfl, rfl⟩) | (go_at_call 11; refine (unlink_any _ (by omega) (by omega) _).mono ?_; rintro e w' ⟨rfl, rfl⟩) | (go_at_call 9; refine (linkw_ok _ _ (by omega) (by omega) (by omega) (by omega) _).mono ?_; rintro e w' ⟨rfl, rfl⟩) | (go_at_call 9; refine (linkw_no _ _ (by omega) (by omega) (by omega) (by omega) (by omega) _).mono ?_; rintro e w' ⟨rfl, rfl⟩) | (go_at_call 13; refine (awake1_any _).mono ?_; rintro e w' ⟨rfl, bel⟩))
      go_ret
      exact ⟨rfl, bel⟩
  · have hs2 : 65535 < s := by omega
    have hsd : decide (s ≤ 65535) = false := decide_eq_false hs1
    clear hs1
    go_enter Try.func4, Try.ntmps4
    go_wp2_with (first | (go_at_call 14; refine (timew_any _ (by omega) (by omega) _).mono ?_; rintro e w' ⟨rfl, rfl⟩) | (go_at_call 15; refine (txnw_any _ (by omega) (by omega) _).mono ?_; rintro e w' ⟨rfl, rfl⟩) | (go_at_call 11; refine (unlink_any _ (by omega) (by omega) _).mono ?_; rintro e w' ⟨rfl, rfl⟩) | (go_at_call 9; refine (linkw_ok _ _ (by omega) (by omega) (by omega) (by omega) _).mono ?_; rintro e w' ⟨rfl, rfl⟩) | (go_at_call 9; refine (linkw_no _ _ (by omega) (by omega) (by omega) (by omega) (by omega) _).mono ?_; rintro e w' ⟨rfl, rfl⟩) | (go_at_call 13; refine (awake1_any _).mono ?_; rintro e w' ⟨rfl, bel⟩))
    go_ret
    exact ⟨rfl, bel⟩
theorem own : ownKnob Try.prog.godebug = none := by kernel_rfl
theorem laidOut : laidOutB Try.prog = true := by kernel_rfl
set_option maxRecDepth 100000 in
theorem lifted (os : Os) (started : os.Started) (H : Type) (enc : TypeId × Value → H) :
    ReturnsInHanded {} Try.checked os 4 .any (Rows.wordEndsSpec.pre6 enc Try.prog Try.f4 Rows.wordEndsRow.domain false) (Rows.wordEndsSpec.post enc Try.prog Try.f4 false true false false) := by
  refine returnsInHanded_of_change (C := Try.checked) own started (by kernel_rfl) Try.func4
    (ChangeSpec.witness6 (enc := enc) (C := Try.checked) false ⟨#[], #[.int .u64 0, .int .i64 0, .int .i64 0, .int .i64 0], []⟩ 8 (by kernel_rfl) (by kernel_rfl) (by kernel_rfl) (by kernel_rfl)) ?_
  intro W base args ds gs before hval0 hW hcnd _
  have hval : ∀ (j : Nat) t v, Try.f4.params[j]? = some t → args[j]? = some v → Value.okWide Try.prog W .any base t v := hval0
  have hW' := hW
  obtain ⟨p, q, hA0, hV, rfl, hfz, hnd⟩ := hW
  have hA : DataW.TrodAll enc Try.prog W 0 (fun _ => true) true Try.f4.params.toList args.toList ds p := hA0
  rw [Try.params4] at hA hval
  obtain ⟨v0, vs0, d0, ds0, p0, q0, hargs, rfl, rfl, h0, r0⟩ := trodAll_cons hA
  obtain ⟨v1, vs1, d1, ds1, p1, q1, rfl, rfl, rfl, h1, r1⟩ := trodAll_cons r0
  obtain ⟨v2, vs2, d2, ds2, p2, q2, rfl, rfl, rfl, h2, r2⟩ := trodAll_cons r1
  obtain ⟨v3, vs3, d3, ds3, p3, q3, rfl, rfl, rfl, h3, r3⟩ := trodAll_cons r2
  obtain ⟨rfl, rfl, rfl⟩ := trodAll_nil r3
  obtain rfl : args = #[v0, v1, v2, v3] := by cases args; simp_all
  obtain ⟨rfl, rfl⟩ := trodVars_none hV
  obtain ⟨a0, rfl, rfl, rfl, w0⟩ := open_int Try.underlying22 (hval 0 22 v0 rfl rfl) h0
  obtain ⟨a1, rfl, rfl, rfl, w1⟩ := open_int Try.underlying3 (hval 1 3 v1 rfl rfl) h1
  obtain ⟨a2, rfl, rfl, rfl, w2⟩ := open_int Try.underlying3 (hval 2 3 v2 rfl rfl) h2
  obtain ⟨a3, rfl, rfl, rfl, w3⟩ := open_int Try.underlying3 (hval 3 3 v3 rfl rfl) h3
  clear hA0 hval0
  refine (walk a0 a1 a2 a3 W w0 w1 w2 w3).mono fun e W' ⟨he, bel⟩ => ?_
  subst he
  exact ⟨_, rfl, _, _, _, [], _, [], hW', trodAll_mk1 (shut_bool Try.underlying4 _), (trodAll_cons_mk (shut_int Try.underlying22 w0) (trodAll_cons_mk (shut_int Try.underlying3 w1) (trodAll_cons_mk (shut_int Try.underlying3 w2) (trodAll_cons_mk (shut_int Try.underlying3 w3) trodAll_mk0)))), rfl, bel.frame _, fun h => by cases h⟩
theorem over : Rows.wordEndsRow.holds Try.pinned (OpenSpec.ofChange Rows.wordEndsSpec) :=
  OpenClaim.holds_of_wide 4 Try.f4 rfl rfl rfl rfl rfl rfl rfl ⟨rfl, rfl, rfl, rfl, rfl⟩ rfl rfl rfl rfl rfl (by kernel_rfl) Try.func4 (by kernel_rfl)
    (of_decide_eq_true (by kernel_rfl)) (by unfold Func.isWrapper; first | (rw [if_pos (by decide +kernel)]; kernel_rfl) | (rw [if_neg (by decide +kernel)]; exact ⟨rfl, rfl⟩))
    (fun os started H enc _ => lifted os started H enc)
theorem proved : Rows.WordEndsSaid := over
#print axioms proved
end Go.Proofs.Ytipcbchjpckamaa.wordEnds
