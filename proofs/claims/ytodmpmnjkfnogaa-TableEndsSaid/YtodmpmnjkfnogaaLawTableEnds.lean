/- Proved here: vinculumlaw5.TableEnds returns true and leaves its arguments as they were, for every begin, end, turn and second end; no further condition. -/
import Derived.Test.YtodmpmnjkfnogaaBits
import Derived.Test.YtodmpmnjkfnogaaTabL
import Derived.ChangeOld
namespace Go.Proofs.Ytodmpmnjkfnogaa.tableEnds
open Go.ChangeShapes Go.WideShapes Go.ChangeAt Go.RowKit
set_option linter.unusedVariables false

/-- The one transaction that there is: its state and its end. -/
def S1 (b st e : Int) : TS := ⟨3, [⟨3, st, b, e⟩]⟩
theorem mk (b : Int) (h : b ≤ 549755813887) : (TS.new 3).make 3 b = (1, 0, S1 b 1 0) := by
  unfold TS.make
  rw [if_neg (by omega), if_neg (by simp [TS.new])]
  rfl
theorem st1 (b x : Int) : (S1 b 1 0).stop 1 x = (7, S1 b 1 0) := rfl
theorem t12 (b : Int) : (S1 b 1 0).turn 1 2 = (0, S1 b 2 0) := rfl
theorem t14 (b : Int) : (S1 b 1 0).turn 1 4 = (0, S1 b 4 0) := rfl
theorem t23 (b e : Int) : (S1 b 2 e).turn 1 3 = (0, S1 b 3 e) := rfl
theorem st4 (b x : Int) : (S1 b 4 0).stop 1 x = (7, S1 b 4 0) := rfl
theorem st2 (b x : Int) : (S1 b 2 0).stop 1 x = if x = 0 ∨ 1099511627776 < x ∨ x ≤ b then (1, S1 b 2 0) else (0, S1 b 2 x) := rfl
theorem st2e (b e x : Int) (h : e ≠ 0) : (S1 b 2 e).stop 1 x = (7, S1 b 2 e) := by
  show (if _ then _ else _) = _
  rw [if_neg (show ¬ (S1 b 2 e).out 1 from of_decide_eq_false rfl)]
  show (if _ then _ else _) = _
  rw [if_pos (.inr h)]
theorem g1 (b st e : Int) : (S1 b st e).get 1 = .tuple #[txV ⟨3, st, b, e⟩, .bool true] := rfl
set_option maxRecDepth 100000 in
set_option maxHeartbeats 4000000 in
theorem walk (a0 a1 a2 a3 : Int) (w : World) (w0 : (Lit.int .u64 a0).wf = true) (w1 : (Lit.int .u64 a1).wf = true) (w2 : (Lit.int .i64 a2).wf = true) (w3 : (Lit.int .u64 a3).wf = true) :
    Calls Try.prog 3 #[.int .u64 a0, .int .u64 a1, .int .i64 a2, .int .u64 a3] w fun e w' => e = .returned (.bool true) ∧ Below w.heap.size w w' := by
  obtain ⟨p0, p1⟩ := bounds_u64 w0
  obtain ⟨q0, q1⟩ := bounds_u64 w1
  obtain ⟨s0, s1⟩ := bounds_u64 w3
  have hm := u64_mask39 a0 p0 p1
  obtain ⟨b, eb⟩ : ∃ b, a0 % 549755813888 = b := ⟨_, rfl⟩
  have b0 : 0 ≤ b := by omega
  have b1 : b ≤ 549755813887 := by omega
  rw [eb] at hm
  have wb : IntKind.u64.wrap (b + 1) = b + 1 := by rw [IntKind.wrap_u64]; omega
  have hn := i64_mask a2 2 (by decide)
  obtain ⟨m, em⟩ : ∃ m, a2 % 4 = m := ⟨_, rfl⟩
  have hn : bits .and .i64 a2 3 = m := hn.trans em
  clear eb em p0 p1 w0 w1 w2 w3
  by_cases hm0 : m = 0
  · subst hm0
    go_enter Try.func3, Try.ntmps3
    go_wp2_with fail
    refine (c_new 3 _ (by omega) (by omega)).mono ?_
    rintro e w1 ⟨p, S1, rfl, h1⟩
    go_wp2_with fail; refine (c_make h1 3 b b0 1 0 _ (mk b b1)).mono ?_; rintro e w2 ⟨rfl, S2, h2, k2⟩; clear h1
    go_wp2_with fail; refine (c_stop h2 1 (b + 1) (by omega) (by omega) 7 _ (st1 b _)).mono ?_; rintro e w3 ⟨rfl, S3, h3, k3⟩; clear h2
    go_wp2_with fail; refine (c_turn h3 1 4 (by omega) 0 _ (t14 b)).mono ?_; rintro e w4 ⟨rfl, S4, h4, k4⟩; clear h3
    go_wp2_with fail; refine (c_stop h4 1 a1 (by omega) q0 7 _ (st4 b a1)).mono ?_; rintro e w5 ⟨rfl, S5, h5, k5⟩; clear h4
    go_wp2_with fail; refine (c_get h5 1 (by omega) _ (g1 b 4 0)).mono ?_; rintro e w6 ⟨rfl, S6, h6, k6⟩; clear h5
    unfold txV
    have h6 := h6.quiet (Keep.alloc (Keep.refl (fun _ => False) _) (txO ⟨3, 4, b, 0⟩))
    go_wp2_with fail
    refine (awake5_any _).mono ?_
    rintro e w7 ⟨rfl, b7⟩
    go_wp2
    go_ret
    exact ⟨rfl, h6.b.trans (b7.mono h6.b.size)⟩
  · have hm1 : (m == 0) = false := by simpa using hm0
    by_cases hg : a1 = 0 ∨ 1099511627776 < a1 ∨ a1 ≤ b
    · have e2 := st2 b a1
      rw [if_pos hg] at e2
      by_cases hs : a3 = 0 ∨ 1099511627776 < a3 ∨ a3 ≤ b
      · have e3 := st2 b a3
        rw [if_pos hs] at e3
        rcases (by omega : a1 ≤ b ∨ (b < a1 ∧ 1099511627776 < a1)) with x | ⟨x, x2⟩ <;> rcases (by omega : a3 ≤ b ∨ (b < a3 ∧ 1099511627776 < a3)) with y | ⟨y, y2⟩
        all_goals
          (try have d1 : decide (a1 ≤ 1099511627776) = false := decide_eq_false (by omega))
          (try have d3 : decide (a3 ≤ 1099511627776) = false := decide_eq_false (by omega))
          clear hg hs
          go_enter Try.func3, Try.ntmps3
          go_wp2_with fail
          refine (c_new 3 _ (by omega) (by omega)).mono ?_
          rintro e w1 ⟨p, S1, rfl, h1⟩
          go_wp2_with fail; refine (c_make h1 3 b b0 1 0 _ (mk b b1)).mono ?_; rintro e w2 ⟨rfl, S2, h2, k2⟩; clear h1
          go_wp2_with fail; refine (c_stop h2 1 (b + 1) (by omega) (by omega) 7 _ (st1 b _)).mono ?_; rintro e w3 ⟨rfl, S3, h3, k3⟩; clear h2
          go_wp2_with fail; refine (c_turn h3 1 2 (by omega) 0 _ (t12 b)).mono ?_; rintro e w4 ⟨rfl, S4, h4, k4⟩; clear h3
          go_wp2_with fail; refine (c_stop h4 1 a1 (by omega) q0 1 _ e2).mono ?_; rintro e w5 ⟨rfl, S5, h5, k5⟩; clear h4
          go_wp2_with fail; refine (c_get h5 1 (by omega) _ (g1 b 2 0)).mono ?_; rintro e w6 ⟨rfl, S6, h6, k6⟩; clear h5
          unfold txV
          have h6 := h6.quiet (Keep.alloc (Keep.refl (fun _ => False) _) (txO ⟨3, 2, b, 0⟩))
          go_wp2_with fail; refine (c_stop h6 1 a3 (by omega) s0 1 _ e3).mono ?_; rintro e w7 ⟨rfl, S7, h7, k7⟩; clear h6
          go_wp2_with fail; refine (c_get h7 1 (by omega) _ (g1 b 2 0)).mono ?_; rintro e w8 ⟨rfl, S8, h8, k8⟩; clear h7
          unfold txV
          have h8 := h8.quiet (Keep.alloc (Keep.refl (fun _ => False) _) (txO ⟨3, 2, b, 0⟩))
          go_wp2_with fail
          refine (awake5_any _).mono ?_
          rintro e w9 ⟨rfl, b9⟩
          go_wp2
          go_ret
          exact ⟨rfl, h8.b.trans (b9.mono h8.b.size)⟩
      · have e3 := st2 b a3
        rw [if_neg hs] at e3
        have y : b < a3 := by omega
        have y2 : a3 ≤ 1099511627776 := by omega
        rcases (by omega : a1 ≤ b ∨ (b < a1 ∧ 1099511627776 < a1)) with x | ⟨x, x2⟩
        all_goals
          (try have d1 : decide (a1 ≤ 1099511627776) = false := decide_eq_false (by omega))
          (try have d3 : decide (a3 ≤ 1099511627776) = false := decide_eq_false (by omega))
          clear hg hs
          go_enter Try.func3, Try.ntmps3
          go_wp2_with fail
          refine (c_new 3 _ (by omega) (by omega)).mono ?_
          rintro e w1 ⟨p, S1, rfl, h1⟩
          go_wp2_with fail; refine (c_make h1 3 b b0 1 0 _ (mk b b1)).mono ?_; rintro e w2 ⟨rfl, S2, h2, k2⟩; clear h1
          go_wp2_with fail; refine (c_stop h2 1 (b + 1) (by omega) (by omega) 7 _ (st1 b _)).mono ?_; rintro e w3 ⟨rfl, S3, h3, k3⟩; clear h2
          go_wp2_with fail; refine (c_turn h3 1 2 (by omega) 0 _ (t12 b)).mono ?_; rintro e w4 ⟨rfl, S4, h4, k4⟩; clear h3
          go_wp2_with fail; refine (c_stop h4 1 a1 (by omega) q0 1 _ e2).mono ?_; rintro e w5 ⟨rfl, S5, h5, k5⟩; clear h4
          go_wp2_with fail; refine (c_get h5 1 (by omega) _ (g1 b 2 0)).mono ?_; rintro e w6 ⟨rfl, S6, h6, k6⟩; clear h5
          unfold txV
          have h6 := h6.quiet (Keep.alloc (Keep.refl (fun _ => False) _) (txO ⟨3, 2, b, 0⟩))
          go_wp2_with fail; refine (c_stop h6 1 a3 (by omega) s0 0 _ e3).mono ?_; rintro e w7 ⟨rfl, S7, h7, k7⟩; clear h6
          go_wp2_with fail; refine (c_get h7 1 (by omega) _ (g1 b 2 a3)).mono ?_; rintro e w8 ⟨rfl, S8, h8, k8⟩; clear h7
          unfold txV
          have h8 := h8.quiet (Keep.alloc (Keep.refl (fun _ => False) _) (txO ⟨3, 2, b, a3⟩))
          go_wp2_with fail
          refine (awake5_any _).mono ?_
          rintro e w9 ⟨rfl, b9⟩
          go_wp2
          go_ret
          exact ⟨rfl, h8.b.trans (b9.mono h8.b.size)⟩
    · have e2 := st2 b a1
      rw [if_neg hg] at e2
      have x : b < a1 := by omega
      have x2 : a1 ≤ 1099511627776 := by omega
      have x3 : a1 ≠ 0 := by omega
      have e4 := st2e b a1 a3 x3
      clear hg x3
      go_enter Try.func3, Try.ntmps3
      go_wp2_with fail
      refine (c_new 3 _ (by omega) (by omega)).mono ?_
      rintro e w1 ⟨p, S1, rfl, h1⟩
      go_wp2_with fail; refine (c_make h1 3 b b0 1 0 _ (mk b b1)).mono ?_; rintro e w2 ⟨rfl, S2, h2, k2⟩; clear h1
      go_wp2_with fail; refine (c_stop h2 1 (b + 1) (by omega) (by omega) 7 _ (st1 b _)).mono ?_; rintro e w3 ⟨rfl, S3, h3, k3⟩; clear h2
      go_wp2_with fail; refine (c_turn h3 1 2 (by omega) 0 _ (t12 b)).mono ?_; rintro e w4 ⟨rfl, S4, h4, k4⟩; clear h3
      go_wp2_with fail; refine (c_stop h4 1 a1 (by omega) q0 0 _ e2).mono ?_; rintro e w5 ⟨rfl, S5, h5, k5⟩; clear h4
      go_wp2_with fail; refine (c_get h5 1 (by omega) _ (g1 b 2 a1)).mono ?_; rintro e w6 ⟨rfl, S6, h6, k6⟩; clear h5
      unfold txV
      have h6 := h6.quiet (Keep.alloc (Keep.refl (fun _ => False) _) (txO ⟨3, 2, b, a1⟩))
      go_wp2_with fail; refine (c_stop h6 1 a3 (by omega) s0 7 _ e4).mono ?_; rintro e w7 ⟨rfl, S7, h7, k7⟩; clear h6
      go_wp2_with fail; refine (c_get h7 1 (by omega) _ (g1 b 2 a1)).mono ?_; rintro e w8 ⟨rfl, S8, h8, k8⟩; clear h7
      unfold txV
      have h8 := h8.quiet (Keep.alloc (Keep.refl (fun _ => False) _) (txO ⟨3, 2, b, a1⟩))
      go_wp2_with fail; refine (c_turn h8 1 3 (by omega) 0 _ (t23 b a1)).mono ?_; rintro e w9 ⟨rfl, S9, h9, k9⟩; clear h8
      go_wp2_with fail
      refine (awake5_any _).mono ?_
      rintro e w10 ⟨rfl, b10⟩
      go_wp2
      go_ret
      exact ⟨rfl, h9.b.trans (b10.mono h9.b.size)⟩
theorem own : ownKnob Try.prog.godebug = none := by kernel_rfl
theorem laidOut : laidOutB Try.prog = true := by kernel_rfl
set_option maxRecDepth 100000 in
theorem lifted (os : Os) (started : os.Started) (H : Type) (enc : TypeId × Value → H) :
    ReturnsInHanded {} Try.checked os 3 .any (Rows.tableEndsSpec.pre6 enc Try.prog Try.f3 Rows.tableEndsRow.domain false) (Rows.tableEndsSpec.post enc Try.prog Try.f3 false true false false) := by
  refine returnsInHanded_of_change (C := Try.checked) own started (by kernel_rfl) Try.func3
    (ChangeSpec.witness6 (enc := enc) (C := Try.checked) false ⟨#[], #[.int .u64 0, .int .u64 0, .int .i64 0, .int .u64 0], []⟩ 8 (by kernel_rfl) (by kernel_rfl) (by kernel_rfl) (by kernel_rfl)) ?_
  intro W base args ds gs before hval0 hW hcnd _
  have hval : ∀ (j : Nat) t v, Try.f3.params[j]? = some t → args[j]? = some v → Value.okWide Try.prog W .any base t v := hval0
  have hW' := hW
  obtain ⟨p, q, hA0, hV, rfl, hfz, hnd⟩ := hW
  have hA : DataW.TrodAll enc Try.prog W 0 (fun _ => true) true Try.f3.params.toList args.toList ds p := hA0
  rw [Try.params3] at hA hval
  obtain ⟨v0, vs0, d0, ds0, p0, q0, hargs, rfl, rfl, h0, r0⟩ := trodAll_cons hA
  obtain ⟨v1, vs1, d1, ds1, p1, q1, rfl, rfl, rfl, h1, r1⟩ := trodAll_cons r0
  obtain ⟨v2, vs2, d2, ds2, p2, q2, rfl, rfl, rfl, h2, r2⟩ := trodAll_cons r1
  obtain ⟨v3, vs3, d3, ds3, p3, q3, rfl, rfl, rfl, h3, r3⟩ := trodAll_cons r2
  obtain ⟨rfl, rfl, rfl⟩ := trodAll_nil r3
  obtain rfl : args = #[v0, v1, v2, v3] := by cases args; simp_all
  obtain ⟨rfl, rfl⟩ := trodVars_none hV
  obtain ⟨a0, rfl, rfl, rfl, w0⟩ := open_int Try.underlying22 (hval 0 22 v0 rfl rfl) h0
  obtain ⟨a1, rfl, rfl, rfl, w1⟩ := open_int Try.underlying22 (hval 1 22 v1 rfl rfl) h1
  obtain ⟨a2, rfl, rfl, rfl, w2⟩ := open_int Try.underlying3 (hval 2 3 v2 rfl rfl) h2
  obtain ⟨a3, rfl, rfl, rfl, w3⟩ := open_int Try.underlying22 (hval 3 22 v3 rfl rfl) h3
  clear hA0 hval0
  refine (walk a0 a1 a2 a3 W w0 w1 w2 w3).mono fun e W' ⟨he, bel⟩ => ?_
  subst he
  exact ⟨_, rfl, _, _, _, [], _, [], hW', trodAll_mk1 (shut_bool Try.underlying4 _), (trodAll_cons_mk (shut_int Try.underlying22 w0) (trodAll_cons_mk (shut_int Try.underlying22 w1) (trodAll_cons_mk (shut_int Try.underlying3 w2) (trodAll_cons_mk (shut_int Try.underlying22 w3) trodAll_mk0)))), rfl, bel.frame _, fun h => by cases h⟩
theorem over : Rows.tableEndsRow.holds Try.pinned (OpenSpec.ofChange Rows.tableEndsSpec) :=
  OpenClaim.holds_of_wide 3 Try.f3 rfl rfl rfl rfl rfl rfl rfl ⟨rfl, rfl, rfl, rfl, rfl⟩ rfl rfl rfl rfl rfl (by kernel_rfl) Try.func3 (by kernel_rfl)
    (of_decide_eq_true (by kernel_rfl)) (by unfold Func.isWrapper; first | (rw [if_pos (by decide +kernel)]; kernel_rfl) | (rw [if_neg (by decide +kernel)]; exact ⟨rfl, rfl⟩))
    (fun os started H enc _ => lifted os started H enc)
theorem proved : Rows.TableEndsSaid := over
#print axioms proved
end Go.Proofs.Ytodmpmnjkfnogaa.tableEnds
