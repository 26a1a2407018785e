/- Proved here: vinculumlaw15.JudgeTells returns true and leaves its arguments as they were, for any level, any two links and any two slices of links; no further condition. -/
import Derived.Test.YtndpifkpgoeogaaJuD
import Derived.Test.YtndpifkpgoeogaaRefJ
import Derived.Test.YtndpifkpgoeogaaRow
import Derived.ChangeOld
namespace Go.Proofs.Ytndpifkpgoeogaa.judgeTells
open Go.ChangeShapes Go.WideShapes Go.ChangeAt Go.RowKit
set_option linter.unusedVariables false

theorem row_lies {w : World} {A : Option Addr} {n c : Nat} {z : List Int} (h : IsRow .u64 w A n c z) : Lies w (.slice A n c) z := by
  have hl := h.len
  refine ⟨A, c, by rw [hl], by rw [hl]; exact h.cap, fun h0 => ?_⟩
  obtain ⟨b, off, e, hb, hc⟩ := h.cell (by omega)
  exact ⟨b, off, e, hb, fun j hj => hc j (by omega)⟩
theorem lies_keep {w w' : World} {A : Option Addr} {n c : Nat} {z : List Int} (h : Lies w (.slice A n c) z) (k : Keep (fun _ => False) w w') : Lies w' (.slice A n c) z := h.keep k (by simp) (by simp)
set_option maxRecDepth 100000 in
set_option maxHeartbeats 4000000 in
theorem walk (a0 a1 a2 : Int) (a3 : Option Addr) (n3 c3 : Nat) (z3 : List Int) (a4 : Option Addr) (n4 c4 : Nat) (z4 : List Int) (w : World) (w0 : (Lit.int .i64 a0).wf = true) (w1 : (Lit.int .u64 a1).wf = true) (w2 : (Lit.int .u64 a2).wf = true) (w3 : IsRow .u64 w a3 n3 c3 z3) (w4 : IsRow .u64 w a4 n4 c4 z4) :
    Calls Try.prog 6 #[.int .i64 a0, .int .u64 a1, .int .u64 a2, .slice a3 n3 c3, .slice a4 n4 c4] w fun e w' => e = .returned (.bool true) ∧ Below w.heap.size w w' := by
  have l3 := w3.len
  have l4 := w4.len
  have L3 := row_lies w3
  have L4 := row_lies w4
  have u1 : U64 a1 := bounds_u64 w1
  have u2 : U64 a2 := bounds_u64 w2
  clear w0 w1 w2 w3 w4
  by_cases h3 : 100 < n3
  · have d3 : decide ((100 : Int) < (n3 : Int)) = true := decide_eq_true (by omega)
    go_enter Try.func6, Try.ntmps6
    go_wp2_with (go_at_call 13; refine (awake15_any _).mono ?_; rintro e w' ⟨rfl, bel⟩)
    go_ret
    exact ⟨rfl, bel⟩
  · have d3 : decide ((100 : Int) < (n3 : Int)) = false := decide_eq_false (by omega)
    by_cases h4 : 100 < n4
    · have d4 : decide ((100 : Int) < (n4 : Int)) = true := decide_eq_true (by omega)
      go_enter Try.func6, Try.ntmps6
      go_wp2_with (go_at_call 13; refine (awake15_any _).mono ?_; rintro e w' ⟨rfl, bel⟩)
      go_ret
      exact ⟨rfl, bel⟩
    · have d4 : decide ((100 : Int) < (n4 : Int)) = false := decide_eq_false (by omega)
      obtain ⟨r1, e1⟩ : ∃ r, keyJ a0 a1 a2 = r := ⟨_, rfl⟩
      obtain ⟨r2, e2⟩ : ∃ r, spanJ a0 z3 z4 = r := ⟨_, rfl⟩
      obtain ⟨r3, e3⟩ : ∃ r, spanJ a0 z3 z3 = r := ⟨_, rfl⟩
      have hK := jkey_any a0 a1 a2 u1 u2 r1 e1
      have hR := rkey_any a0 a1 a2 r1 e1
      have hS := fun w h1 h2 => jspan_any a0 (.slice a3 n3 c3) (.slice a4 n4 c4) z3 z4 (by omega) (by omega) r2 e2 w h1 h2
      have hT := fun w h1 h2 => rspan_any a0 (.slice a3 n3 c3) (.slice a4 n4 c4) z3 z4 (by omega) (by omega) r2 e2 w h1 h2
      have hU := fun w h1 h2 => jspan_any a0 (.slice a3 n3 c3) (.slice a3 n3 c3) z3 z3 (by omega) (by omega) r3 e3 w h1 h2
      have lv : (decide (1 ≤ a0) = true ∧ decide (a0 ≤ 3) = true ∧ r3 = true) ∨ (decide (1 ≤ a0) = true ∧ decide (a0 ≤ 3) = false ∧ r3 = false) ∨ (decide (1 ≤ a0) = false ∧ r3 = false) := by
        unfold spanJ at e3
        by_cases x : 1 ≤ a0
        · by_cases y : a0 ≤ 3
          · refine .inl ⟨decide_eq_true x, decide_eq_true y, ?_⟩
            rw [← e3]
            rcases (by omega : a0 = 1 ∨ a0 = 2 ∨ a0 = 3) with rfl | rfl | rfl <;> simp
          · refine .inr (.inl ⟨decide_eq_true x, decide_eq_false y, ?_⟩)
            rw [← e3, if_neg (by omega), if_neg (by omega)]
        · refine .inr (.inr ⟨decide_eq_false x, ?_⟩)
          rw [← e3, if_neg (by omega), if_neg (by omega)]
      have LV := Lib.hid lv
      clear e1 e2 e3 l3 l4 lv h3 h4
      go_enter Try.func6, Try.ntmps6
      go_wp2_with (first | (go_at_call 20; refine (hK _).mono ?_; rintro e w' ⟨rfl, rfl⟩) | (go_at_call 21; refine (hR _).mono ?_; rintro e w' ⟨rfl, rfl⟩))
      refine (hS _ L3 L4).mono ?_
      rintro e w1 ⟨rfl, k1⟩
      go_wp2_with fail
      refine (hT _ (lies_keep L3 k1) (lies_keep L4 k1)).mono ?_
      rintro e w2 ⟨rfl, k2⟩
      have k2 := k1.trans k2
      go_wp2_with fail
      refine (hU _ (lies_keep L3 k2) (lies_keep L3 k2)).mono ?_
      rintro e w3 ⟨rfl, k3⟩
      have b3 := (k2.trans k3).below (Nat.le_refl _) (by simp)
      clear hK hR hS hT hU k1 k2 k3 L3 L4
      rcases LV.out with ⟨x1, x2, rfl⟩ | ⟨x1, x2, rfl⟩ | ⟨x1, rfl⟩
      · go_wp2_with (go_at_call 13; refine (awake15_any _).mono ?_; rintro e w' ⟨rfl, bel⟩)
        go_ret
        exact ⟨rfl, b3.trans (bel.mono b3.size)⟩
      · go_wp2_with (go_at_call 13; refine (awake15_any _).mono ?_; rintro e w' ⟨rfl, bel⟩)
        go_ret
        exact ⟨rfl, b3.trans (bel.mono b3.size)⟩
      · go_wp2_with (go_at_call 13; refine (awake15_any _).mono ?_; rintro e w' ⟨rfl, bel⟩)
        go_ret
        exact ⟨rfl, b3.trans (bel.mono b3.size)⟩
theorem own : ownKnob Try.prog.godebug = none := by kernel_rfl
theorem laidOut : laidOutB Try.prog = true := by kernel_rfl
set_option maxRecDepth 100000 in
theorem lifted (os : Os) (started : os.Started) (H : Type) (enc : TypeId × Value → H) :
    ReturnsInHanded {} Try.checked os 6 .any (Rows.judgeTellsSpec.pre6 enc Try.prog Try.f6 Rows.judgeTellsRow.domain false) (Rows.judgeTellsSpec.post enc Try.prog Try.f6 false true false false) := by
  refine returnsInHanded_of_change (C := Try.checked) own started (by kernel_rfl) Try.func6
    (ChangeSpec.witness6 (enc := enc) (C := Try.checked) false ⟨#[], #[.int .i64 0, .int .u64 0, .int .u64 0, .slice none 0 0, .slice none 0 0], []⟩ 8 (by kernel_rfl) (by kernel_rfl) (by kernel_rfl) (by kernel_rfl)) ?_
  intro W base args ds gs before hval0 hW hcnd _
  have hval : ∀ (j : Nat) t v, Try.f6.params[j]? = some t → args[j]? = some v → Value.okWide Try.prog W .any base t v := hval0
  have hW' := hW
  obtain ⟨p, q, hA0, hV, rfl, hfz, hnd⟩ := hW
  have hA : DataW.TrodAll enc Try.prog W 0 (fun _ => true) true Try.f6.params.toList args.toList ds p := hA0
  rw [Try.params6] at hA hval
  obtain ⟨v0, vs0, d0, ds0, p0, q0, hargs, rfl, rfl, h0, r0⟩ := trodAll_cons hA
  obtain ⟨v1, vs1, d1, ds1, p1, q1, rfl, rfl, rfl, h1, r1⟩ := trodAll_cons r0
  obtain ⟨v2, vs2, d2, ds2, p2, q2, rfl, rfl, rfl, h2, r2⟩ := trodAll_cons r1
  obtain ⟨v3, vs3, d3, ds3, p3, q3, rfl, rfl, rfl, h3, r3⟩ := trodAll_cons r2
  obtain ⟨v4, vs4, d4, ds4, p4, q4, rfl, rfl, rfl, h4, r4⟩ := trodAll_cons r3
  obtain ⟨rfl, rfl, rfl⟩ := trodAll_nil r4
  obtain rfl : args = #[v0, v1, v2, v3, v4] := by cases args; simp_all
  obtain ⟨rfl, rfl⟩ := trodVars_none hV
  obtain ⟨a0, rfl, rfl, rfl, w0⟩ := open_int Try.underlying3 (hval 0 3 v0 rfl rfl) h0
  obtain ⟨a1, rfl, rfl, rfl, w1⟩ := open_int Try.underlying23 (hval 1 23 v1 rfl rfl) h1
  obtain ⟨a2, rfl, rfl, rfl, w2⟩ := open_int Try.underlying23 (hval 2 23 v2 rfl rfl) h2
  obtain ⟨a3, len3, cap3, rfl⟩ := okWide_slice Try.underlying33 (hval 3 33 v3 rfl rfl)
  have k3 := h3
  have lt3 : ∀ x ∈ p3, x.block < W.heap.size := by obtain ⟨m, hm⟩ := k3; exact DataW.trod_lt m _ _ _ hm
  obtain ⟨z3, w3⟩ : ∃ zs, IsRow .u64 W a3 len3 cap3 zs := is_row Try.underlying33 Try.underlying23 (by kernel_rfl) h3
  obtain ⟨a4, len4, cap4, rfl⟩ := okWide_slice Try.underlying33 (hval 4 33 v4 rfl rfl)
  have k4 := h4
  have lt4 : ∀ x ∈ p4, x.block < W.heap.size := by obtain ⟨m, hm⟩ := k4; exact DataW.trod_lt m _ _ _ hm
  obtain ⟨z4, w4⟩ : ∃ zs, IsRow .u64 W a4 len4 cap4 zs := is_row Try.underlying33 Try.underlying23 (by kernel_rfl) h4
  clear hA0 hval0
  refine (walk a0 a1 a2 a3 len3 cap3 z3 a4 len4 cap4 z4 W w0 w1 w2 w3 w4).mono fun e W' ⟨he, bel⟩ => ?_
  subst he
  exact ⟨_, rfl, _, _, _, [], _, [], hW', trodAll_mk1 (shut_bool Try.underlying4 _), (trodAll_cons_mk (shut_int Try.underlying3 w0) (trodAll_cons_mk (shut_int Try.underlying23 w1) (trodAll_cons_mk (shut_int Try.underlying23 w2) (trodAll_cons_mk (Below.trod laidOut (by kernel_rfl) (of_decide_eq_true (by kernel_rfl)) k3 bel lt3) (trodAll_cons_mk (Below.trod laidOut (by kernel_rfl) (of_decide_eq_true (by kernel_rfl)) k4 bel lt4) trodAll_mk0))))), rfl, bel.frame _, fun h => by cases h⟩
theorem over : Rows.judgeTellsRow.holds Try.pinned (OpenSpec.ofChange Rows.judgeTellsSpec) :=
  OpenClaim.holds_of_wide 6 Try.f6 rfl rfl rfl rfl rfl rfl rfl ⟨rfl, rfl, rfl, rfl, rfl⟩ rfl rfl rfl rfl rfl (by kernel_rfl) Try.func6 (by kernel_rfl)
    (of_decide_eq_true (by kernel_rfl)) (by unfold Func.isWrapper; first | (rw [if_pos (by decide +kernel)]; kernel_rfl) | (rw [if_neg (by decide +kernel)]; exact ⟨rfl, rfl⟩))
    (fun os started H enc _ => lifted os started H enc)
theorem proved : Rows.JudgeTellsSaid := over
end Go.Proofs.Ytndpifkpgoeogaa.judgeTells
