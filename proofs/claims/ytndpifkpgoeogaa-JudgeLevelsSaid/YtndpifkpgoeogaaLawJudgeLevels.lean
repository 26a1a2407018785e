/- Proved here: vinculumlaw15.JudgeLevels returns true, for any level, key and link; no further condition. -/
import Derived.Test.YtndpifkpgoeogaaJuD
import Derived.Test.YtndpifkpgoeogaaMask
import Derived.ChangeOld
namespace Go.Proofs.Ytndpifkpgoeogaa.judgeLevels
open Go.ChangeShapes Go.WideShapes Go.ChangeAt Go.RowKit
set_option linter.unusedVariables false

theorem clo_any {W w : World} {g : Nat} {x : Int} (hc : W.cell? ⟨g, 0, none⟩ = some (.int .u64 x)) (hg : g < W.heap.size) (b : Below W.heap.size W w) (k : Int) :
    Calls Try.prog 18 #[.int .i64 k, .pointer (some ⟨g, 0, none⟩)] w fun e w' => e = .returned (.int .u64 x) ∧ w = w' := by
  have h1 := (b.cell (p := ⟨g, 0, none⟩) hg).trans hc
  go_enter Try.func18, Try.ntmps18
  go_wp2
  go_ret
  exact ⟨rfl, rfl⟩
theorem isNow {W : World} {g t : Nat} {x : Int} {s : RdS} (hc : W.cell? ⟨g, 0, none⟩ = some (.int .u64 x)) (hg : g < W.heap.size) (hx : U64 x) : IsNow (.func (.func 18) #[] #[.pointer (some ⟨g, 0, none⟩)]) W t s (fun _ _ => True) (fun _ => x) :=
  ⟨.inr ⟨_, _, rfl, fun a w => rfl, fun k w S _ _ h _ => (clo_any hc hg h.b k).mono (by rintro e w' ⟨rfl, rfl⟩; exact ⟨rfl, S, h, Keep.refl _ _, fun j hj => .inl hj⟩)⟩, fun _ _ _ => hx⟩
set_option maxRecDepth 100000 in
set_option maxHeartbeats 8000000 in
theorem walk (a0 a1 a2 : Int) (w : World) (w0 : (Lit.int .i64 a0).wf = true) (w1 : (Lit.int .i64 a1).wf = true) (w2 : (Lit.int .u64 a2).wf = true) :
    Calls Try.prog 5 #[.int .i64 a0, .int .i64 a1, .int .u64 a2] w fun e w' => e = .returned (.bool true) ∧ Below w.heap.size w w' := by
  have u2 : U64 a2 := bounds_u64 w2
  obtain ⟨a, ea⟩ : ∃ n : Nat, a1 % 64 = (n : Int) := ⟨(a1 % 64).toNat, by omega⟩
  have ma : bits .and .i64 a1 63 = (a : Int) := (i64_mask a1 6 (by decide)).trans ea
  have ha : a < 64 := by omega
  clear ea w0 w1 w2
  have kA := Keep.alloc (Keep.refl (fun _ => False) w) (.cells #[.int .u64 a2] 23)
  have bA := kA.below (Nat.le_refl _) (by simp)
  have cA : (w.alloc (.cells #[.int .u64 a2] 23)).cell? ⟨w.heap.size, 0, none⟩ = some (.int .u64 a2) := by simp
  have gA : w.heap.size < (w.alloc (.cells #[.int .u64 a2] 23)).heap.size := by simp
  obtain ⟨W, eW⟩ : ∃ W, w.alloc (.cells #[.int .u64 a2] 23) = W := ⟨_, rfl⟩
  obtain ⟨g, eg⟩ : ∃ g, w.heap.size = g := ⟨_, rfl⟩
  rw [eW] at kA bA cA gA
  rw [eg] at cA gA
  have EW := Lib.hid eW
  have EG := Lib.hid eg
  clear eW eg kA
  obtain ⟨⟨r1, k1⟩, e1⟩ : ∃ x, allJ a0 ⟨[(a : Int)], [a2], []⟩ (fun _ => a2) (fun _ _ => []) = x := ⟨_, rfl⟩
  obtain ⟨⟨r2, k2⟩, e2⟩ : ∃ x, allJ a0 RdS.new (fun _ => 0) (fun _ _ => []) = x := ⟨_, rfl⟩
  obtain ⟨z, ez⟩ : ∃ z, needK a0 ⟨[(a : Int)], [a2], []⟩ = z := ⟨_, rfl⟩
  obtain ⟨n, en⟩ : ∃ n, z.length = n := ⟨_, rfl⟩
  have es : needS a0 ⟨[(a : Int)], [a2], []⟩ = [] := by unfold needS; split <;> rfl
  have cs : (decide (1 ≤ a0) = false ∧ r1 = false ∧ k1 = -1 ∧ r2 = false ∧ k2 = -1 ∧ n = 0 ∧ (a0 == 3) = false ∧ (a0 == 2) = false) ∨ (decide (1 ≤ a0) = true ∧ decide (a0 ≤ 3) = false ∧ r1 = false ∧ k1 = -1 ∧ r2 = false ∧ k2 = -1 ∧ n = 0 ∧ (a0 == 3) = false ∧ (a0 == 2) = false) ∨
      (decide (1 ≤ a0) = true ∧ decide (a0 ≤ 3) = true ∧ r1 = true ∧ k1 = -1 ∧ r2 = true ∧ k2 = -1 ∧ ((n = 0 ∧ (a0 == 3) = false ∧ (a0 == 2) = false) ∨ (n = 1 ∧ (a0 == 3) = true) ∨ ((a0 == 3) = false ∧ (a0 == 2) = true ∧ ((n = 0 ∧ (a2 != 0) = false) ∨ (n = 1 ∧ (a2 != 0) = true))))) := by
    by_cases h1 : 1 ≤ a0
    · by_cases h3 : a0 ≤ 3
      · refine .inr (.inr ⟨decide_eq_true h1, decide_eq_true h3, ?_⟩)
        rcases (by omega : a0 = 1 ∨ a0 = 2 ∨ a0 = 3) with rfl | rfl | rfl
        · simp [allJ, badK, badS, needK, needS, RdS.new] at e1 e2 ez
          obtain ⟨rfl, rfl⟩ := e1
          obtain ⟨rfl, rfl⟩ := e2
          subst ez
          subst en
          simp
        · by_cases h0 : a2 = 0
          · subst h0
            simp [allJ, badK, badS, needK, needS, RdS.link, RdS.new] at e1 e2 ez
            obtain ⟨rfl, rfl⟩ := e1
            obtain ⟨rfl, rfl⟩ := e2
            subst ez
            subst en
            simp
          · simp [allJ, badK, badS, needK, needS, keyJ, RdS.link, RdS.new, h0] at e1 e2 ez
            obtain ⟨rfl, rfl⟩ := e1
            obtain ⟨rfl, rfl⟩ := e2
            subst ez
            subst en
            simp [h0]
        · simp [allJ, badK, badS, needK, needS, keyJ, RdS.link, RdS.new] at e1 e2 ez
          obtain ⟨rfl, rfl⟩ := e1
          obtain ⟨rfl, rfl⟩ := e2
          subst ez
          subst en
          simp
      · have n3 : a0 ≠ 3 := by omega
        have n2 : a0 ≠ 2 := by omega
        have g3 : 3 < a0 := by omega
        simp [allJ, needK, g3, n2, n3] at e1 e2 ez
        obtain ⟨rfl, rfl⟩ := e1
        obtain ⟨rfl, rfl⟩ := e2
        subst ez
        subst en
        exact .inr (.inl ⟨decide_eq_true h1, decide_eq_false h3, rfl, rfl, rfl, rfl, rfl, by simpa using n3, by simpa using n2⟩)
    · have n3 : a0 ≠ 3 := by omega
      have n2 : a0 ≠ 2 := by omega
      have g1 : a0 < 1 := by omega
      simp [allJ, needK, g1, n2, n3] at e1 e2 ez
      obtain ⟨rfl, rfl⟩ := e1
      obtain ⟨rfl, rfl⟩ := e2
      subst ez
      subst en
      exact .inl ⟨decide_eq_false h1, rfl, rfl, rfl, rfl, rfl, by simpa using n3, by simpa using n2⟩
  have CS := Lib.hid cs
  have E1 := Lib.hid e1
  have E2 := Lib.hid e2
  have EZ := Lib.hid ez
  have EN := Lib.hid en
  have ES := Lib.hid es
  clear cs e1 e2 ez es en
  rcases CS.out with ⟨q1, rfl, rfl, rfl, rfl, rfl, q3, q4⟩ | ⟨q1, q5, rfl, rfl, rfl, rfl, rfl, q3, q4⟩ | ⟨q1, q5, rfl, rfl, rfl, rfl, ⟨rfl, q3, q4⟩ | ⟨rfl, q3⟩ | ⟨q3, q4, ⟨rfl, q6⟩ | ⟨rfl, q6⟩⟩⟩
  all_goals
    go_enter Try.func5, Try.ntmps5
    go_wp2_with fail
    rw [EW.out, EG.out]
    refine (rd_made (Below.refl _ W)).mono ?_
    rintro e w1 ⟨t1, S1, rfl, h1, _, _⟩
    go_wp2_with fail
    refine (rd_made h1.b).mono ?_
    rintro e w2 ⟨t2, S2, rfl, h2, k2', f2⟩
    have g1 := h1.quiet k2'
    have d1 : ∀ g, S1 g → ¬ S2 g := fun g hg hh => by have := h1.lt g hg; have := f2 g hh; omega
    have c1 := (g1.b.cell (p := ⟨g, 0, none⟩) gA).trans cA
    clear h1 k2' f2
    go_wp2_with fail
    refine (rd_add g1 (a : Int) a2 u2 0 ⟨[(a : Int)], [a2], []⟩ (by unfold RdS.add RdS.new; rw [if_neg (by omega), if_neg (by simp)]; rfl)).mono ?_
    rintro e w3 ⟨rfl, S3, h3, k3⟩
    obtain ⟨g2, d2⟩ := rd_beside g1 h2 d1 h3 k3
    clear g1 h2 d1 k3 c1
    go_wp2_with fail
    refine (jall_any h3 (Q := fun _ _ => True) trivial (fun _ _ _ _ => trivial) (isNow cA gA u2) spn_nil a0 _ _ E1.out).mono ?_
    rintro e w4 ⟨rfl, S4, h4, k4⟩
    obtain ⟨g3, d3⟩ := rd_beside h3 g2 d2 h4 k4
    clear h3 g2 d2 k4
    go_wp2_with fail
    refine (jall_any g3 (Q := fun _ _ => True) trivial (fun _ _ _ _ => trivial) now_nil spn_nil a0 _ _ E2.out).mono ?_
    rintro e w5 ⟨rfl, S5, h5, k5⟩
    obtain ⟨g4, d4⟩ := rd_beside g3 h4 (fun g hg hh => d3 g hh hg) h5 k5
    clear g3 h4 d3 k5 h5
    go_wp2_with fail
    refine (jneeds_any g4 a0).mono ?_
    rintro e w6 ⟨v1, v2, S6, T6, rfl, o1, _, o2, _, h6, k6⟩
    rw [EZ.out] at o1
    rw [ES.out] at o2
    obtain ⟨A1, x1, rfl, _, _⟩ := o1.shapeN
    rw [EN.out]
    obtain ⟨A2, x2, rfl, _, _⟩ := o2.form
    have c6 := (h6.b.cell (p := ⟨g, 0, none⟩) gA).trans cA
    have b6 := bA.trans (h6.b.mono bA.size)
    clear g4 o1 o2 k6 h6 d4 cA gA bA
    go_wp2_with (go_at_call 13; refine (awake15_any _).mono ?_; rintro e w' ⟨rfl, bel⟩)
    go_ret
    exact ⟨rfl, b6.trans (bel.mono b6.size)⟩
theorem own : ownKnob Try.prog.godebug = none := by kernel_rfl
theorem laidOut : laidOutB Try.prog = true := by kernel_rfl
set_option maxRecDepth 100000 in
theorem lifted (os : Os) (started : os.Started) (H : Type) (enc : TypeId × Value → H) :
    ReturnsInHanded {} Try.checked os 5 .any (Rows.judgeLevelsSpec.pre6 enc Try.prog Try.f5 Rows.judgeLevelsRow.domain false) (Rows.judgeLevelsSpec.post enc Try.prog Try.f5 false true false false) := by
  refine returnsInHanded_of_change (C := Try.checked) own started (by kernel_rfl) Try.func5
    (ChangeSpec.witness6 (enc := enc) (C := Try.checked) false ⟨#[], #[.int .i64 0, .int .i64 0, .int .u64 0], []⟩ 8 (by kernel_rfl) (by kernel_rfl) (by kernel_rfl) (by kernel_rfl)) ?_
  intro W base args ds gs before hval0 hW hcnd _
  have hval : ∀ (j : Nat) t v, Try.f5.params[j]? = some t → args[j]? = some v → Value.okWide Try.prog W .any base t v := hval0
  have hW' := hW
  obtain ⟨p, q, hA0, hV, rfl, hfz, hnd⟩ := hW
  have hA : DataW.TrodAll enc Try.prog W 0 (fun _ => true) true Try.f5.params.toList args.toList ds p := hA0
  rw [Try.params5] at hA hval
  obtain ⟨v0, vs0, d0, ds0, p0, q0, hargs, rfl, rfl, h0, r0⟩ := trodAll_cons hA
  obtain ⟨v1, vs1, d1, ds1, p1, q1, rfl, rfl, rfl, h1, r1⟩ := trodAll_cons r0
  obtain ⟨v2, vs2, d2, ds2, p2, q2, rfl, rfl, rfl, h2, r2⟩ := trodAll_cons r1
  obtain ⟨rfl, rfl, rfl⟩ := trodAll_nil r2
  obtain rfl : args = #[v0, v1, v2] := by cases args; simp_all
  obtain ⟨rfl, rfl⟩ := trodVars_none hV
  obtain ⟨a0, rfl, rfl, rfl, w0⟩ := open_int Try.underlying3 (hval 0 3 v0 rfl rfl) h0
  obtain ⟨a1, rfl, rfl, rfl, w1⟩ := open_int Try.underlying3 (hval 1 3 v1 rfl rfl) h1
  obtain ⟨a2, rfl, rfl, rfl, w2⟩ := open_int Try.underlying23 (hval 2 23 v2 rfl rfl) h2
  clear hA0 hval0
  refine (walk a0 a1 a2 W w0 w1 w2).mono fun e W' ⟨he, bel⟩ => ?_
  subst he
  exact ⟨_, rfl, _, _, _, [], _, [], hW', trodAll_mk1 (shut_bool Try.underlying4 _), (trodAll_cons_mk (shut_int Try.underlying3 w0) (trodAll_cons_mk (shut_int Try.underlying3 w1) (trodAll_cons_mk (shut_int Try.underlying23 w2) trodAll_mk0))), rfl, bel.frame _, fun h => by cases h⟩
theorem over : Rows.judgeLevelsRow.holds Try.pinned (OpenSpec.ofChange Rows.judgeLevelsSpec) :=
  OpenClaim.holds_of_wide 5 Try.f5 rfl rfl rfl rfl rfl rfl rfl ⟨rfl, rfl, rfl, rfl, rfl⟩ rfl rfl rfl rfl rfl (by kernel_rfl) Try.func5 (by kernel_rfl)
    (of_decide_eq_true (by kernel_rfl)) (by unfold Func.isWrapper; first | (rw [if_pos (by decide +kernel)]; kernel_rfl) | (rw [if_neg (by decide +kernel)]; exact ⟨rfl, rfl⟩))
    (fun os started H enc _ => lifted os started H enc)
theorem proved : Rows.JudgeLevelsSaid := over
end Go.Proofs.Ytndpifkpgoeogaa.judgeLevels
