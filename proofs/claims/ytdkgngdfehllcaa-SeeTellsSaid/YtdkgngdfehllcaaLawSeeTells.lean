/- Proved here: vinculumlaw7.SeeTells returns true and leaves its arguments as they were, for every kind, every number, anyone who looks, any time, and whatever is told of transactions; no further condition. -/
import Derived.Test.YtdkgngdfehllcaaSeeW
import Derived.Test.YtdkgngdfehllcaaSameN
import Derived.ChangeOld
namespace Go.Proofs.Ytdkgngdfehllcaa.seeTells
open Go.ChangeShapes Go.WideShapes Go.ChangeAt Go.RowKit
set_option linter.unusedVariables false

theorem start (w : World) (A : Option Addr) (n c : Nat) (f : Nat → Ot) (h : IsOth w A n c f) : Below w.heap.size w (w.alloc (.cells #[.slice A n c] 32)) ∧ Told w.heap.size A n c f (w.alloc (.cells #[.slice A n c] 32)) := by
  have k := (Keep.alloc (Keep.refl (fun _ => False) w) (.cells #[.slice A n c] 32)).below (Nat.le_refl _) (by simp)
  exact ⟨k, by simp, h.below k⟩
set_option maxHeartbeats 8000000 in
theorem walk (a0 a1 a2 a3 a4 a5 : Int) (A : Option Addr) (n c : Nat) (f : Nat → Ot) (w : World) (w0 : (Lit.int .i64 a0).wf = true) (w1 : (Lit.int .u64 a1).wf = true) (w2 : (Lit.int .i64 a2).wf = true) (w3 : (Lit.int .u64 a3).wf = true) (w4 : (Lit.int .i64 a4).wf = true) (w5 : (Lit.int .u64 a5).wf = true) (w6 : IsOth w A n c f) :
    Calls Try.prog 6 #[.int .i64 a0, .int .u64 a1, .int .i64 a2, .int .u64 a3, .int .i64 a4, .int .u64 a5, .slice A n c] w fun e w' => e = .returned (.bool true) ∧ Below w.heap.size w w' := by
  obtain ⟨p0, p1⟩ := bounds_u64 w1
  obtain ⟨q0, q1⟩ := bounds_u64 w3
  have hcap := w6.cap
  have hmax := w6.max
  obtain ⟨hB, hT⟩ := start w A n c f w6
  by_cases hn : 20 < n
  · have d1 : decide (20 < n) = true := decide_eq_true hn
    go_enter Try.func6, Try.ntmps6
    go_wp2_with fail
    refine (awake7_any _).mono ?_
    rintro e z2 ⟨rfl, b2⟩
    go_wp2
    go_ret
    exact ⟨rfl, thru hB b2⟩
  · have d1 : decide (20 < n) = false := decide_eq_false hn
    have hb := wordI_b a0 a1 p0 p1
    have he := wordI_b a2 a3 q0 q1
    have hW1 := word7_any a0 a1 p0 p1
    have hW2 := word7_any a2 a3 q0 q1
    obtain ⟨b, eb⟩ : ∃ b, wordI a0 a1 = b := ⟨_, rfl⟩
    obtain ⟨e', ee⟩ : ∃ e, wordI a2 a3 = e := ⟨_, rfl⟩
    rw [eb] at hb hW1
    rw [ee] at he hW2
    obtain ⟨⟨p, q⟩, eB⟩ : ∃ r, beginI (lookL f n) b a4 a5 = r := ⟨_, rfl⟩
    obtain ⟨⟨r, s⟩, eE⟩ : ∃ r, endI (lookL f n) e' a4 a5 = r := ⟨_, rfl⟩
    obtain ⟨⟨v, zs⟩, eS⟩ : ∃ r, seeI (lookL f n) b e' a4 a5 = r := ⟨_, rfl⟩
    have hz : zs.length ≤ 1 := by have := see_len (lookL f n) b e' a4 a5; rw [eS] at this; exact this
    clear eb ee
    go_enter Try.func6, Try.ntmps6
    go_wp2_with fail
    refine (hW1 _).mono ?_
    rintro e z0 ⟨rfl, rfl⟩
    go_wp2_with fail
    refine (hW2 _).mono ?_
    rintro e z0 ⟨rfl, rfl⟩
    go_wp2_with fail
    generalize w.alloc (Obj.cells #[Value.slice A n c] 32) = W0 at hB hT ⊢
    generalize w.heap.size = G at hT ⊢
    have c0 := hT.v
    refine (pbegin_to (looks_tells _ _ _ _ _) hT b a4 a5 p q eB hb.1 hb.2).mono ?_
    rintro e z1 ⟨rfl, b1⟩
    have hT1 := (hT).below b1; have c1 := (hT1).v; clear c0; go_wp2_with fail
    refine (rbegin_to hT1.o b a4 a5 p q eB hb.1 hb.2).mono ?_
    rintro e z2 ⟨rfl, b2⟩
    have hT2 := (hT1).below b2; have c2 := (hT2).v; clear c1; go_wp2_with fail
    refine (pend_to (looks_tells _ _ _ _ _) hT2 e' a4 a5 r s eE he.1 he.2).mono ?_
    rintro e z3 ⟨rfl, b3⟩
    have hT3 := (hT2).below b3; have c3 := (hT3).v; clear c2; go_wp2_with fail
    refine (rend_to hT3.o e' a4 a5 r s eE he.1 he.2).mono ?_
    rintro e z4 ⟨rfl, b4⟩
    have hT4 := (hT3).below b4; have c4 := (hT4).v; clear c3; go_wp2_with fail
    refine (psee_to (looks_tells _ _ _ _ _) hT4 b e' a4 a5 v zs eS hb.1 hb.2 he.1 he.2).mono ?_
    rintro e z5 ⟨A5, k5, rfl, o5, b5⟩
    have hT5 := (hT4).below b5; have c5 := (hT5).v; clear c4; go_wp2_with fail
    refine (rsee_to hT5.o b e' a4 a5 v zs eS hb.1 hb.2 he.1 he.2).mono ?_
    rintro e z6 ⟨A6, k6, rfl, o6, b6⟩
    have o5 := OwnN.keep o5 (Keep.of_below b6 (fun _ => False)) (by simp)
    clear c5 eB eE eS
    go_wp2_with fail
    refine (sameN_own o5 o6 (by omega)).mono ?_
    rintro e z7 ⟨rfl, d7, rfl⟩
    go_wp2_with fail
    refine (awake7_any _).mono ?_
    rintro e z8 ⟨rfl, b8⟩
    go_wp2
    go_ret
    have b7 : Below z6.heap.size z6 (z6.drewN d7) := (drewN_keep (fun _ => False) z6 d7).below (Nat.le_refl _) (by simp)
    exact ⟨rfl, thru (thru (thru (thru (thru (thru (thru (thru hB b1) b2) b3) b4) b5) b6) b7) b8⟩
theorem own : ownKnob Try.prog.godebug = none := by kernel_rfl
theorem laidOut : laidOutB Try.prog = true := by kernel_rfl
set_option maxRecDepth 100000 in
theorem lifted (os : Os) (started : os.Started) (H : Type) (enc : TypeId × Value → H) :
    ReturnsInHanded {} Try.checked os 6 .any (Rows.seeTellsSpec.pre6 enc Try.prog Try.f6 Rows.seeTellsRow.domain false) (Rows.seeTellsSpec.post enc Try.prog Try.f6 false true false false) := by
  refine returnsInHanded_of_change (C := Try.checked) own started (by kernel_rfl) Try.func6
    (ChangeSpec.witness6 (enc := enc) (C := Try.checked) false ⟨#[], #[.int .i64 0, .int .u64 0, .int .i64 0, .int .u64 0, .int .i64 0, .int .u64 0, .slice none 0 0], []⟩ 8 (by kernel_rfl) (by kernel_rfl) (by kernel_rfl) (by kernel_rfl)) ?_
  intro W base args ds gs before hval0 hW hcnd _
  have hval : ∀ (j : Nat) t v, Try.f6.params[j]? = some t → args[j]? = some v → Value.okWide Try.prog W .any base t v := hval0
  have hW' := hW
  obtain ⟨p, q, hA0, hV, rfl, hfz, hnd⟩ := hW
  have hA : DataW.TrodAll enc Try.prog W 0 (fun _ => true) true Try.f6.params.toList args.toList ds p := hA0
  rw [Try.params6] at hA hval
  obtain ⟨v0, vs0, d0, ds0, p0, q0, hargs, rfl, rfl, h0, r0⟩ := trodAll_cons hA
  obtain ⟨v1, vs1, d1, ds1, p1, q1, rfl, rfl, rfl, h1, r1⟩ := trodAll_cons r0
  obtain ⟨v2, vs2, d2, ds2, p2, q2, rfl, rfl, rfl, h2, r2⟩ := trodAll_cons r1
  obtain ⟨v3, vs3, d3, ds3, p3, q3, rfl, rfl, rfl, h3, r3⟩ := trodAll_cons r2
  obtain ⟨v4, vs4, d4, ds4, p4, q4, rfl, rfl, rfl, h4, r4⟩ := trodAll_cons r3
  obtain ⟨v5, vs5, d5, ds5, p5, q5, rfl, rfl, rfl, h5, r5⟩ := trodAll_cons r4
  obtain ⟨v6, vs6, d6, ds6, p6, q6, rfl, rfl, rfl, h6, r6⟩ := trodAll_cons r5
  obtain ⟨rfl, rfl, rfl⟩ := trodAll_nil r6
  obtain rfl : args = #[v0, v1, v2, v3, v4, v5, v6] := by cases args; simp_all
  obtain ⟨rfl, rfl⟩ := trodVars_none hV
  obtain ⟨a0, rfl, rfl, rfl, w0⟩ := open_int Try.underlying3 (hval 0 3 v0 rfl rfl) h0
  obtain ⟨a1, rfl, rfl, rfl, w1⟩ := open_int Try.underlying22 (hval 1 22 v1 rfl rfl) h1
  obtain ⟨a2, rfl, rfl, rfl, w2⟩ := open_int Try.underlying3 (hval 2 3 v2 rfl rfl) h2
  obtain ⟨a3, rfl, rfl, rfl, w3⟩ := open_int Try.underlying22 (hval 3 22 v3 rfl rfl) h3
  obtain ⟨a4, rfl, rfl, rfl, w4⟩ := open_int Try.underlying3 (hval 4 3 v4 rfl rfl) h4
  obtain ⟨a5, rfl, rfl, rfl, w5⟩ := open_int Try.underlying22 (hval 5 22 v5 rfl rfl) h5
  obtain ⟨a6, len6, cap6, rfl⟩ := okWide_slice Try.underlying32 (hval 6 32 v6 rfl rfl)
  have k6 := h6
  have lt6 : ∀ x ∈ p6, x.block < W.heap.size := by obtain ⟨m, hm⟩ := k6; exact DataW.trod_lt m _ _ _ hm
  obtain ⟨z6, w6⟩ : ∃ f, IsOth W a6 len6 cap6 f := is_oth h6
  clear hA0 hval0
  refine (walk a0 a1 a2 a3 a4 a5 a6 len6 cap6 z6 W w0 w1 w2 w3 w4 w5 w6).mono fun e W' ⟨he, bel⟩ => ?_
  subst he
  exact ⟨_, rfl, _, _, _, [], _, [], hW', trodAll_mk1 (shut_bool Try.underlying4 _), (trodAll_cons_mk (shut_int Try.underlying3 w0) (trodAll_cons_mk (shut_int Try.underlying22 w1) (trodAll_cons_mk (shut_int Try.underlying3 w2) (trodAll_cons_mk (shut_int Try.underlying22 w3) (trodAll_cons_mk (shut_int Try.underlying3 w4) (trodAll_cons_mk (shut_int Try.underlying22 w5) (trodAll_cons_mk (Below.trod laidOut (by kernel_rfl) (of_decide_eq_true (by kernel_rfl)) k6 bel lt6) trodAll_mk0))))))), rfl, bel.frame _, fun h => by cases h⟩
theorem over : Rows.seeTellsRow.holds Try.pinned (OpenSpec.ofChange Rows.seeTellsSpec) :=
  OpenClaim.holds_of_wide 6 Try.f6 rfl rfl rfl rfl rfl rfl rfl ⟨rfl, rfl, rfl, rfl, rfl⟩ rfl rfl rfl rfl rfl (by kernel_rfl) Try.func6 (by kernel_rfl)
    (of_decide_eq_true (by kernel_rfl)) (by unfold Func.isWrapper; first | (rw [if_pos (by decide +kernel)]; kernel_rfl) | (rw [if_neg (by decide +kernel)]; exact ⟨rfl, rfl⟩))
    (fun os started H enc _ => lifted os started H enc)
theorem proved : Rows.SeeTellsSaid := over
end Go.Proofs.Ytdkgngdfehllcaa.seeTells
