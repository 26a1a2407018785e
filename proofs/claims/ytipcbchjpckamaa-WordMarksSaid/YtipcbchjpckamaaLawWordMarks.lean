/- Proved here: vinculumlaw1.WordMarks returns true and leaves its arguments as they were, for any slot, any tag and any word: every int and every uint64; no further condition. -/
import Derived.Test.YtipcbchjpckamaaStamp
import Derived.ChangeOld
namespace Go.Proofs.Ytipcbchjpckamaa.wordMarks
open Go.ChangeShapes Go.WideShapes Go.ChangeAt Go.RowKit
set_option linter.unusedVariables false

theorem walk (a0 : Int) (a1 : Int) (a2 : Int) (w : World) (w0 : (Lit.int .i64 a0).wf = true) (w1 : (Lit.int .i64 a1).wf = true) (w2 : (Lit.int .u64 a2).wf = true) :
    Calls Try.prog 3 #[.int .i64 a0, .int .i64 a1, .int .u64 a2] w fun e w' => e = .returned (.bool true) ∧ Below w.heap.size w w' := by
  have b2 := bounds_u64 w2
  have hs := i64_mask16 a0
  have ht := i64_mask16 a1
  obtain ⟨s, es⟩ : ∃ s, a0 % 65536 = s := ⟨_, rfl⟩
  obtain ⟨t, et⟩ : ∃ t, a1 % 65536 = t := ⟨_, rfl⟩
  rw [es] at hs
  rw [et] at ht
  have s0 : 0 ≤ s := by omega
  have s1 : s ≤ 65535 := by omega
  have t0 : 0 ≤ t := by omega
  have t1 : t ≤ 65535 := by omega
  clear es et
  obtain ⟨l, el, l0, l1, hu, hv, hk, hcl⟩ := link_facts s t s0 s1 t0 t1
  obtain ⟨m, em, m0, m1, hmu, hmv, hmk, hmm, hcm, hne⟩ := mark_facts l l0 l1
  rw [hu] at hmu
  rw [hv] at hmv
  obtain ⟨x, ex⟩ : ∃ x, markI a2 = x := ⟨_, rfl⟩
  obtain ⟨y, ey⟩ : ∃ y, clearI a2 = y := ⟨_, rfl⟩
  have hx := markI_bd a2 b2.1 b2.2
  have hy := clearI_bd a2 b2.1 b2.2
  rw [ex] at hx
  rw [ey] at hy
  obtain ⟨hx0, hx1⟩ := hx
  obtain ⟨hy0, hy1⟩ := hy
  obtain ⟨q0, q1⟩ := b2
  have hcx : clearI x = y := by rw [← ex, ← ey]; exact clear_mark a2
  have hmy : markI y = x := by rw [← ex, ← ey]; exact mark_clear a2
  obtain ⟨bb, e1, e2⟩ : ∃ bb : Bool, (x == a2) = bb ∧ (y == a2) = !bb := by rw [← ex, ← ey]; exact ⟨_, rfl, mark_or_clear a2⟩
  cases bb
  all_goals
    go_enter Try.func3, Try.ntmps3
    go_wp2_with (first | (go_at_call 9; refine (linkw_ok _ _ s0 s1 t0 t1 _).mono ?_; rintro e w' ⟨rfl, rfl⟩) | (go_at_call 11; refine (unlink_any _ m0 m1 _).mono ?_; rintro e w' ⟨rfl, rfl⟩) | (go_at_call 10; refine (mark_any _ (by omega) (by omega) _).mono ?_; rintro e w' ⟨rfl, rfl⟩) | (go_at_call 12; refine (clear_any _ (by omega) (by omega) _).mono ?_; rintro e w' ⟨rfl, rfl⟩) | (go_at_call 13; refine (awake1_any _).mono ?_; rintro e w' ⟨rfl, bel⟩))
    go_ret
    exact ⟨rfl, bel⟩
theorem own : ownKnob Try.prog.godebug = none := by kernel_rfl
theorem laidOut : laidOutB Try.prog = true := by kernel_rfl
set_option maxRecDepth 100000 in
theorem lifted (os : Os) (started : os.Started) (H : Type) (enc : TypeId × Value → H) :
    ReturnsInHanded {} Try.checked os 3 .any (Rows.wordMarksSpec.pre6 enc Try.prog Try.f3 Rows.wordMarksRow.domain false) (Rows.wordMarksSpec.post enc Try.prog Try.f3 false true false false) := by
  refine returnsInHanded_of_change (C := Try.checked) own started (by kernel_rfl) Try.func3
    (ChangeSpec.witness6 (enc := enc) (C := Try.checked) false ⟨#[], #[.int .i64 0, .int .i64 0, .int .u64 0], []⟩ 8 (by kernel_rfl) (by kernel_rfl) (by kernel_rfl) (by kernel_rfl)) ?_
  intro W base args ds gs before hval0 hW hcnd _
  have hval : ∀ (j : Nat) t v, Try.f3.params[j]? = some t → args[j]? = some v → Value.okWide Try.prog W .any base t v := hval0
  have hW' := hW
  obtain ⟨p, q, hA0, hV, rfl, hfz, hnd⟩ := hW
  have hA : DataW.TrodAll enc Try.prog W 0 (fun _ => true) true Try.f3.params.toList args.toList ds p := hA0
  rw [Try.params3] at hA hval
  obtain ⟨v0, vs0, d0, ds0, p0, q0, hargs, rfl, rfl, h0, r0⟩ := trodAll_cons hA
  obtain ⟨v1, vs1, d1, ds1, p1, q1, rfl, rfl, rfl, h1, r1⟩ := trodAll_cons r0
  obtain ⟨v2, vs2, d2, ds2, p2, q2, rfl, rfl, rfl, h2, r2⟩ := trodAll_cons r1
  obtain ⟨rfl, rfl, rfl⟩ := trodAll_nil r2
  obtain rfl : args = #[v0, v1, v2] := by cases args; simp_all
  obtain ⟨rfl, rfl⟩ := trodVars_none hV
  obtain ⟨a0, rfl, rfl, rfl, w0⟩ := open_int Try.underlying3 (hval 0 3 v0 rfl rfl) h0
  obtain ⟨a1, rfl, rfl, rfl, w1⟩ := open_int Try.underlying3 (hval 1 3 v1 rfl rfl) h1
  obtain ⟨a2, rfl, rfl, rfl, w2⟩ := open_int Try.underlying22 (hval 2 22 v2 rfl rfl) h2
  clear hA0 hval0
  refine (walk a0 a1 a2 W w0 w1 w2).mono fun e W' ⟨he, bel⟩ => ?_
  subst he
  exact ⟨_, rfl, _, _, _, [], _, [], hW', trodAll_mk1 (shut_bool Try.underlying4 _), (trodAll_cons_mk (shut_int Try.underlying3 w0) (trodAll_cons_mk (shut_int Try.underlying3 w1) (trodAll_cons_mk (shut_int Try.underlying22 w2) trodAll_mk0))), rfl, bel.frame _, fun h => by cases h⟩
theorem over : Rows.wordMarksRow.holds Try.pinned (OpenSpec.ofChange Rows.wordMarksSpec) :=
  OpenClaim.holds_of_wide 3 Try.f3 rfl rfl rfl rfl rfl rfl rfl ⟨rfl, rfl, rfl, rfl, rfl⟩ rfl rfl rfl rfl rfl (by kernel_rfl) Try.func3 (by kernel_rfl)
    (of_decide_eq_true (by kernel_rfl)) (by unfold Func.isWrapper; first | (rw [if_pos (by decide +kernel)]; kernel_rfl) | (rw [if_neg (by decide +kernel)]; exact ⟨rfl, rfl⟩))
    (fun os started H enc _ => lifted os started H enc)
theorem proved : Rows.WordMarksSaid := over
#print axioms proved
end Go.Proofs.Ytipcbchjpckamaa.wordMarks
