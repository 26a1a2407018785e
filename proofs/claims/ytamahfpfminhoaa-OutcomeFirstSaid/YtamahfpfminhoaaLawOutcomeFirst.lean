/- Proved here: vinculumlaw18.OutcomeFirst returns true and leaves its arguments as they were, for any Boolean and any three ints; no further condition. -/
import Derived.Test.YtamahfpfminhoaaOcD
import Derived.ChangeOld
import Derived.Deep.LoopGhost
import Derived.Deep.CutRange
import Derived.Deep.CutBlock
namespace Go.Proofs.Ytamahfpfminhoaa.outcomeFirst
open Go.ChangeShapes Go.WideShapes Go.ChangeAt Go.RowKit
set_option linter.unusedVariables false
theorem tell_no (s : OcI) (a r : Int) (h : s.told = true ∨ ¬ (a = 3 ∨ a = 4)) : s.tell a r = (false, ⟨s.st, s.rs, s.told, s.n + 1⟩) := by
  unfold OcI.tell
  rw [if_neg]
  rintro ⟨h1, h2⟩
  rcases h with h | h
  · rw [h1] at h; cases h
  · exact h h2
def Rel (w : World) (o k : Nat) (p a : Int) (iv : Value) (wr : World) : Prop := ∃ (S : Nat → Prop), k ≤ 15 ∧ iv = .int .i64 k ∧ Oc w wr o S ⟨p, a, true, 2 + 2 * k⟩
set_option maxRecDepth 100000 in
set_option maxHeartbeats 8000000 in
theorem walk (a0 : Bool) (a1 a2 a3 : Int) (w : World) (w1 : (Lit.int .i64 a1).wf = true) (w2 : (Lit.int .i64 a2).wf = true) (w3 : (Lit.int .i64 a3).wf = true) :
    Calls Try.prog 3 #[.bool a0, .int .i64 a1, .int .i64 a2, .int .i64 a3] w fun e w' => e = .returned (.bool true) ∧ Below w.heap.size w w' := by
  have u1 := bounds_i64 w1
  have u2 := bounds_i64 w2
  obtain ⟨t, et⟩ : ∃ n : Nat, a3 % 16 = (n : Int) := ⟨(a3 % 16).toNat, by omega⟩
  have mt : bits .and .i64 a3 15 = (t : Int) := (i64_mask4 a3).trans et
  have t16 : t ≤ 15 := by omega
  clear w1 w2 w3 et
  go_enter Try.func3, Try.ntmps3
  go_wp2_with fail
  refine (oc_new w).mono ?_
  rintro e y1 ⟨o, S1, rfl, C1⟩
  go_upto_if 20 with fail
  go_cut [10, 11] from 20 to 22 (fun v1 v2 wx => y1 = wx ∧ ∃ p q : Int, v1 = .int .i64 p ∧ v2 = .int .i64 q ∧ ((p = 3 ∧ q = 4) ∨ (p = 4 ∧ q = 3)))
  case first =>
    cases a0
    · go_wp2_with fail
      go_meet
      case rel => exact ⟨rfl, 4, 3, rfl, rfl, .inr ⟨rfl, rfl⟩⟩
    · go_wp2_with fail
      go_meet
      case rel => exact ⟨rfl, 3, 4, rfl, rfl, .inl ⟨rfl, rfl⟩⟩
  case rest =>
  obtain ⟨rfl, p, q, rfl, rfl, pq⟩ := hcut
  have p34 : p = 3 ∨ p = 4 := by omega
  go_wp2_with fail
  refine (oc_tell C1 (by simp) 2 3 (by omega) (by omega) _ _ (tell_no _ 2 3 (.inr (by omega)))).mono ?_
  rintro e y2 ⟨rfl, S2, C2, k2⟩
  have ht : (⟨0, 0, false, 0 + 1⟩ : OcI).tell p a1 = (true, ⟨p, a1, true, 2⟩) := by
    unfold OcI.tell
    rw [if_pos ⟨rfl, p34⟩]
  clear C1 k2
  go_wp2_with fail
  refine (oc_tell C2 (by simp) p a1 (by omega) u1 _ _ ht).mono ?_
  rintro e y3 ⟨rfl, S3, C3, k3⟩
  clear C2 k3 ht
  go_wp2
  go_loopg [12] t (fun mm i wr => ∃ k : Nat, mm + k = t ∧ Rel w o k p a1 i wr)
  case atStart => exact ⟨0, by omega, S3, by omega, rfl, C3⟩
  case round =>
    obtain ⟨k, hgk, S, k15, rfl, B⟩ := hrel
    clear C3
    by_cases hlt : k < t
    · have wk : IntKind.i64.wrap ((k : Int) + 1) = (k : Int) + 1 := IntWalk.i64_in _ (by omega)
      go_wp2_with fail
      refine (oc_tell B (by show 2 + 2 * k ≤ 1000; omega) q a2 (by omega) u2 _ _ (tell_no _ q a2 (.inl rfl))).mono ?_
      rintro e y4 ⟨rfl, S4, C4, k4⟩
      clear B k4
      go_wp2_with fail
      refine (oc_tell C4 (by show 2 + 2 * k + 1 ≤ 1000; omega) p a2 (by omega) u2 _ _ (tell_no _ p a2 (.inl rfl))).mono ?_
      rintro e y5 ⟨rfl, S5, C5, k5⟩
      have C5 : Oc w y5 o S5 ⟨p, a1, true, 2 + 2 * (k + 1)⟩ := C5
      clear C4 k5
      go_wp2_with fail
      go_roundg (t - (k + 1))
      case measure => omega
      case rel => exact ⟨k + 1, by omega, S5, by omega, by go_num, C5⟩
    · obtain rfl : k = t := by omega
      have w2 : IntKind.i64.wrap (2 * (k : Int)) = 2 * (k : Int) := IntWalk.i64_in _ (by omega)
      have w3 : IntKind.i64.wrap (2 + 2 * (k : Int)) = 2 + 2 * (k : Int) := IntWalk.i64_in _ (by omega)
      go_wp2_with fail
      refine (oc_get B).mono ?_
      rintro e y4 ⟨rfl, S4, C4, k4⟩
      clear B k4
      go_wp2_with fail
      refine (oc_count C4 (2 + 2 * (k : Int)) (by simp) (by show 2 + 2 * k ≤ 1000; omega)).mono ?_
      rintro e y5 ⟨rfl, S5, C5, k5⟩
      clear C4 k5
      go_wp2_with fail
      refine (awake18_any _).mono ?_
      rintro e y6 ⟨rfl, b6⟩
      go_wp2
      go_ret
      exact ⟨rfl, C5.b.trans (b6.mono C5.b.size)⟩
theorem own : ownKnob Try.prog.godebug = none := by kernel_rfl
theorem laidOut : laidOutB Try.prog = true := by kernel_rfl
set_option maxRecDepth 100000 in
theorem lifted (os : Os) (started : os.Started) (H : Type) (enc : TypeId × Value → H) :
    ReturnsInHanded {} Try.checked os 3 .any (Rows.outcomeFirstSpec.pre6 enc Try.prog Try.f3 Rows.outcomeFirstRow.domain false) (Rows.outcomeFirstSpec.post enc Try.prog Try.f3 false true false false) := by
  refine returnsInHanded_of_change (C := Try.checked) own started (by kernel_rfl) Try.func3
    (ChangeSpec.witness6 (enc := enc) (C := Try.checked) false ⟨#[], #[.bool false, .int .i64 0, .int .i64 0, .int .i64 0], []⟩ 8 (by kernel_rfl) (by kernel_rfl) (by kernel_rfl) (by kernel_rfl)) ?_
  intro W base args ds gs before hval0 hW hcnd _
  have hval : ∀ (j : Nat) t v, Try.f3.params[j]? = some t → args[j]? = some v → Value.okWide Try.prog W .any base t v := hval0
  have hW' := hW
  obtain ⟨p, q, hA0, hV, rfl, hfz, hnd⟩ := hW
  have hA : DataW.TrodAll enc Try.prog W 0 (fun _ => true) true Try.f3.params.toList args.toList ds p := hA0
  rw [Try.params3] at hA hval
  obtain ⟨v0, vs0, d0, ds0, p0, q0, hargs, rfl, rfl, h0, r0⟩ := trodAll_cons hA
  obtain ⟨v1, vs1, d1, ds1, p1, q1, rfl, rfl, rfl, h1, r1⟩ := trodAll_cons r0
  obtain ⟨v2, vs2, d2, ds2, p2, q2, rfl, rfl, rfl, h2, r2⟩ := trodAll_cons r1
  obtain ⟨v3, vs3, d3, ds3, p3, q3, rfl, rfl, rfl, h3, r3⟩ := trodAll_cons r2
  obtain ⟨rfl, rfl, rfl⟩ := trodAll_nil r3
  obtain rfl : args = #[v0, v1, v2, v3] := by cases args; simp_all
  obtain ⟨rfl, rfl⟩ := trodVars_none hV
  obtain ⟨a0, rfl, rfl, rfl⟩ := open_bool Try.underlying4 (hval 0 4 v0 rfl rfl) h0
  obtain ⟨a1, rfl, rfl, rfl, w1⟩ := open_int Try.underlying3 (hval 1 3 v1 rfl rfl) h1
  obtain ⟨a2, rfl, rfl, rfl, w2⟩ := open_int Try.underlying3 (hval 2 3 v2 rfl rfl) h2
  obtain ⟨a3, rfl, rfl, rfl, w3⟩ := open_int Try.underlying3 (hval 3 3 v3 rfl rfl) h3
  clear hA0 hval0
  refine (walk a0 a1 a2 a3 W w1 w2 w3).mono fun e W' ⟨he, bel⟩ => ?_
  subst he
  exact ⟨_, rfl, _, _, _, [], _, [], hW', trodAll_mk1 (shut_bool Try.underlying4 _), (trodAll_cons_mk (shut_bool Try.underlying4 _) (trodAll_cons_mk (shut_int Try.underlying3 w1) (trodAll_cons_mk (shut_int Try.underlying3 w2) (trodAll_cons_mk (shut_int Try.underlying3 w3) trodAll_mk0)))), rfl, bel.frame _, fun h => by cases h⟩
theorem over : Rows.outcomeFirstRow.holds Try.pinned (OpenSpec.ofChange Rows.outcomeFirstSpec) :=
  OpenClaim.holds_of_wide 3 Try.f3 rfl rfl rfl rfl rfl rfl rfl ⟨rfl, rfl, rfl, rfl, rfl⟩ rfl rfl rfl rfl rfl (by kernel_rfl) Try.func3 (by kernel_rfl)
    (of_decide_eq_true (by kernel_rfl)) (by unfold Func.isWrapper; first | (rw [if_pos (by decide +kernel)]; kernel_rfl) | (rw [if_neg (by decide +kernel)]; exact ⟨rfl, rfl⟩))
    (fun os started H enc _ => lifted os started H enc)
theorem proved : Rows.OutcomeFirstSaid := over
end Go.Proofs.Ytamahfpfminhoaa.outcomeFirst
