/- Proved here: vinculumlaw18.OutcomeGates returns true and leaves its arguments as they were, for any two ints; no further condition. -/
import Derived.Test.YtamahfpfminhoaaOcD
import Derived.ChangeOld
import Derived.Deep.LoopGhost
import Derived.Deep.CutRange
import Derived.Deep.CutBlock
namespace Go.Proofs.Ytamahfpfminhoaa.outcomeGates
open Go.ChangeShapes Go.WideShapes Go.ChangeAt Go.RowKit
set_option linter.unusedVariables false
def Rel (w : World) (o k : Nat) (lv iv : Value) (wr : World) : Prop := ∃ (S : Nat → Prop) (n : Int), k ≤ 63 ∧ iv = .int .i64 k ∧ lv = .int .i64 n ∧ 0 ≤ n ∧ n ≤ 9223372036854775807 ∧ Ga w wr o S n
set_option maxRecDepth 100000 in
set_option maxHeartbeats 8000000 in
theorem walk (a0 a1 : Int) (w : World) (w0 : (Lit.int .i64 a0).wf = true) (w1 : (Lit.int .i64 a1).wf = true) :
    Calls Try.prog 6 #[.int .i64 a0, .int .i64 a1] w fun e w' => e = .returned (.bool true) ∧ Below w.heap.size w w' := by
  have u0 := bounds_i64 w0
  obtain ⟨t, et⟩ : ∃ n : Nat, a1 % 64 = (n : Int) := ⟨(a1 % 64).toNat, by omega⟩
  have mt : bits .and .i64 a1 63 = (t : Int) := (i64_mask6 a1).trans et
  have t64 : t ≤ 63 := by omega
  obtain ⟨m0, hm⟩ : ∃ m, max a0 0 = m := ⟨_, rfl⟩
  have h1 : (if a0 < 0 then 0 else a0) = m0 := by rw [← hm]; split <;> omega
  have h2 : (if 0 < a0 then a0 else 0) = m0 := by rw [← hm]; split <;> omega
  have m00 : 0 ≤ m0 ∧ m0 ≤ 9223372036854775807 := by omega
  have HM := Lib.hid hm
  clear w0 w1 et hm
  go_enter Try.func6, Try.ntmps6
  go_wp2_with fail
  refine (ga_new w a0 u0 m0 HM.out).mono ?_
  rintro e y1 ⟨o, S1, rfl, C1⟩
  go_wp2
  go_loopg [6, 7] t (fun mm v i wr => ∃ k : Nat, mm + k = t ∧ Rel w o k v i wr)
  case atStart => exact ⟨0, by omega, S1, m0, by omega, rfl, rfl, m00.1, m00.2, C1⟩
  case round =>
    obtain ⟨k, hgk, S, n, k63, rfl, rfl, n0, n1, B⟩ := hrel
    clear C1 h1 h2
    by_cases hlt : k < t
    · obtain ⟨m, hm⟩ : ∃ m, max (n - 1) 0 = m := ⟨_, rfl⟩
      have wn : IntKind.i64.wrap (n - 1) = n - 1 := IntWalk.i64_in _ (by omega)
      have wk : IntKind.i64.wrap ((k : Int) + 1) = (k : Int) + 1 := IntWalk.i64_in _ (by omega)
      have h1 : (if n - 1 < 0 then 0 else n - 1) = m := by rw [← hm]; split <;> omega
      have h2 : (if 0 < n - 1 then n - 1 else 0) = m := by rw [← hm]; split <;> omega
      have mb : 0 ≤ m ∧ m ≤ 9223372036854775807 := by omega
      obtain ⟨b, hb⟩ : ∃ b, decide (0 < n) = b := ⟨_, rfl⟩
      have q0 : (n != n) = false := by simp
      have q1 : (b != b) = false := by simp
      have HM := Lib.hid hm
      clear hm
      go_wp2_with fail
      refine (ga_left B).mono ?_
      rintro e y2 ⟨rfl, S2, C2, k2⟩
      go_wp2_with fail
      refine (ga_pass C2 b hb m HM.out).mono ?_
      rintro e y3 ⟨rfl, S3, C3, k3⟩
      clear C2 k2 k3 B
      go_wp2_with fail
      go_roundg (t - (k + 1))
      case measure => omega
      case rel => exact ⟨k + 1, by omega, S3, m, by omega, by go_num, rfl, mb.1, mb.2, C3⟩
    · obtain rfl : k = t := by omega
      have q0 : (n == n) = true := by simp
      go_wp2_with fail
      refine (ga_left B).mono ?_
      rintro e y2 ⟨rfl, S2, C2, k2⟩
      go_wp2_with fail
      refine (awake18_any _).mono ?_
      rintro e y4 ⟨rfl, b4⟩
      go_wp2
      go_ret
      exact ⟨rfl, C2.b.trans (b4.mono C2.b.size)⟩
theorem own : ownKnob Try.prog.godebug = none := by kernel_rfl
theorem laidOut : laidOutB Try.prog = true := by kernel_rfl
set_option maxRecDepth 100000 in
theorem lifted (os : Os) (started : os.Started) (H : Type) (enc : TypeId × Value → H) :
    ReturnsInHanded {} Try.checked os 6 .any (Rows.outcomeGatesSpec.pre6 enc Try.prog Try.f6 Rows.outcomeGatesRow.domain false) (Rows.outcomeGatesSpec.post enc Try.prog Try.f6 false true false false) := by
  refine returnsInHanded_of_change (C := Try.checked) own started (by kernel_rfl) Try.func6
    (ChangeSpec.witness6 (enc := enc) (C := Try.checked) false ⟨#[], #[.int .i64 0, .int .i64 0], []⟩ 8 (by kernel_rfl) (by kernel_rfl) (by kernel_rfl) (by kernel_rfl)) ?_
  intro W base args ds gs before hval0 hW hcnd _
  have hval : ∀ (j : Nat) t v, Try.f6.params[j]? = some t → args[j]? = some v → Value.okWide Try.prog W .any base t v := hval0
  have hW' := hW
  obtain ⟨p, q, hA0, hV, rfl, hfz, hnd⟩ := hW
  have hA : DataW.TrodAll enc Try.prog W 0 (fun _ => true) true Try.f6.params.toList args.toList ds p := hA0
  rw [Try.params6] at hA hval
  obtain ⟨v0, vs0, d0, ds0, p0, q0, hargs, rfl, rfl, h0, r0⟩ := trodAll_cons hA
  obtain ⟨v1, vs1, d1, ds1, p1, q1, rfl, rfl, rfl, h1, r1⟩ := trodAll_cons r0
  obtain ⟨rfl, rfl, rfl⟩ := trodAll_nil r1
  obtain rfl : args = #[v0, v1] := by cases args; simp_all
  obtain ⟨rfl, rfl⟩ := trodVars_none hV
  obtain ⟨a0, rfl, rfl, rfl, w0⟩ := open_int Try.underlying3 (hval 0 3 v0 rfl rfl) h0
  obtain ⟨a1, rfl, rfl, rfl, w1⟩ := open_int Try.underlying3 (hval 1 3 v1 rfl rfl) h1
  clear hA0 hval0
  refine (walk a0 a1 W w0 w1).mono fun e W' ⟨he, bel⟩ => ?_
  subst he
  exact ⟨_, rfl, _, _, _, [], _, [], hW', trodAll_mk1 (shut_bool Try.underlying4 _), (trodAll_cons_mk (shut_int Try.underlying3 w0) (trodAll_cons_mk (shut_int Try.underlying3 w1) trodAll_mk0)), rfl, bel.frame _, fun h => by cases h⟩
theorem over : Rows.outcomeGatesRow.holds Try.pinned (OpenSpec.ofChange Rows.outcomeGatesSpec) :=
  OpenClaim.holds_of_wide 6 Try.f6 rfl rfl rfl rfl rfl rfl rfl ⟨rfl, rfl, rfl, rfl, rfl⟩ rfl rfl rfl rfl rfl (by kernel_rfl) Try.func6 (by kernel_rfl)
    (of_decide_eq_true (by kernel_rfl)) (by unfold Func.isWrapper; first | (rw [if_pos (by decide +kernel)]; kernel_rfl) | (rw [if_neg (by decide +kernel)]; exact ⟨rfl, rfl⟩))
    (fun os started H enc _ => lifted os started H enc)
theorem proved : Rows.OutcomeGatesSaid := over
end Go.Proofs.Ytamahfpfminhoaa.outcomeGates
