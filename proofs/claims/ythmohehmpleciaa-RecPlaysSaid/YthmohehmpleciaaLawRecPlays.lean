/- Proved here: vinculumlaw6.RecPlays returns true and leaves its arguments as they were, for every int and every script; no further condition. -/
import Derived.Test.YthmohehmpleciaaRpL
import Derived.Test.YthmohehmpleciaaOps6
import Derived.Test.YthmohehmpleciaaBits
import Derived.ChangeOld
import Derived.Deep.CutRange
import Derived.Deep.CutBlock
import Derived.Deep.LoopGhost
import Derived.BigRegion
import Derived.BigQuiet
import Derived.Deep.RegionHeld3
namespace Go.Proofs.Ythmohehmpleciaa.recPlays
open Go.ChangeShapes Go.WideShapes Go.ChangeAt Go.RowKit
set_option linter.unusedVariables false

set_option maxRecDepth 100000 in
set_option maxHeartbeats 16000000 in
theorem walk (a0 : Int) (a1 : Option Addr) (len1 cap1 : Nat) (f : Nat → OpI) (w : World) (w0 : (Lit.int .i64 a0).wf = true) (w1 : IsOps w a1 len1 cap1 f) :
    Calls Try.prog 6 #[.int .i64 a0, .slice a1 len1 cap1] w fun e w' => e = .returned (.bool true) ∧ Below w.heap.size w w' := by
  obtain ⟨q0, q1⟩ := bounds_i64 w0
  obtain ⟨l2, l3, lc, ok2⟩ := id w1
  obtain ⟨N, hN⟩ : ∃ N : Int, (if 20 < a0 ∧ a0 ≤ 4096 then a0 % 20 + 1 else a0) = N := ⟨_, rfl⟩
  have N1 : -9223372036854775808 ≤ N := by split at hN <;> omega
  have N2 : N ≤ 9223372036854775807 := by split at hN <;> omega
  have HN := Lib.hid hN
  clear hN
  go_enter Try.func6, Try.ntmps6
  go_upto_region 1 with fail
  go_cut [30] from 25 to 33 (fun s wx => s = .bool (decide (20 < a0 ∧ a0 ≤ 4096)) ∧ w = wx)
  case first =>
    by_cases h1 : 20 < a0
    · by_cases h2 : a0 ≤ 4096
      · go_wp2_with fail
        go_meet
        case rel => exact ⟨by rw [show decide (20 < a0 ∧ a0 ≤ 4096) = true from decide_eq_true (by omega)], rfl⟩
      · go_wp2_with fail
        go_meet
        case rel => exact ⟨by rw [show decide (20 < a0 ∧ a0 ≤ 4096) = false from decide_eq_false (by omega)], rfl⟩
    · go_wp2_with fail
      go_meet
      case rel => exact ⟨by rw [show decide (20 < a0 ∧ a0 ≤ 4096) = false from decide_eq_false (by omega)], rfl⟩
  case rest =>
  obtain ⟨rfl, rfl⟩ := hcut
  go_upto_if 30 with fail
  go_cut [0] from 25 to 33 (fun s wx => s = .int .i64 N ∧ w = wx)
  case first =>
    by_cases h1 : 20 < a0 ∧ a0 ≤ 4096
    · have hn : a0 % 20 + 1 = N := by have := HN.out; rwa [if_pos h1] at this
      have h2 : decide (20 < a0 ∧ a0 ≤ 4096) = true := decide_eq_true h1
      have h3 := h1.1
      go_wp2_with fail
      go_meet
      case rel => exact ⟨rfl, rfl⟩
    · have hn : a0 = N := by have := HN.out; rwa [if_neg h1] at this
      have h2 : decide (20 < a0 ∧ a0 ≤ 4096) = false := decide_eq_false h1
      go_wp2_with fail
      go_meet
      case rel => exact ⟨by first | rfl | rw [hn], rfl⟩
  case rest =>
  obtain ⟨rfl, rfl⟩ := hcut
  clear HN q0 q1 w0
  by_cases hbad : N < 1 ∨ 4096 < N
  ·
    go_wp2_with fail
    refine (vnew_no N _ hbad).mono ?_
    rintro e x1 ⟨rfl, c1⟩
    rcases (by omega : N < 1 ∨ (¬ N < 1 ∧ 4096 < N)) with h1 | ⟨h1, h2⟩
    all_goals
      clear hbad
      go_wp2_with fail
      refine (awake6_any _).mono ?_
      rintro e x3 ⟨rfl, b3⟩
      go_wp2
      go_ret
      exact ⟨rfl, c1.trans (b3.mono c1.size)⟩
  · obtain ⟨n, rfl⟩ : ∃ n : Nat, N = n := ⟨N.toNat, by omega⟩
    have n1 : 1 ≤ n := by omega
    have n2 : n ≤ 4096 := by omega
    clear hbad N1 N2
    go_wp2_with fail
    refine (v_new n _ n1 n2).mono ?_
    rintro e x1 ⟨p, S1, rfl, h1⟩
    go_wp2_with fail
    refine (rnew_ok n 65535 _ n1 n2 (by omega) (by omega)).mono ?_
    rintro e x2 ⟨pr, b1, b2, rfl, h2, gp, gb1, gb2, c2⟩
    have z1 := h1.b.size
    have A0 : All w x2 (fun g => if g < x1.heap.size then 1 else 2) p S1 (RS.new n) 1 pr b1 b2 (.slice none 0 0) (RS.new n).s (.slice none 0 0) [] (.slice none 0 0) [] := by
      refine ⟨h1.quiet (Keep.of_below c2 (fun _ => False)), fun g hg => if_pos (h1.h.lt g hg), h2, fun x hx => ?_, fun x hx => ?_, World.ownsRow_nil _ _ _ _, fun g hg => by simp [Value.ownBlock] at hg, World.ownsRow_nil _ _ _ _, fun g hg => by simp [Value.ownBlock] at hg, fun g hg => by simp [Value.ownBlock] at hg⟩
      · rcases hx with rfl | rfl | rfl | hx
        · exact if_neg (by omega)
        · exact if_neg (by omega)
        · exact if_neg (by omega)
        · simp [Value.ownBlock] at hx
      · rcases hx with rfl | rfl | rfl | hx
        · omega
        · omega
        · omega
        · simp [Value.ownBlock] at hx
    have I0 := inv_new n n1 n2
    clear h1 h2 gp gb1 gb2 c2 z1
    go_upto_block 0 with fail
    go_cut [8, 9, 10] from 62 to 377 (fun _ _ _ wx => Below w.heap.size w wx)
    case first =>
      rename_i JX KX hJX hKX
      exact theLoop hJX hKX (Lib.hid fun c a d v w h => by cases d <;> exact h) w1 I0 A0
    case rest =>
      clear A0 I0
      go_wp2_with fail
      refine (awake6_any _).mono ?_
      rintro e z5 ⟨rfl, b5⟩
      go_wp2
      go_ret
      exact ⟨rfl, hcut.trans (b5.mono hcut.size)⟩
theorem own : ownKnob Try.prog.godebug = none := by kernel_rfl
theorem laidOut : laidOutB Try.prog = true := by kernel_rfl
set_option maxRecDepth 100000 in
theorem lifted (os : Os) (started : os.Started) (H : Type) (enc : TypeId × Value → H) :
    ReturnsInHanded {} Try.checked os 6 .any (Rows.recPlaysSpec.pre6 enc Try.prog Try.f6 Rows.recPlaysRow.domain false) (Rows.recPlaysSpec.post enc Try.prog Try.f6 false true false false) := by
  refine returnsInHanded_of_change (C := Try.checked) own started (by kernel_rfl) Try.func6
    (ChangeSpec.witness6 (enc := enc) (C := Try.checked) false ⟨#[], #[.int .i64 0, .slice none 0 0], []⟩ 8 (by kernel_rfl) (by kernel_rfl) (by kernel_rfl) (by kernel_rfl)) ?_
  intro W base args ds gs before hval0 hW hcnd _
  have hval : ∀ (j : Nat) t v, Try.f6.params[j]? = some t → args[j]? = some v → Value.okWide Try.prog W .any base t v := hval0
  have hW' := hW
  obtain ⟨p, q, hA0, hV, rfl, hfz, hnd⟩ := hW
  have hA : DataW.TrodAll enc Try.prog W 0 (fun _ => true) true Try.f6.params.toList args.toList ds p := hA0
  rw [Try.params6] at hA hval
  obtain ⟨v0, vs0, d0, ds0, p0, q0, hargs, rfl, rfl, h0, r0⟩ := trodAll_cons hA
  obtain ⟨v1, vs1, d1, ds1, p1, q1, rfl, rfl, rfl, h1, r1⟩ := trodAll_cons r0
  obtain ⟨rfl, rfl, rfl⟩ := trodAll_nil r1
  obtain rfl : args = #[v0, v1] := by cases args; simp_all
  obtain ⟨rfl, rfl⟩ := trodVars_none hV
  obtain ⟨a0, rfl, rfl, rfl, w0⟩ := open_int Try.underlying3 (hval 0 3 v0 rfl rfl) h0
  obtain ⟨a1, len1, cap1, rfl⟩ := okWide_slice Try.underlying45 (hval 1 45 v1 rfl rfl)
  have k1 := h1
  have lt1 : ∀ x ∈ p1, x.block < W.heap.size := by obtain ⟨m, hm⟩ := k1; exact DataW.trod_lt m _ _ _ hm
  obtain ⟨z1, w1⟩ : ∃ f, IsOps W a1 len1 cap1 f := is_ops h1
  clear hA0 hval0
  refine (walk a0 a1 len1 cap1 z1 W w0 w1).mono fun e W' ⟨he, bel⟩ => ?_
  subst he
  exact ⟨_, rfl, _, _, _, [], _, [], hW', trodAll_mk1 (shut_bool Try.underlying4 _), (trodAll_cons_mk (shut_int Try.underlying3 w0) (trodAll_cons_mk (Below.trod laidOut (by kernel_rfl) (of_decide_eq_true (by kernel_rfl)) k1 bel lt1) trodAll_mk0)), rfl, bel.frame _, fun h => by cases h⟩
theorem over : Rows.recPlaysRow.holds Try.pinned (OpenSpec.ofChange Rows.recPlaysSpec) :=
  OpenClaim.holds_of_wide 6 Try.f6 rfl rfl rfl rfl rfl rfl rfl ⟨rfl, rfl, rfl, rfl, rfl⟩ rfl rfl rfl rfl rfl (by kernel_rfl) Try.func6 (by kernel_rfl)
    (of_decide_eq_true (by kernel_rfl)) (by unfold Func.isWrapper; first | (rw [if_pos (by decide +kernel)]; kernel_rfl) | (rw [if_neg (by decide +kernel)]; exact ⟨rfl, rfl⟩))
    (fun os started H enc _ => lifted os started H enc)
theorem proved : Rows.RecPlaysSaid := over
#print axioms proved
end Go.Proofs.Ythmohehmpleciaa.recPlays
