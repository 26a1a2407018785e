/- Proved here: vinculumlaw17.MarkGarbage returns true and leaves its arguments as they were, for any four 64-bit words and any int; no further condition. -/
import Derived.Test.YtbbinfdgmfmaeaaMkD
import Derived.Test.YtbbinfdgmfmaeaaSeeD
import Derived.Test.YtbbinfdgmfmaeaaMask
import Derived.Test.YtbbinfdgmfmaeaaSeeF
import Derived.ChangeOld
import Derived.Deep.CutRange
import Derived.Deep.CutBlock
namespace Go.Proofs.Ytbbinfdgmfmaeaa.markGarbage
open Go.ChangeShapes Go.WideShapes Go.ChangeAt Go.RowKit
set_option linter.unusedVariables false
theorem chain {w w1 w2 : World} (h : Below w.heap.size w w1) (k : Below w1.heap.size w1 w2) : Below w.heap.size w w2 := h.trans (k.mono h.size)
theorem rgarb_any (e low : Int) (he : U64 e) (hl : U64 low) (r : Bool) (hr : garbI e low = r) (w : World) :
    Calls Try.prog 16 #[.int .u64 e, .int .u64 low] w fun y w' => y = .returned (.bool r) ∧ w = w' := by
  unfold garbI at hr
  rcases (by omega : ¬ 1 ≤ e ∨ (1 ≤ e ∧ ¬ e ≤ 1099511627776) ∨ (1 ≤ e ∧ e ≤ 1099511627776 ∧ ¬ e ≤ low) ∨ (1 ≤ e ∧ e ≤ 1099511627776 ∧ e ≤ low)) with h | ⟨h, h'⟩ | ⟨h, h', h''⟩ | ⟨h, h', h''⟩
  · obtain rfl : r = false := by rw [← hr]; exact decide_eq_false (by omega)
    clear hr
    go_enter Try.func16, Try.ntmps16
    go_wp2
    go_ret
    exact ⟨rfl, rfl⟩
  · obtain rfl : r = false := by rw [← hr]; exact decide_eq_false (by omega)
    clear hr
    go_enter Try.func16, Try.ntmps16
    go_wp2
    go_ret
    exact ⟨rfl, rfl⟩
  · obtain rfl : r = false := by rw [← hr]; exact decide_eq_false (by omega)
    clear hr
    go_enter Try.func16, Try.ntmps16
    go_wp2
    go_ret
    exact ⟨rfl, rfl⟩
  · obtain rfl : r = true := by rw [← hr]; exact decide_eq_true (by omega)
    clear hr
    go_enter Try.func16, Try.ntmps16
    go_wp2
    go_ret
    exact ⟨rfl, rfl⟩
/-- What is garbage is not seen. -/
theorem unseen (b e me at' low : Int) (hg : garbI e low = true) (hl : low ≤ at') : ∃ v, seeI noL b e me at' = (v, []) ∧ v ≠ 1 := by
  have h := of_decide_eq_true hg
  have te : endI noL e me at' = (1, 0) := by rw [time_e _ _ _ (by omega), if_pos (by omega)]
  unfold seeI
  rw [te]
  by_cases c : (beginI noL b me at').1 = 2 ∨ (beginI noL b me at').1 = 3
  · rw [if_pos c]
    exact ⟨_, rfl, by omega⟩
  · rw [if_neg c]
    exact ⟨2, rfl, by omega⟩
set_option maxRecDepth 100000 in
set_option maxHeartbeats 8000000 in
theorem walk (a0 a1 a2 a3 a4 : Int) (w : World) (w0 : (Lit.int .u64 a0).wf = true) (w1 : (Lit.int .u64 a1).wf = true) (w2 : (Lit.int .u64 a2).wf = true) (w3 : (Lit.int .u64 a3).wf = true) (w4 : (Lit.int .i64 a4).wf = true) :
    Calls Try.prog 6 #[.int .u64 a0, .int .u64 a1, .int .u64 a2, .int .u64 a3, .int .i64 a4] w fun e w' => e = .returned (.bool true) ∧ Below w.heap.size w w' := by
  have u0 : U64 a0 := bounds_u64 w0
  have u1 : U64 a1 := bounds_u64 w1
  have u2 : U64 a2 := bounds_u64 w2
  have u3 : U64 a3 := bounds_u64 w3
  have h4 := i64_mask12 a4
  obtain ⟨m, em⟩ : ∃ x, a4 % 4096 = x := ⟨_, rfl⟩
  rw [em] at h4
  have m0 : 0 ≤ m ∧ m ≤ 4095 := by omega
  have wm : IntKind.i64.wrap (m + 1) = m + 1 := IntWalk.i64_in _ (by omega)
  obtain ⟨g, hg⟩ : ∃ g, garbI a1 a2 = g := ⟨_, rfl⟩
  have HG := Lib.hid hg
  clear em w0 w1 w2 w3 w4
  go_enter Try.func6, Try.ntmps6
  go_wp2_with fail
  refine (garb_any a0 a1 a2 u0 u1 u2 g hg _).mono ?_
  rintro e y1 ⟨rfl, b1⟩
  go_wp2_with fail
  refine (rgarb_any a1 a2 u1 u2 g hg _).mono ?_
  rintro e y2 ⟨rfl, rfl⟩
  clear hg
  go_upto_if 23 with fail
  go_cut [] from 19 to 23 (fun wx => y1 = wx)
  case first =>
    cases g <;> (go_wp2_with fail; go_meet; (case rel => exact rfl))
  case rest =>
  obtain rfl := hcut
  go_upto_region 5 with fail
  go_cut [30] from 25 to 29 (fun x wx => y1 = wx ∧ x = .bool (decide (a3 ≤ 1099511627776) && decide (a2 ≤ 1099511627776)))
  case first =>
    by_cases c1 : a3 ≤ 1099511627776
    · by_cases c2 : a2 ≤ 1099511627776
      · go_wp2_with fail
        go_meet
        case rel => exact ⟨rfl, by rw [decide_eq_true c1, decide_eq_true c2]; rfl⟩
      · go_wp2_with fail
        go_meet
        case rel => exact ⟨rfl, by rw [decide_eq_true c1, decide_eq_false (by omega : ¬ a2 ≤ 1099511627776)]; rfl⟩
    · go_wp2_with fail
      go_meet
      case rel => exact ⟨rfl, by rw [decide_eq_false (by omega : ¬ a3 ≤ 1099511627776)]; rfl⟩
  case rest =>
  obtain ⟨rfl, rfl⟩ := hcut
  obtain ⟨q, eq⟩ : ∃ q, (decide (a3 ≤ 1099511627776) && decide (a2 ≤ 1099511627776)) = q := ⟨_, rfl⟩
  have EQ := Lib.hid eq
  rw [eq]
  clear eq
  go_upto_if 30 with fail
  go_cut [12] from 31 to 33 (fun x wx => y1 = wx ∧ ∃ t : Int, x = .int .u64 t ∧ U64 t ∧ a2 ≤ t)
  case first =>
    cases q with
    | true =>
      have ee := EQ.out
      simp only [Bool.and_eq_true, decide_eq_true_eq] at ee
      obtain ⟨c1, c2⟩ := ee
      have wt : IntKind.u64.wrap (a2 + a3) = a2 + a3 := IntWalk.u64_in _ (by have := u2.1; have := u3.1; omega)
      have ut : U64 (a2 + a3) := ⟨by have := u2.1; have := u3.1; omega, by omega⟩
      have le : a2 ≤ a2 + a3 := by have := u3.1; omega
      clear c1 c2
      go_wp2_with fail
      go_meet
      case rel => exact ⟨rfl, _, rfl, ut, le⟩
    | false =>
      go_wp2_with fail
      go_meet
      case rel => exact ⟨rfl, a2, rfl, u2, Int.le_refl _⟩
  case rest =>
  obtain ⟨rfl, t, rfl, ut, hle⟩ := hcut
  clear EQ
  obtain ⟨v, zs, hv⟩ : ∃ v zs, seeI noL a0 a1 (m + 1) t = (v, zs) := ⟨_, _, rfl⟩
  have hz : g = true → zs = [] ∧ v ≠ 1 := fun e => by
    obtain ⟨v', h1, h2⟩ := unseen a0 a1 (m + 1) t a2 (by rw [HG.out, e]) hle
    rw [hv] at h1
    cases h1
    exact ⟨rfl, h2⟩
  go_wp2_with fail
  refine (psee_to look_nil trivial a0 a1 (m + 1) t v zs hv u0.1 u0.2 u1.1 u1.2).mono ?_
  rintro e y3 ⟨A, c, rfl, o3, b3⟩
  have b1 := chain b1 b3
  clear hv b3 o3
  cases g with
  | true =>
    obtain ⟨rfl, hv1⟩ := hz rfl
    have q0 : (v != 1) = true := by simpa using hv1
    have q1 : (v == 1) = false := by simpa using hv1
    clear hz hv1
    go_wp2_with fail
    refine (awake17_any _).mono ?_
    rintro e y4 ⟨rfl, b4⟩
    go_wp2
    go_ret
    exact ⟨rfl, chain b1 b4⟩
  | false =>
    clear hz
    go_wp2_with fail
    refine (awake17_any _).mono ?_
    rintro e y4 ⟨rfl, b4⟩
    go_wp2
    go_ret
    exact ⟨rfl, chain b1 b4⟩
theorem own : ownKnob Try.prog.godebug = none := by kernel_rfl
theorem laidOut : laidOutB Try.prog = true := by kernel_rfl
set_option maxRecDepth 100000 in
theorem lifted (os : Os) (started : os.Started) (H : Type) (enc : TypeId × Value → H) :
    ReturnsInHanded {} Try.checked os 6 .any (Rows.markGarbageSpec.pre6 enc Try.prog Try.f6 Rows.markGarbageRow.domain false) (Rows.markGarbageSpec.post enc Try.prog Try.f6 false true false false) := by
  refine returnsInHanded_of_change (C := Try.checked) own started (by kernel_rfl) Try.func6
    (ChangeSpec.witness6 (enc := enc) (C := Try.checked) false ⟨#[], #[.int .u64 0, .int .u64 0, .int .u64 0, .int .u64 0, .int .i64 0], []⟩ 8 (by kernel_rfl) (by kernel_rfl) (by kernel_rfl) (by kernel_rfl)) ?_
  intro W base args ds gs before hval0 hW hcnd _
  have hval : ∀ (j : Nat) t v, Try.f6.params[j]? = some t → args[j]? = some v → Value.okWide Try.prog W .any base t v := hval0
  have hW' := hW
  obtain ⟨p, q, hA0, hV, rfl, hfz, hnd⟩ := hW
  have hA : DataW.TrodAll enc Try.prog W 0 (fun _ => true) true Try.f6.params.toList args.toList ds p := hA0
  rw [Try.params6] at hA hval
  obtain ⟨v0, vs0, d0, ds0, p0, q0, hargs, rfl, rfl, h0, r0⟩ := trodAll_cons hA
  obtain ⟨v1, vs1, d1, ds1, p1, q1, rfl, rfl, rfl, h1, r1⟩ := trodAll_cons r0
  obtain ⟨v2, vs2, d2, ds2, p2, q2, rfl, rfl, rfl, h2, r2⟩ := trodAll_cons r1
  obtain ⟨v3, vs3, d3, ds3, p3, q3, rfl, rfl, rfl, h3, r3⟩ := trodAll_cons r2
  obtain ⟨v4, vs4, d4, ds4, p4, q4, rfl, rfl, rfl, h4, r4⟩ := trodAll_cons r3
  obtain ⟨rfl, rfl, rfl⟩ := trodAll_nil r4
  obtain rfl : args = #[v0, v1, v2, v3, v4] := by cases args; simp_all
  obtain ⟨rfl, rfl⟩ := trodVars_none hV
  obtain ⟨a0, rfl, rfl, rfl, w0⟩ := open_int Try.underlying26 (hval 0 26 v0 rfl rfl) h0
  obtain ⟨a1, rfl, rfl, rfl, w1⟩ := open_int Try.underlying26 (hval 1 26 v1 rfl rfl) h1
  obtain ⟨a2, rfl, rfl, rfl, w2⟩ := open_int Try.underlying26 (hval 2 26 v2 rfl rfl) h2
  obtain ⟨a3, rfl, rfl, rfl, w3⟩ := open_int Try.underlying26 (hval 3 26 v3 rfl rfl) h3
  obtain ⟨a4, rfl, rfl, rfl, w4⟩ := open_int Try.underlying3 (hval 4 3 v4 rfl rfl) h4
  clear hA0 hval0
  refine (walk a0 a1 a2 a3 a4 W w0 w1 w2 w3 w4).mono fun e W' ⟨he, bel⟩ => ?_
  subst he
  exact ⟨_, rfl, _, _, _, [], _, [], hW', trodAll_mk1 (shut_bool Try.underlying4 _), (trodAll_cons_mk (shut_int Try.underlying26 w0) (trodAll_cons_mk (shut_int Try.underlying26 w1) (trodAll_cons_mk (shut_int Try.underlying26 w2) (trodAll_cons_mk (shut_int Try.underlying26 w3) (trodAll_cons_mk (shut_int Try.underlying3 w4) trodAll_mk0))))), rfl, bel.frame _, fun h => by cases h⟩
theorem over : Rows.markGarbageRow.holds Try.pinned (OpenSpec.ofChange Rows.markGarbageSpec) :=
  OpenClaim.holds_of_wide 6 Try.f6 rfl rfl rfl rfl rfl rfl rfl ⟨rfl, rfl, rfl, rfl, rfl⟩ rfl rfl rfl rfl rfl (by kernel_rfl) Try.func6 (by kernel_rfl)
    (of_decide_eq_true (by kernel_rfl)) (by unfold Func.isWrapper; first | (rw [if_pos (by decide +kernel)]; kernel_rfl) | (rw [if_neg (by decide +kernel)]; exact ⟨rfl, rfl⟩))
    (fun os started H enc _ => lifted os started H enc)
theorem proved : Rows.MarkGarbageSaid := over
end Go.Proofs.Ytbbinfdgmfmaeaa.markGarbage
