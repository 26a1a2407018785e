/- Proved here: vinculumlaw19.ModelTimes returns true and leaves its arguments as they were, for any int and any slice of ints; no further condition. -/
import Derived.Test.YtkkjofefjepodaaMdA
import Derived.Test.YtkkjofefjepodaaMoT
import Derived.Test.YtkkjofefjepodaaRow
import Derived.ChangeOld
import Derived.Deep.LoopGhost
import Derived.Deep.CutRange
import Derived.Deep.CutBlock
namespace Go.Proofs.Ytkkjofefjepodaa.modelTimes
open Go.ChangeShapes Go.WideShapes Go.ChangeAt Go.RowKit
set_option linter.unusedVariables false
theorem stat_live {x : MoI} {k : Nat} (hk : k < 8) (h : (x.s k).id ≠ 0) : x.statV k = .agg #[.bool true, .bool false, .bool false, .int .i64 (x.s k).id, .int .i64 (x.s k).level, .int .i64 1, .int .u64 (x.s k).start, .int .u64 0, .int .i64 (x.s k).ops] := by
  unfold MoI.statV
  rw [if_neg (by omega)]
  exact if_neg h
theorem stat_none {x : MoI} {k : Nat} (hk : k < 8) (h : (x.s k).id = 0) : x.statV k = .agg #[.bool false, .bool false, .bool false, .int .i64 0, .int .i64 0, .int .i64 0, .int .u64 0, .int .u64 0, .int .i64 0] := by
  unfold MoI.statV
  rw [if_neg (by omega)]
  exact if_pos h
theorem fld0 (l : Bool) (a b c d f : Int) (w : World) : (Instr.field 56 (.agg #[.bool l, .bool false, .bool false, .int .i64 a, .int .i64 b, .int .i64 c, .int .u64 d, .int .u64 0, .int .i64 f]) 0).run Try.prog w = .ok (.bool l) w := by kernel_rfl
theorem fld6 (l : Bool) (a b c d f : Int) (w : World) : (Instr.field 56 (.agg #[.bool l, .bool false, .bool false, .int .i64 a, .int .i64 b, .int .i64 c, .int .u64 d, .int .u64 0, .int .i64 f]) 6).run Try.prog w = .ok (.int .u64 d) w := by kernel_rfl
def Rel (W : World) (n : Int) (m n1 k : Nat) (nv iv : Value) (wr : World) : Prop := ∃ (S : Nat → Prop) (x : MoI) (now : Int), k ≤ n1 ∧ k ≤ 100 ∧ iv = .int .i64 k ∧ nv = .int .u64 now ∧ 0 ≤ now ∧ now ≤ n ∧ Tm n now x ∧ Md W wr m S x
set_option maxRecDepth 100000 in
set_option maxHeartbeats 16000000 in
theorem walk (a0 : Int) (a1 : Option Addr) (n1 c1 : Nat) (z1 : List Int) (w : World) (w0 : (Lit.int .i64 a0).wf = true) (w1 : IsRow .i64 w a1 n1 c1 z1) :
    Calls Try.prog 7 #[.int .i64 a0, .slice a1 n1 c1] w fun e w' => e = .returned (.bool true) ∧ Below w.heap.size w w' := by
  have FL0 := fld0
  have FL6 := fld6
  have lc1 := w1.cell
  have x1 := w1.max
  have i1 : ∀ j, -9223372036854775808 ≤ z1.getD j 0 ∧ z1.getD j 0 ≤ 9223372036854775807 := fun j => by have := range_i64 w1.wf j; rwa [List.getD_eq_getElem?_getD]
  obtain ⟨m0, hm0⟩ : ∃ m0, a0 % 256 % 60 = m0 := ⟨_, rfl⟩
  obtain ⟨q0, h0, e0, f0, l0, l0', p0, p0', w00, w01⟩ := levN a0 60 m0 (by decide) (by decide) hm0
  have T0 := Lib.hid (tm_new (m0 + 1) (by omega))
  clear w0 w1 hm0
  go_enter Try.func7, Try.ntmps7
  go_wp2_with fail
  refine (md_new w 5 (m0 + 1) (i64_n (by omega)) ⟨by omega, by omega⟩ (by unfold confI; exact decide_eq_true (by omega))).mono ?_
  rintro e y1 ⟨m, S1, rfl, M1⟩
  go_wp2
  go_loopg [8, 9] 100 (fun mm nv i wr => ∃ k : Nat, mm + k = 100 ∧ Rel w (m0 + 1) m n1 k nv i wr)
  case atStart => exact ⟨0, by omega, S1, _, 0, by omega, by omega, rfl, rfl, by omega, by omega, T0.out, M1⟩
  case round =>
    obtain ⟨k, hgk, S, x, now, k0, k1, rfl, rfl, b0, b1, T, M2⟩ := hrel
    clear M1 T0
    by_cases hlt : k < n1 ∧ k < 100
    · obtain ⟨hl1, h100⟩ := hlt
      obtain ⟨b, off, rfl, hb, hc⟩ := lc1 (by omega)
      have e1 := hc k (by omega)
      have ua := i1 k
      obtain ⟨a, ea⟩ : ∃ a, z1.getD k 0 = a := ⟨_, rfl⟩
      rw [ea] at e1 ua
      have d1 := (M2.b.cell (p := ⟨b, off + k, none⟩) hb).trans e1
      have wk : IntKind.i64.wrap ((k : Int) + 1) = (k : Int) + 1 := IntWalk.i64_in _ (by omega)
      have dk : decide ((k : Int) < 100) = true := decide_eq_true (by omega)
      have hm := i64_mask a 3 (by decide)
      change bits .and .i64 a 7 = a % 8 at hm
      obtain ⟨kk, ek⟩ : ∃ kk : Nat, a % 8 = (kk : Int) := ⟨(a % 8).toNat, by omega⟩
      have k8 : kk < 8 := by omega
      rw [ek] at hm
      clear ea hc lc1 i1 ek ua
      by_cases hid : (x.s kk).id = 0
      · have st := stat_none k8 hid
        by_cases ht : now < m0 + 1
        · obtain ⟨y, id, hy⟩ := tm_beg_in T k8 hid ht
          obtain ⟨g1, g2, g3, g4, g5, g6⟩ := hy.resolve_right (by have := M2.gd.made; omega)
          have st2 := stat_live k8 (by rw [g5]; exact g6)
          rw [g5] at st2
          have ST := Lib.hid st
          have ST2 := Lib.hid st2
          have G1 := Lib.hid g1
          have G2 := Lib.hid g2
          have G3 := Lib.hid g3
          clear st st2 g1 g2 g3 g5 g6 hy hid
          dsimp only at ST2
          go_wp2_with fail; refine (md_status (M2.quiet (by repeat (first | exact Keep.refl _ _ | refine Keep.alloc ?_ _))) kk (i64_n (by omega)) _ ST.out).mono ?_; rintro e w3 ⟨rfl, S3, M3, k3⟩; clear k3 M2
          go_wp2_with fail
          refine (md_begin (M3.quiet (by repeat (first | exact Keep.refl _ _ | refine Keep.alloc ?_ _))) kk 1 (i64_n (by omega)) (i64_n (by omega)) id 0 y G1.out G2.out G3.out).mono ?_
          rintro e w4 ⟨rfl, S4, M4, k4⟩
          clear k4 M3
          go_wp2_with fail; refine (md_status (M4.quiet (by repeat (first | exact Keep.refl _ _ | refine Keep.alloc ?_ _))) kk (i64_n (by omega)) _ ST2.out).mono ?_; rintro e w5 ⟨rfl, S5, M5, k5⟩; clear k5 M4
          go_wp2_with fail; refine (md_now (M5.quiet (by repeat (first | exact Keep.refl _ _ | refine Keep.alloc ?_ _))) (now + 1) g4.t).mono ?_; rintro e wN ⟨rfl, SN, MN, kN⟩; clear kN M5; go_wp2_with fail; go_roundg (100 - (k + 1)); (case measure => omega); (case rel => exact ⟨k + 1, by omega, SN, y, (now + 1), by omega, by omega, by go_num, rfl, by omega, by omega, g4, MN⟩)
        · obtain ⟨g1, g2, g3⟩ := tm_beg_out T k8 hid ht
          have ST := Lib.hid st
          have G1 := Lib.hid g1
          have G2 := Lib.hid g2
          have G3 := Lib.hid g3
          obtain ⟨y, hy⟩ : ∃ y, x = y := ⟨_, rfl⟩
          clear st g1 g2 g3 hid
          go_wp2_with fail; refine (md_status (M2.quiet (by repeat (first | exact Keep.refl _ _ | refine Keep.alloc ?_ _))) kk (i64_n (by omega)) _ ST.out).mono ?_; rintro e w3 ⟨rfl, S3, M3, k3⟩; clear k3 M2
          go_wp2_with fail
          refine (md_begin (M3.quiet (by repeat (first | exact Keep.refl _ _ | refine Keep.alloc ?_ _))) kk 1 (i64_n (by omega)) (i64_n (by omega)) 0 16 x G1.out G2.out G3.out).mono ?_
          rintro e w4 ⟨rfl, S4, M4, k4⟩
          clear k4 M3
          subst hy
          go_wp2_with fail
          refine (md_now (M4.quiet (by repeat (first | exact Keep.refl _ _ | refine Keep.alloc ?_ _))) now T.t).mono ?_
          rintro e wN ⟨rfl, SN, MN, kN⟩
          clear kN M4
          go_wp2_with fail
          go_roundg (100 - (k + 1))
          case measure => omega
          case rel => exact ⟨k + 1, by omega, SN, x, now, by omega, by omega, by go_num, rfl, by omega, by omega, T, MN⟩
      · have st := stat_live k8 hid
        by_cases ht : now < m0 + 1
        · obtain ⟨y, g1, g2, g3, g4⟩ := tm_live_in T k8 hid ht
          have ST := Lib.hid st
          have G1 := Lib.hid g1
          have G2 := Lib.hid g2
          have G3 := Lib.hid g3
          clear st g1 g2 g3 hid
          go_wp2_with fail; refine (md_status (M2.quiet (by repeat (first | exact Keep.refl _ _ | refine Keep.alloc ?_ _))) kk (i64_n (by omega)) _ ST.out).mono ?_; rintro e w3 ⟨rfl, S3, M3, k3⟩; clear k3 M2
          go_wp2_with fail; refine (md_res (M3.quiet (by repeat (first | exact Keep.refl _ _ | refine Keep.alloc ?_ _))) kk 6 0 0 0 (i64_n (by omega)) (i64_n (by omega)) (i64_n (by omega)) (i64_n (by omega)) (i64_n (by omega)) 0 0 0 [] 3 0 y G1.out G2.out G3.out).mono ?_; rintro e w4 ⟨A4, q4, c4, S4, rfl, o4, n4, M4, k4⟩; clear o4 n4 k4 M3
          go_wp2_with fail; refine (md_now (M4.quiet (by repeat (first | exact Keep.refl _ _ | refine Keep.alloc ?_ _))) (now + 1) g4.t).mono ?_; rintro e wN ⟨rfl, SN, MN, kN⟩; clear kN M4; go_wp2_with fail; go_roundg (100 - (k + 1)); (case measure => omega); (case rel => exact ⟨k + 1, by omega, SN, y, (now + 1), by omega, by omega, by go_num, rfl, by omega, by omega, g4, MN⟩)
        · obtain ⟨y, g1, g2, g3, g4⟩ := tm_live_out T k8 hid ht
          have ST := Lib.hid st
          have G1 := Lib.hid g1
          have G2 := Lib.hid g2
          have G3 := Lib.hid g3
          clear st g1 g2 g3 hid
          go_wp2_with fail; refine (md_status (M2.quiet (by repeat (first | exact Keep.refl _ _ | refine Keep.alloc ?_ _))) kk (i64_n (by omega)) _ ST.out).mono ?_; rintro e w3 ⟨rfl, S3, M3, k3⟩; clear k3 M2
          go_wp2_with fail; refine (md_res (M3.quiet (by repeat (first | exact Keep.refl _ _ | refine Keep.alloc ?_ _))) kk 6 0 0 0 (i64_n (by omega)) (i64_n (by omega)) (i64_n (by omega)) (i64_n (by omega)) (i64_n (by omega)) 0 14 0 [] 4 6 y G1.out G2.out G3.out).mono ?_; rintro e w4 ⟨A4, q4, c4, S4, rfl, o4, n4, M4, k4⟩; clear o4 n4 k4 M3
          go_wp2_with fail; refine (md_now (M4.quiet (by repeat (first | exact Keep.refl _ _ | refine Keep.alloc ?_ _))) now g4.t).mono ?_; rintro e wN ⟨rfl, SN, MN, kN⟩; clear kN M4; go_wp2_with fail; go_roundg (100 - (k + 1)); (case measure => omega); (case rel => exact ⟨k + 1, by omega, SN, y, now, by omega, by omega, by go_num, rfl, by omega, by omega, g4, MN⟩)
    · rcases (by omega : k = n1 ∨ (k < n1 ∧ k = 100)) with rfl | ⟨h1, rfl⟩
      all_goals
        go_wp2_with fail
        refine (awake19_any _).mono ?_
        rintro e y6 ⟨rfl, b6⟩
        go_wp2
        go_ret
        exact ⟨rfl, M2.fin b6⟩
theorem own : ownKnob Try.prog.godebug = none := by kernel_rfl
theorem laidOut : laidOutB Try.prog = true := by kernel_rfl
set_option maxRecDepth 100000 in
theorem lifted (os : Os) (started : os.Started) (H : Type) (enc : TypeId × Value → H) :
    ReturnsInHanded {} Try.checked os 7 .any (Rows.modelTimesSpec.pre6 enc Try.prog Try.f7 Rows.modelTimesRow.domain false) (Rows.modelTimesSpec.post enc Try.prog Try.f7 false true false false) := by
  refine returnsInHanded_of_change (C := Try.checked) own started (by kernel_rfl) Try.func7
    (ChangeSpec.witness6 (enc := enc) (C := Try.checked) false ⟨#[], #[.int .i64 0, .slice none 0 0], []⟩ 8 (by kernel_rfl) (by kernel_rfl) (by kernel_rfl) (by kernel_rfl)) ?_
  intro W base args ds gs before hval0 hW hcnd _
  have hval : ∀ (j : Nat) t v, Try.f7.params[j]? = some t → args[j]? = some v → Value.okWide Try.prog W .any base t v := hval0
  have hW' := hW
  obtain ⟨p, q, hA0, hV, rfl, hfz, hnd⟩ := hW
  have hA : DataW.TrodAll enc Try.prog W 0 (fun _ => true) true Try.f7.params.toList args.toList ds p := hA0
  rw [Try.params7] at hA hval
  obtain ⟨v0, vs0, d0, ds0, p0, q0, hargs, rfl, rfl, h0, r0⟩ := trodAll_cons hA
  obtain ⟨v1, vs1, d1, ds1, p1, q1, rfl, rfl, rfl, h1, r1⟩ := trodAll_cons r0
  obtain ⟨rfl, rfl, rfl⟩ := trodAll_nil r1
  obtain rfl : args = #[v0, v1] := by cases args; simp_all
  obtain ⟨rfl, rfl⟩ := trodVars_none hV
  obtain ⟨a0, rfl, rfl, rfl, w0⟩ := open_int Try.underlying3 (hval 0 3 v0 rfl rfl) h0
  obtain ⟨a1, len1, cap1, rfl⟩ := okWide_slice Try.underlying41 (hval 1 41 v1 rfl rfl)
  have k1 := h1
  have lt1 : ∀ x ∈ p1, x.block < W.heap.size := by obtain ⟨m, hm⟩ := k1; exact DataW.trod_lt m _ _ _ hm
  obtain ⟨z1, w1⟩ : ∃ zs, IsRow .i64 W a1 len1 cap1 zs := is_row Try.underlying41 Try.underlying3 (by kernel_rfl) h1
  clear hA0 hval0
  refine (walk a0 a1 len1 cap1 z1 W w0 w1).mono fun e W' ⟨he, bel⟩ => ?_
  subst he
  exact ⟨_, rfl, _, _, _, [], _, [], hW', trodAll_mk1 (shut_bool Try.underlying4 _), (trodAll_cons_mk (shut_int Try.underlying3 w0) (trodAll_cons_mk (Below.trod laidOut (by kernel_rfl) (of_decide_eq_true (by kernel_rfl)) k1 bel lt1) trodAll_mk0)), rfl, bel.frame _, fun h => by cases h⟩
theorem over : Rows.modelTimesRow.holds Try.pinned (OpenSpec.ofChange Rows.modelTimesSpec) :=
  OpenClaim.holds_of_wide 7 Try.f7 rfl rfl rfl rfl rfl rfl rfl ⟨rfl, rfl, rfl, rfl, rfl⟩ rfl rfl rfl rfl rfl (by kernel_rfl) Try.func7 (by kernel_rfl)
    (of_decide_eq_true (by kernel_rfl)) (by unfold Func.isWrapper; first | (rw [if_pos (by decide +kernel)]; kernel_rfl) | (rw [if_neg (by decide +kernel)]; exact ⟨rfl, rfl⟩))
    (fun os started H enc _ => lifted os started H enc)
theorem proved : Rows.ModelTimesSaid := over
end Go.Proofs.Ytkkjofefjepodaa.modelTimes
