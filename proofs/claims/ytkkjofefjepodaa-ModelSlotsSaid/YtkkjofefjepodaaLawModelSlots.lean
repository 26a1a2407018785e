/- Proved here: vinculumlaw19.ModelSlots returns true and leaves its argument as it was, for any int; no further condition. -/
import Derived.Test.YtkkjofefjepodaaMdA
import Derived.Test.YtkkjofefjepodaaMoS
import Derived.ChangeOld
namespace Go.Proofs.Ytkkjofefjepodaa.modelSlots
open Go.ChangeShapes Go.WideShapes Go.ChangeAt Go.RowKit
set_option linter.unusedVariables false
def RelS (W : World) (n : Int) (m k : Nat) (iv : Value) (wr : World) : Prop := ∃ (S : Nat → Prop), (k : Int) ≤ n ∧ iv = .int .i64 k ∧ Md W wr m S (stS n k)
/-- An operation's box whose kind is set anew. -/
theorem kind_box (w : World) (a b c d e : Int) : ∃ W, (w.alloc (.cells #[.int .i64 a, .int .i64 b, .int .i64 c, .int .i64 d] 25)).setCell ⟨w.heap.size, 0, none⟩ (.int .i64 e) = W ∧ W.cell? ⟨w.heap.size, 0, none⟩ = some (.int .i64 e) ∧ W.cell? ⟨w.heap.size, 1, none⟩ = some (.int .i64 b) ∧ W.cell? ⟨w.heap.size, 2, none⟩ = some (.int .i64 c) ∧ W.cell? ⟨w.heap.size, 3, none⟩ = some (.int .i64 d) ∧ Keep (fun _ => False) w W := by
  obtain ⟨V, hV⟩ : ∃ V, w.alloc (.cells #[.int .i64 a, .int .i64 b, .int .i64 c, .int .i64 d] 25) = V := ⟨_, rfl⟩
  have c0 : V.cell? ⟨w.heap.size, 0, none⟩ = some (.int .i64 a) := by rw [← hV]; simp
  have c1 : V.cell? ⟨w.heap.size, 1, none⟩ = some (.int .i64 b) := by rw [← hV]; simp
  have c2 : V.cell? ⟨w.heap.size, 2, none⟩ = some (.int .i64 c) := by rw [← hV]; simp
  have c3 : V.cell? ⟨w.heap.size, 3, none⟩ = some (.int .i64 d) := by rw [← hV]; simp
  have kV : Keep (fun _ => False) w V := by rw [← hV]; exact (Keep.refl _ _).alloc _
  have k1 : Keep (fun g => g = w.heap.size) V (V.setCell ⟨w.heap.size, 0, none⟩ (.int .i64 e)) := (Keep.refl (fun g => g = w.heap.size) V).setCell (p := ⟨w.heap.size, 0, none⟩) rfl _
  rw [hV]
  refine ⟨_, rfl, ?_, ?_, ?_, ?_, kV.older' k1 (Nat.le_refl _)⟩
  · exact World.cell?_setCell_same _ _ _ c0
  · rw [World.cell?_setCell_other _ _ _ _ (by first | (simp; done) | (simp; omega))]; exact c1
  · rw [World.cell?_setCell_other _ _ _ _ (by first | (simp; done) | (simp; omega))]; exact c2
  · rw [World.cell?_setCell_other _ _ _ _ (by first | (simp; done) | (simp; omega))]; exact c3
set_option maxRecDepth 100000 in
set_option maxHeartbeats 16000000 in
theorem walk (a0 : Int) (w : World) (w0 : (Lit.int .i64 a0).wf = true) :
    Calls Try.prog 6 #[.int .i64 a0] w fun e w' => e = .returned (.bool true) ∧ Below w.heap.size w w' := by
  obtain ⟨m0, hm0⟩ : ∃ m0, a0 % 256 % 30 = m0 := ⟨_, rfl⟩
  obtain ⟨q0, h0, e0, f0, l0, l0', p0, p0', w00, w01⟩ := levN a0 30 m0 (by decide) (by decide) hm0
  have wsub : IntKind.i64.wrap (m0 + 1 - 1) = m0 := by rw [show m0 + 1 - 1 = m0 by omega]; exact w00
  clear w0 hm0
  go_enter Try.func6, Try.ntmps6
  go_wp2_with fail
  refine (md_new w (m0 + 1) 1000 (i64_n (by omega)) ⟨by omega, by omega⟩ (by unfold confI; exact decide_eq_true (by omega))).mono ?_
  rintro e y1 ⟨m, S1, rfl, M1⟩
  go_wp2
  go_loopg [5] 30 (fun mm iv wr => ∃ k : Nat, mm + k = 30 ∧ RelS w (m0 + 1) m k iv wr)
  case atStart => exact ⟨0, by omega, S1, by omega, rfl, M1⟩
  case round =>
    obtain ⟨k, hgk, S, k0, rfl, M2⟩ := hrel
    clear M1
    by_cases hlt : (k : Int) < m0 + 1
    · obtain ⟨y1, y2, y3, g1, g2, g3, g4, g5, g6, g7, g8, g9, g10, g11⟩ := round_st (n := m0 + 1) (i := k) (by omega) hlt
      have G1 := Lib.hid g1
      have G2 := Lib.hid g2
      have G3 := Lib.hid g3
      have G4 := Lib.hid g4
      have G5 := Lib.hid g5
      have G6 := Lib.hid g6
      have G7 := Lib.hid g7
      have G8 := Lib.hid g8
      have G9 := Lib.hid g9
      have G10 := Lib.hid g10
      have G11 := Lib.hid g11
      have dk : decide ((k : Int) < m0 + 1) = true := decide_eq_true hlt
      have wk : IntKind.i64.wrap ((k : Int) + 1) = (k : Int) + 1 := IntWalk.i64_in _ (by omega)
      clear g1 g2 g3 g4 g5 g6 g7 g8 g9 g10 g11
      go_wp2_with fail; refine (md_begin (M2.quiet (by repeat (first | exact Keep.refl _ _ | refine Keep.alloc ?_ _))) 0 1 (i64_n (by omega)) (i64_n (by omega)) ((k : Int) + 1) 0 y1 G2.out G1.out G3.out).mono ?_; rintro e w3 ⟨rfl, S3, M3, k3⟩; clear k3 M2
      by_cases hk0 : k = 0
      · subst hk0
        obtain ⟨WB, eWB, b0, b1, b2, b3, kB⟩ := kind_box w3 3 1 0 0 2
        rw [if_pos rfl] at G4 G5 G6
        go_wp2_with fail
        refine (md_res (M3.quiet kB) 0 2 1 0 0 (i64_n (by omega)) (i64_n (by omega)) (i64_n (by omega)) (i64_n (by omega)) (i64_n (by omega)) 0 0 0 [] 0 0 y2 G4.out G5.out G6.out).mono ?_
        rintro e w4 ⟨A4, q4, c4, S4, rfl, o4, n4, M4, k4⟩
        clear o4 n4 k4 M3
        go_wp2_with fail; refine (md_res (M4.quiet (by repeat (first | exact Keep.refl _ _ | refine Keep.alloc ?_ _))) 0 6 0 0 0 (i64_n (by omega)) (i64_n (by omega)) (i64_n (by omega)) (i64_n (by omega)) (i64_n (by omega)) 0 0 0 [] 3 0 y3 G7.out G8.out G9.out).mono ?_; rintro e w5 ⟨A5, q5, c5, S5, rfl, o5, n5, M5, k5⟩; have bx4 := md_box M4.lt k5; clear o5 n5 k5 M4
        obtain ⟨ba4, bb4, bc4, bd4, bz4, bs4⟩ := bx4
        go_wp2_with fail; refine (md_used (M5.quiet (by repeat (first | exact Keep.refl _ _ | refine Keep.alloc ?_ _))) 1 G11.out).mono ?_; rintro e w6 ⟨rfl, S6, M6, k6⟩; clear k6 M5
        go_wp2_with fail
        go_roundg (30 - (0 + 1))
        case measure => omega
        case rel => exact ⟨0 + 1, by omega, S6, by omega, by first | go_num | rfl, by rw [G10.out] at M6; exact M6⟩
      · rw [if_neg hk0] at G4 G5 G6
        have dk0 : ((k : Int) == 0) = false := by simpa using hk0
        go_wp2_with fail
        refine (md_res (M3.quiet ((Keep.refl _ _).alloc _)) 0 3 1 0 k (i64_n (by omega)) (i64_n (by omega)) (i64_n (by omega)) (i64_n (by omega)) (i64_n (by omega)) 0 0 0 [] 0 0 y2 G4.out G5.out G6.out).mono ?_
        rintro e w4 ⟨A4, q4, c4, S4, rfl, o4, n4, M4, k4⟩
        clear o4 n4 k4 M3
        go_wp2_with fail; refine (md_res (M4.quiet (by repeat (first | exact Keep.refl _ _ | refine Keep.alloc ?_ _))) 0 6 0 0 0 (i64_n (by omega)) (i64_n (by omega)) (i64_n (by omega)) (i64_n (by omega)) (i64_n (by omega)) 0 0 0 [] 3 0 y3 G7.out G8.out G9.out).mono ?_; rintro e w5 ⟨A5, q5, c5, S5, rfl, o5, n5, M5, k5⟩; have bx4 := md_box M4.lt k5; clear o5 n5 k5 M4
        obtain ⟨ba4, bb4, bc4, bd4, bz4, bs4⟩ := bx4
        go_wp2_with fail; refine (md_used (M5.quiet (by repeat (first | exact Keep.refl _ _ | refine Keep.alloc ?_ _))) ((k : Int) + 1) G11.out).mono ?_; rintro e w6 ⟨rfl, S6, M6, k6⟩; clear k6 M5
        go_wp2_with fail
        go_roundg (30 - (k + 1))
        case measure => omega
        case rel => exact ⟨k + 1, by omega, S6, by omega, by first | go_num | rfl, by rw [G10.out] at M6; exact M6⟩
    · obtain ⟨j, rfl⟩ : ∃ j, k = j + 1 := ⟨k - 1, by omega⟩
      obtain ⟨y1, y2, y3, g1, g2, g3, g4, g5, g6, g7, g8, g9, g10, g11, g12, g13⟩ := end_st (n := m0 + 1) j (by omega) (by omega)
      have hj : (j : Int) = m0 := by omega
      rw [hj] at g8 g9 g13
      have T : U64 (2 * ((j + 1 : Nat) : Int) + 1) := ⟨by omega, by omega⟩
      have dk : decide (((j + 1 : Nat) : Int) < m0 + 1) = false := decide_eq_false (by omega)
      have G1 := Lib.hid g1
      have G2 := Lib.hid g2
      have G3 := Lib.hid g3
      have G4 := Lib.hid g4
      have G5 := Lib.hid g5
      have G6 := Lib.hid g6
      have G7 := Lib.hid g7
      have G8 := Lib.hid g8
      have G9 := Lib.hid g9
      have G10 := Lib.hid g10
      have G11 := Lib.hid g11
      have G12 := Lib.hid g12
      have G13 := Lib.hid g13
      clear g1 g2 g3 g4 g5 g6 g7 g8 g9 g10 g11 g12 g13
      obtain ⟨tm, etm⟩ : ∃ tm, 2 * ((j + 1 : Nat) : Int) + 1 = tm := ⟨_, rfl⟩
      rw [etm] at T G12 G13
      go_wp2_with fail; refine (md_begin (M2.quiet (by repeat (first | exact Keep.refl _ _ | refine Keep.alloc ?_ _))) 0 1 (i64_n (by omega)) (i64_n (by omega)) (((j + 1 : Nat) : Int) + 1) 0 y1 G2.out G1.out G3.out).mono ?_; rintro e w3 ⟨rfl, S3, M3, k3⟩; clear k3 M2
      go_wp2_with fail; refine (md_res (M3.quiet (by repeat (first | exact Keep.refl _ _ | refine Keep.alloc ?_ _))) 0 2 2 0 1 (i64_n (by omega)) (i64_n (by omega)) (i64_n (by omega)) (i64_n (by omega)) (i64_n (by omega)) 0 14 0 [] 4 5 y2 G4.out G5.out G6.out).mono ?_; rintro e w4 ⟨A4, q4, c4, S4, rfl, o4, n4, M4, k4⟩; clear o4 n4 k4 M3
      go_wp2_with fail; refine (md_live (M4.quiet (by repeat (first | exact Keep.refl _ _ | refine Keep.alloc ?_ _))) [] G7.out).mono ?_; rintro e w5 ⟨u5, S5, rfl, o5, n5, M5, k5⟩; obtain ⟨A5, c5, rfl, _, _⟩ := OwnN.shapeN o5; clear M4
      go_wp2_with fail; refine (md_used (M5.quiet (by repeat (first | exact Keep.refl _ _ | refine Keep.alloc ?_ _))) (m0 + 1) G8.out).mono ?_; rintro e w6 ⟨rfl, S6, M6, k6⟩; clear k6 M5
      go_wp2_with fail; refine (md_collect (M6.quiet (by repeat (first | exact Keep.refl _ _ | refine Keep.alloc ?_ _))) m0 y3 G9.out G10.out).mono ?_; rintro e w7 ⟨rfl, S7, M7, k7⟩; clear k7 M6
      go_wp2_with fail; refine (md_used (M7.quiet (by repeat (first | exact Keep.refl _ _ | refine Keep.alloc ?_ _))) 1 G11.out).mono ?_; rintro e w8 ⟨rfl, S8, M8, k8⟩; clear k8 M7
      go_wp2_with fail; refine (md_now (M8.quiet (by repeat (first | exact Keep.refl _ _ | refine Keep.alloc ?_ _))) tm G12.out).mono ?_; rintro e w9 ⟨rfl, S9, M9, k9⟩; clear M8
      go_wp2_with fail; refine (md_pairs (M9.quiet (by repeat (first | exact Keep.refl _ _ | refine Keep.alloc ?_ _))) tm T [(1, m0)] G13.out).mono ?_; rintro e wA ⟨uA, SA, rfl, oA, nA, MA, kA⟩; clear kA M9
      go_wp2_with fail
      have ka : Keep (fun _ => False) wA (wA.alloc (.cells #[.int .i64 1, .int .i64 m0] 53)) := (Keep.refl _ _).alloc _
      refine (same_pr (oA.keep ka (fun _ _ => id)) (ownPr_lit wA [(1, m0)] _ rfl (by show 1 ≤ maxLen; unfold maxLen; decide)) (by show 1 ≤ 100000; decide)).mono ?_
      rintro e wB ⟨rfl, dB, rfl⟩
      have MB := MA.quiet (ka.trans (drewN_keep _ _ dB))
      clear MA oA nA
      go_wp2_with fail
      refine (awake19_any _).mono ?_
      rintro e wz ⟨rfl, bz⟩
      go_wp2
      go_ret
      exact ⟨rfl, MB.fin bz⟩
theorem own : ownKnob Try.prog.godebug = none := by kernel_rfl
theorem laidOut : laidOutB Try.prog = true := by kernel_rfl
set_option maxRecDepth 100000 in
theorem lifted (os : Os) (started : os.Started) (H : Type) (enc : TypeId × Value → H) :
    ReturnsInHanded {} Try.checked os 6 .any (Rows.modelSlotsSpec.pre6 enc Try.prog Try.f6 Rows.modelSlotsRow.domain false) (Rows.modelSlotsSpec.post enc Try.prog Try.f6 false true false false) := by
  refine returnsInHanded_of_change (C := Try.checked) own started (by kernel_rfl) Try.func6
    (ChangeSpec.witness6 (enc := enc) (C := Try.checked) false ⟨#[], #[.int .i64 0], []⟩ 8 (by kernel_rfl) (by kernel_rfl) (by kernel_rfl) (by kernel_rfl)) ?_
  intro W base args ds gs before hval0 hW hcnd _
  have hval : ∀ (j : Nat) t v, Try.f6.params[j]? = some t → args[j]? = some v → Value.okWide Try.prog W .any base t v := hval0
  have hW' := hW
  obtain ⟨p, q, hA0, hV, rfl, hfz, hnd⟩ := hW
  have hA : DataW.TrodAll enc Try.prog W 0 (fun _ => true) true Try.f6.params.toList args.toList ds p := hA0
  rw [Try.params6] at hA hval
  obtain ⟨v0, vs0, d0, ds0, p0, q0, hargs, rfl, rfl, h0, r0⟩ := trodAll_cons hA
  obtain ⟨rfl, rfl, rfl⟩ := trodAll_nil r0
  obtain rfl : args = #[v0] := by cases args; simp_all
  obtain ⟨rfl, rfl⟩ := trodVars_none hV
  obtain ⟨a0, rfl, rfl, rfl, w0⟩ := open_int Try.underlying3 (hval 0 3 v0 rfl rfl) h0
  clear hA0 hval0
  refine (walk a0 W w0).mono fun e W' ⟨he, bel⟩ => ?_
  subst he
  exact ⟨_, rfl, _, _, _, [], _, [], hW', trodAll_mk1 (shut_bool Try.underlying4 _), (trodAll_cons_mk (shut_int Try.underlying3 w0) trodAll_mk0), rfl, bel.frame _, fun h => by cases h⟩
theorem over : Rows.modelSlotsRow.holds Try.pinned (OpenSpec.ofChange Rows.modelSlotsSpec) :=
  OpenClaim.holds_of_wide 6 Try.f6 rfl rfl rfl rfl rfl rfl rfl ⟨rfl, rfl, rfl, rfl, rfl⟩ rfl rfl rfl rfl rfl (by kernel_rfl) Try.func6 (by kernel_rfl)
    (of_decide_eq_true (by kernel_rfl)) (by unfold Func.isWrapper; first | (rw [if_pos (by decide +kernel)]; kernel_rfl) | (rw [if_neg (by decide +kernel)]; exact ⟨rfl, rfl⟩))
    (fun os started H enc _ => lifted os started H enc)
theorem proved : Rows.ModelSlotsSaid := over
end Go.Proofs.Ytkkjofefjepodaa.modelSlots
