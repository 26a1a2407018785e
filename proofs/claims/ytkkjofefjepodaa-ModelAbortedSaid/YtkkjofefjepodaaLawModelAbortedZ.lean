/- Proved here: vinculumlaw19.ModelAborted returns true and leaves its arguments as they were, for any int and any slice of Ops; no further condition. -/
import Derived.Test.YtkkjofefjepodaaModelBaseZao
import Derived.Test.YtkkjofefjepodaaLawModelAbortedZaa
import Derived.Test.YtkkjofefjepodaaModelBaseZab
import Derived.ChangeOld
import Derived.Deep.LoopGhost
import Derived.Deep.CutRange
import Derived.Deep.CutBlock
namespace Go.Proofs.Ytkkjofefjepodaa.modelAborted
open Go.ChangeShapes Go.WideShapes Go.ChangeAt Go.RowKit
set_option linter.unusedVariables false
set_option linter.unusedSimpArgs false
theorem cl_keep {w w' : World} {S : Nat → Prop} {b i : Nat} {o : OpI} (h : ClAt w b i o) (k : Keep S w w') (hn : ¬ S b) : ClAt w' b i o := ⟨k.cell h.c0 hn, k.cell h.c1 hn, k.cell h.c2 hn, k.cell h.c3 hn⟩
theorem op_set {w : World} {N : Nat} {o : OpI} (B : OpAt w N o) (o' : OpI) :
  ∃ W, ((((w.setCell ⟨N, 0, none⟩ (.int .i64 o'.kind)).setCell ⟨N, 1, none⟩ (.int .i64 o'.key)).setCell ⟨N, 2, none⟩ (.int .i64 o'.hi)).setCell ⟨N, 3, none⟩ (.int .i64 o'.val)) = W ∧ OpAt W N o' ∧ Keep (fun g => g = N) w W := by
 obtain ⟨c0, c1, c2, c3⟩ := B
 have K : ∀ (w : World) (j : Nat) (x : Value), Keep (fun g => g = N) w (w.setCell ⟨N, j, none⟩ x) := fun w j x => (Keep.refl (fun g => g = N) w).setCell (p := ⟨N, j, none⟩) rfl _
 refine ⟨_, rfl, ⟨?_, ?_, ?_, ?_⟩, (((K _ 0 _).trans (K _ 1 _)).trans (K _ 2 _)).trans (K _ 3 _)⟩
 ·rw [World.cell?_setCell_other _ _ _ _ (by first | (simp; done) | (simp; omega)), World.cell?_setCell_other _ _ _ _ (by first | (simp; done) | (simp; omega)), World.cell?_setCell_other _ _ _ _ (by first | (simp; done) | (simp; omega))]; exact World.cell?_setCell_same _ _ _ c0
 ·rw [World.cell?_setCell_other _ _ _ _ (by first | (simp; done) | (simp; omega)), World.cell?_setCell_other _ _ _ _ (by first | (simp; done) | (simp; omega))]; exact World.cell?_setCell_same _ _ _ (by rw [World.cell?_setCell_other _ _ _ _ (by first | (simp; done) | (simp; omega))]; exact c1)
 ·rw [World.cell?_setCell_other _ _ _ _ (by first | (simp; done) | (simp; omega))]; exact World.cell?_setCell_same _ _ _ (by rw [World.cell?_setCell_other _ _ _ _ (by first | (simp; done) | (simp; omega)), World.cell?_setCell_other _ _ _ _ (by first | (simp; done) | (simp; omega))]; exact c2)
 ·exact World.cell?_setCell_same _ _ _ (by rw [World.cell?_setCell_other _ _ _ _ (by first | (simp; done) | (simp; omega)), World.cell?_setCell_other _ _ _ _ (by first | (simp; done) | (simp; omega)), World.cell?_setCell_other _ _ _ _ (by first | (simp; done) | (simp; omega))]; exact c3)
theorem op_set3 {w : World} {N : Nat} {o : OpI} (B : OpAt w N o) (v : Int) : ∃ W, w.setCell ⟨N, 3, none⟩ (.int .i64 v) = W ∧ OpAt W N { o with val := v } ∧ Keep (fun g => g = N) w W := by
 obtain ⟨c0, c1, c2, c3⟩ := B
 refine ⟨_, rfl, ⟨?_, ?_, ?_, ?_⟩, (Keep.refl (fun g => g = N) w).setCell (p := ⟨N, 3, none⟩) rfl _⟩
 ·rw [World.cell?_setCell_other _ _ _ _ (by first | (simp; done) | (simp; omega))]; exact c0
 ·rw [World.cell?_setCell_other _ _ _ _ (by first | (simp; done) | (simp; omega))]; exact c1
 ·rw [World.cell?_setCell_other _ _ _ _ (by first | (simp; done) | (simp; omega))]; exact c2
 ·exact World.cell?_setCell_same _ _ _ c3
def Rel1 (W : World) (m n1 : Nat) (b : Int) (k : Nat) (iv : Value) (wr : World) : Prop := ∃ (S : Nat → Prop) (x : MoI), k ≤ n1 ∧ k ≤ 12 ∧ iv = .int .i64 k ∧ Ab b k x ∧ Md W wr m S x
def Rel2 (W : World) (m : Nat) (b : Int) (D : List VrI) (k : Nat) (iv : Value) (wr : World) : Prop := ∃ (S : Nat → Prop), k ≤ 8 ∧ iv = .int .i64 k ∧ Md W wr m S (gB b D k)
set_option maxRecDepth 100000 in
set_option maxHeartbeats 16000000 in
theorem walk (a0 : Int) (a1 : Option Addr) (n1 c1 : Nat) (z1 : Nat → OpI) (w : World) (w0 : (Lit.int .i64 a0).wf = true) (w1 : IsCl w a1 n1 c1 z1) :
  Calls Try.prog 10 #[.int .i64 a0, .slice a1 n1 c1] w fun e w' => e = .returned (.bool true) ∧ Below w.heap.size w w' := by
 have x1 := w1.max
 have lc1 := w1.cell
 have lo1 := w1.ok
 obtain ⟨q0, b, hq1, hq2, hq3, l0, l2, q00, q01, lw, lw1⟩ := lev a0
 have P0 := pair_any 1 (b + 1) (by omega) (by omega) w
 rw [pair_lit (by omega) (by omega)] at P0
 have P := Lib.hid P0
 have T0 := Lib.hid (ab_new (b + 1))
 clear w0 w1 P0
 go_enter Try.func10, Try.ntmps10
 go_wp2_with fail
 refine P.out.mono ?_
 rintro e y1 ⟨m, S1, rfl, M1⟩
 go_wp2
 go_loopg [6] 12 (fun mm iv wr => ∃ k : Nat, mm + k = 12 ∧ Rel1 w m n1 (b + 1) k iv wr)
 case atStart => exact ⟨0, by omega, S1, _, by omega, by omega, rfl, T0.out, M1⟩
 case round =>
  obtain ⟨k, hgk, S, x, k0, k12, rfl, R, M2⟩ := hrel
  clear M1 T0
  by_cases hlt : k < n1 ∧ k < 12
  ·obtain ⟨hl, h12⟩ := hlt
   obtain ⟨bb, off, rfl, hbl, hc⟩ := lc1 (by omega)
   have ob := lo1 k hl
   have oc := cl_keep (hc k hl) (Keep.of_below (Below.mono M2.b (Nat.le_refl _)) (fun _ => False)) id
   obtain ⟨o, eo⟩ : ∃ o, z1 k = o := ⟨_, rfl⟩
   rw [eo] at ob oc
   clear eo hc lc1 lo1
   obtain ⟨ok, oy, oh, ov⟩ := o
   obtain ⟨oc0, oc1, oc2, oc3⟩ := oc
   obtain ⟨b0, b1, b2, b3⟩ := ob
   dsimp only at b0 b1 b2 b3 oc0 oc1 oc2 oc3
   have wk : IntKind.i64.wrap ((k : Int) + 1) = (k : Int) + 1 := IntWalk.i64_in _ (by omega)
   have dk : decide ((k : Int) < 12) = true := decide_eq_true (by omega)
   obtain ⟨q, l, hk1, hk2, hk3, hl0, hl2, hq0, hqq, hlw, hlw1⟩ := lev ok
   have wl2 : IntKind.i64.wrap (l + 2) = l + 2 := IntWalk.i64_in _ (by omega)
   have m7 := i64_mask oy 3 (by decide)
   change bits .and .i64 oy 7 = oy % 8 at m7
   have mv := i64_mask ov 8 (by decide)
   change bits .and .i64 ov 255 = ov % 256 at mv
   obtain ⟨key, ek⟩ : ∃ key, oy % 8 = key := ⟨_, rfl⟩
   obtain ⟨v, ev⟩ : ∃ v, ov % 256 = v := ⟨_, rfl⟩
   have kb : 0 ≤ key ∧ key ≤ 7 ∧ 0 ≤ v ∧ v ≤ 255 := by omega
   rw [ek] at m7
   rw [ev] at mv
   clear ek ev
   go_upto_region 9 with fail
   obtain ⟨V, eV, B0, kV⟩ := op_box wr ⟨ok, oy, oh, ov⟩
   have hz : ∀ i, (wr.alloc (.cells #[.int .i64 ok, .int .i64 oy, .int .i64 oh, .int .i64 ov] 25)).frozen? ⟨wr.heap.size, i, none⟩ = false := fun i => by simp
   have hN : ¬ S wr.heap.size := fun e => absurd (M2.lt _ e) (Nat.lt_irrefl _)
   have hNW : w.heap.size ≤ wr.heap.size := M2.b.size
   obtain ⟨N, eN⟩ : ∃ N, wr.heap.size = N := ⟨_, rfl⟩
   dsimp only at eV
   rw [eV] at hz ⊢
   rw [eN] at B0 hN hNW hz ⊢
   have M3 := M2.quiet kV
   clear eV eN kV M2 oc0 oc1 oc2 oc3 b0 b1 b2 b3
   by_cases h2 : l = 2
   ·subst h2
    obtain ⟨V2, eV2, B2, k2⟩ := op_set B0 ⟨4, key, 0, v⟩
    have M4 := M3.own k2 (fun g hg => by rw [hg]; exact ⟨hN, hNW⟩)
    have hz2 : ∀ i, V2.frozen? ⟨N, i, none⟩ = false := fun i => by rw [← eV2]; simp only [World.frozen?_setCell]; exact hz i
    obtain ⟨d0, d1, d2, d3⟩ := B0; dsimp only at d0 d1 d2 d3
    dsimp only at eV2
    obtain ⟨V3, eV3, B3, k3⟩ := op_set3 B2 0
    have M5 := M4.own k3 (fun g hg => by rw [hg]; exact ⟨hN, hNW⟩)
    obtain ⟨y, ve, g1, g2, g3, g4⟩ := ab_write R h12 (o := ⟨4, key, 0, 0⟩) (by unfold okI; simp; omega) (by simp)
    have G1 := Lib.hid g1
    have G2 := Lib.hid g2
    have G3 := Lib.hid g3
    have G4 := Lib.hid g4
    clear g1 g2 g3 g4 R M3 M4
    obtain ⟨f0, f1, f2, f3⟩ := B2
    obtain ⟨e0, e1, e2, e3⟩ := B3
    dsimp only at f0 f1 f2 f3 e0 e1 e2 e3
    go_wp2_with fail
    refine (md_res M5 0 4 key 0 0 (i64_n (by omega)) (i64_n (by omega)) (i64_n (by omega)) (i64_n (by omega)) (i64_n (by omega)) 0 ve 0 [] 0 0 y G1.out G2.out G3.out).mono ?_; rintro e w4 ⟨A4, q4, c4, S4, rfl, o4, n4, M4, k4⟩; clear o4 n4 k4; go_wp2_with fail; go_roundg (12 - (k + 1)); (case measure => omega); (case rel => exact ⟨k + 1, by omega, S4, y, by omega, by omega, by go_num, G4.out, M4.quiet ((Keep.refl _ _).alloc _)⟩)
   ·obtain ⟨V2, eV2, B2, k2⟩ := op_set B0 ⟨l + 2, key, 0, v⟩
    have M4 := M3.own k2 (fun g hg => by rw [hg]; exact ⟨hN, hNW⟩)
    have hz2 : ∀ i, V2.frozen? ⟨N, i, none⟩ = false := fun i => by rw [← eV2]; simp only [World.frozen?_setCell]; exact hz i
    obtain ⟨d0, d1, d2, d3⟩ := B0; dsimp only at d0 d1 d2 d3
    dsimp only at eV2
    have e4 : (l + 2 == 4) = false := by simpa using (show ¬ (l + 2 = 4) by omega)
    obtain ⟨y, ve, g1, g2, g3, g4⟩ := ab_write R h12 (o := ⟨l + 2, key, 0, v⟩) (okv (by omega) (by omega) (by omega)) (by show l + 2 = 2 ∨ l + 2 = 3 ∨ l + 2 = 4; omega)
    have G1 := Lib.hid g1
    have G2 := Lib.hid g2
    have G3 := Lib.hid g3
    have G4 := Lib.hid g4
    clear g1 g2 g3 g4 R M3
    obtain ⟨f0, f1, f2, f3⟩ := B2
    dsimp only at f0 f1 f2 f3
    go_wp2_with fail
    refine (md_res M4 0 (l + 2) key 0 v (i64_n (by omega)) (i64_n (by omega)) (i64_n (by omega)) (i64_n (by omega)) (i64_n (by omega)) 0 ve 0 [] 0 0 y G1.out G2.out G3.out).mono ?_; rintro e w4 ⟨A4, q4, c4, S4, rfl, o4, n4, M4, k4⟩; clear o4 n4 k4; go_wp2_with fail; go_roundg (12 - (k + 1)); (case measure => omega); (case rel => exact ⟨k + 1, by omega, S4, y, by omega, by omega, by go_num, G4.out, M4.quiet ((Keep.refl _ _).alloc _)⟩)
  ·obtain ⟨D, d1, d2, d3, hD, d4⟩ := ab_over R k12
   obtain ⟨L, eL⟩ : ∃ L : Int, (x.v.length : Int) = L := ⟨_, rfl⟩
   have eL2 : ((gB (b + 1) D 0).v.length : Int) = L := by rw [d4]; exact eL
   have D1 := Lib.hid d1
   have D2 := Lib.hid d2
   have D3 := Lib.hid d3
   have HD := Lib.hid hD
   have EL := Lib.hid eL
   have EL2 := Lib.hid eL2
   clear d1 d2 d3 d4 hD eL eL2 lc1 lo1 R
   rcases (by omega : k = n1 ∨ (k < n1 ∧ k = 12)) with rfl | ⟨h1, rfl⟩
   ·go_wp2_with fail; refine (md_used (M2.quiet (by repeat (first | exact Keep.refl _ _ | refine Keep.alloc ?_ _))) L EL.out).mono ?_; rintro e w3 ⟨rfl, S3, M3, k3⟩; clear k3 M2
    go_wp2_with fail; refine (md_res (M3.quiet (by repeat (first | exact Keep.refl _ _ | refine Keep.alloc ?_ _))) 0 7 0 0 0 (i64_n (by omega)) (i64_n (by omega)) (i64_n (by omega)) (i64_n (by omega)) (i64_n (by omega)) 0 0 0 [] 4 1 (gB (b + 1) D 0) D1.out D2.out D3.out).mono ?_; rintro e w4 ⟨A4, q4, c4, S4, rfl, o4, n4, M4, k4⟩; clear o4 n4 k4 M3
    go_wp2_with fail; refine (md_used (M4.quiet (by repeat (first | exact Keep.refl _ _ | refine Keep.alloc ?_ _))) L EL2.out).mono ?_; rintro e w5 ⟨rfl, S5, M5, k5⟩; clear k5 M4
    go_wp2
    go_loopg [13] 8 (fun mm iv wr => ∃ j : Nat, mm + j = 8 ∧ Rel2 w m (b + 1) D j iv wr)
    case atStart => exact ⟨0, by omega, S5, by omega, rfl, M5⟩
    case round =>
     clear M5
     obtain ⟨j, hgj, S, j8, rfl, M2⟩ := hrel
     by_cases hj : j < 8
     ·have dj : decide ((j : Int) < 8) = true := decide_eq_true (by omega)
      have wj : IntKind.i64.wrap ((j : Int) + 1) = (j : Int) + 1 := IntWalk.i64_in _ (by omega)
      obtain ⟨g1, g2⟩ := gB_get (b := b + 1) HD.out hj
      have G1 := Lib.hid g1
      have G2 := Lib.hid g2
      clear g1 g2
      have cw : (wr.alloc (.cells #[.int .i64 (-1), .int .i64 10, .int .i64 20, .int .i64 (-1), .int .i64 (-1), .int .i64 (-1), .int .i64 (-1), .int .i64 (-1)] 3)).cell? ⟨wr.heap.size, j, none⟩ = some (.int .i64 (wantB j)) := by
       rcases (by omega : j = 0 ∨ j = 1 ∨ j = 2 ∨ j = 3 ∨ j = 4 ∨ j = 5 ∨ j = 6 ∨ j = 7) with rfl | rfl | rfl | rfl | rfl | rfl | rfl | rfl <;> simp [wantB]
      go_wp2_with fail
      refine (get_any (M2.quiet (by repeat (first | exact Keep.refl _ _ | refine Keep.alloc ?_ _))) 1 j (i64_n (by omega)) (i64_n (by omega)) (wantB j) (gB (b + 1) D (j + 1)) (show getI _ _ _ = _ from G1.out) G2.out).mono ?_
      rintro e w6 ⟨rfl, S6, M6, k6⟩
      clear k6 M2
      go_wp2_with fail
      go_roundg (8 - (j + 1))
      case measure => omega
      case rel => exact ⟨j + 1, by omega, S6, by omega, by go_num, M6⟩
     ·obtain rfl : j = 8 := by omega
      obtain ⟨u1, u2, u3⟩ := B_upd (b := b + 1) HD.out
      obtain ⟨i1, i2, i3⟩ := B_ins (b := b + 1) HD.out
      obtain ⟨p1, p2, p3⟩ := B_com (b := b + 1) HD.out
      obtain ⟨r1, r2, r3, r4⟩ := B_end HD.out
      have U1 := Lib.hid u1
      have U2 := Lib.hid u2
      have U3 := Lib.hid u3
      have I1 := Lib.hid i1
      have I2 := Lib.hid i2
      have I3 := Lib.hid i3
      have P1 := Lib.hid p1
      have P2 := Lib.hid p2
      have P3 := Lib.hid p3
      have R1 := Lib.hid r1
      have R2 := Lib.hid r2
      have R3 := Lib.hid r3
      have R4 := Lib.hid r4
      clear u1 u2 u3 i1 i2 i3 p1 p2 p3 r1 r2 r3 r4 hgj j8 hj
      go_wp2_with fail; refine (md_res (M2.quiet (by repeat (first | exact Keep.refl _ _ | refine Keep.alloc ?_ _))) 1 3 1 0 77 (i64_n (by omega)) (i64_n (by omega)) (i64_n (by omega)) (i64_n (by omega)) (i64_n (by omega)) 0 0 0 [] 0 0 (uB (b + 1) D) U1.out U2.out U3.out).mono ?_; rintro e w3 ⟨A3, q3, c3, S3, rfl, o3, n3, M3, k3⟩; clear o3 n3 k3 M2
      go_wp2_with fail; refine (md_res (M3.quiet (by repeat (first | exact Keep.refl _ _ | refine Keep.alloc ?_ _))) 1 2 5 0 78 (i64_n (by omega)) (i64_n (by omega)) (i64_n (by omega)) (i64_n (by omega)) (i64_n (by omega)) 0 0 0 [] 0 0 (iB (b + 1) D) I1.out I2.out I3.out).mono ?_; rintro e w4 ⟨A4, q4, c4, S4, rfl, o4, n4, M4, k4⟩; have bx3 := md_box M3.lt k4; clear o4 n4 k4 M3
      go_wp2_with fail; refine (md_res (M4.quiet (by repeat (first | exact Keep.refl _ _ | refine Keep.alloc ?_ _))) 1 6 0 0 0 (i64_n (by omega)) (i64_n (by omega)) (i64_n (by omega)) (i64_n (by omega)) (i64_n (by omega)) 0 0 0 [] 3 0 (kB D) P1.out P2.out P3.out).mono ?_; rintro e w5 ⟨A5, q5, c5, S5, rfl, o5, n5, M5, k5⟩; have by3 := bx3.next k5; clear bx3; have bx3 := by3; clear by3; have bx4 := md_box M4.lt k5; clear o5 n5 k5 M4
      obtain ⟨ba3, bb3, bc3, bd3, bz3, bs3⟩ := bx3
      obtain ⟨ba4, bb4, bc4, bd4, bz4, bs4⟩ := bx4
      go_wp2_with fail; refine (md_collect (M5.quiet (by repeat (first | exact Keep.refl _ _ | refine Keep.alloc ?_ _))) ((kB D).collected) zB rfl R1.out).mono ?_; rintro e w6 ⟨rfl, S6, M6, k6⟩; clear k6 M5
      go_wp2_with fail; refine (md_used (M6.quiet (by repeat (first | exact Keep.refl _ _ | refine Keep.alloc ?_ _))) 3 R2.out).mono ?_; rintro e w7 ⟨rfl, S7, M7, k7⟩; clear k7 M6
      go_wp2_with fail; refine (md_now (M7.quiet (by repeat (first | exact Keep.refl _ _ | refine Keep.alloc ?_ _))) 5 R3.out).mono ?_; rintro e w8 ⟨rfl, S8, M8, k8⟩; clear M7
      go_wp2_with fail; refine (md_pairs (M8.quiet (by repeat (first | exact Keep.refl _ _ | refine Keep.alloc ?_ _))) 5 ⟨by omega, by omega⟩ [(1, 77), (2, 20), (5, 78)] R4.out).mono ?_; rintro e w9 ⟨u9, S9, rfl, o9, n9, M9, k9⟩; clear k9 M8
      go_wp2_with fail
      have ka : Keep (fun _ => False) w9 (w9.alloc (.cells #[.int .i64 1, .int .i64 77, .int .i64 2, .int .i64 20, .int .i64 5, .int .i64 78] 53)) := (Keep.refl _ _).alloc _
      refine (same_pr (o9.keep ka (fun _ _ => id)) (ownPr_lit w9 [(1, 77), (2, 20), (5, 78)] _ rfl (by show 3 ≤ maxLen; unfold maxLen; decide)) (by show 3 ≤ 100000; decide)).mono ?_
      rintro e wB ⟨rfl, dB, rfl⟩
      have MB := M9.quiet (ka.trans (drewN_keep _ _ dB))
      clear M9 o9 n9
      go_wp2_with fail
      refine (awake19_any _).mono ?_
      rintro e wz ⟨rfl, bz⟩
      go_wp2
      go_ret
      exact ⟨rfl, MB.fin bz⟩
   ·go_wp2_with fail; refine (md_used (M2.quiet (by repeat (first | exact Keep.refl _ _ | refine Keep.alloc ?_ _))) L EL.out).mono ?_; rintro e w3 ⟨rfl, S3, M3, k3⟩; clear k3 M2
    go_wp2_with fail; refine (md_res (M3.quiet (by repeat (first | exact Keep.refl _ _ | refine Keep.alloc ?_ _))) 0 7 0 0 0 (i64_n (by omega)) (i64_n (by omega)) (i64_n (by omega)) (i64_n (by omega)) (i64_n (by omega)) 0 0 0 [] 4 1 (gB (b + 1) D 0) D1.out D2.out D3.out).mono ?_; rintro e w4 ⟨A4, q4, c4, S4, rfl, o4, n4, M4, k4⟩; clear o4 n4 k4 M3
    go_wp2_with fail; refine (md_used (M4.quiet (by repeat (first | exact Keep.refl _ _ | refine Keep.alloc ?_ _))) L EL2.out).mono ?_; rintro e w5 ⟨rfl, S5, M5, k5⟩; clear k5 M4
    go_wp2
    go_loopg [13] 8 (fun mm iv wr => ∃ j : Nat, mm + j = 8 ∧ Rel2 w m (b + 1) D j iv wr)
    case atStart => exact ⟨0, by omega, S5, by omega, rfl, M5⟩
    case round =>
     clear M5
     obtain ⟨j, hgj, S, j8, rfl, M2⟩ := hrel
     by_cases hj : j < 8
     ·have dj : decide ((j : Int) < 8) = true := decide_eq_true (by omega)
      have wj : IntKind.i64.wrap ((j : Int) + 1) = (j : Int) + 1 := IntWalk.i64_in _ (by omega)
      obtain ⟨g1, g2⟩ := gB_get (b := b + 1) HD.out hj
      have G1 := Lib.hid g1
      have G2 := Lib.hid g2
      clear g1 g2
      have cw : (wr.alloc (.cells #[.int .i64 (-1), .int .i64 10, .int .i64 20, .int .i64 (-1), .int .i64 (-1), .int .i64 (-1), .int .i64 (-1), .int .i64 (-1)] 3)).cell? ⟨wr.heap.size, j, none⟩ = some (.int .i64 (wantB j)) := by
       rcases (by omega : j = 0 ∨ j = 1 ∨ j = 2 ∨ j = 3 ∨ j = 4 ∨ j = 5 ∨ j = 6 ∨ j = 7) with rfl | rfl | rfl | rfl | rfl | rfl | rfl | rfl <;> simp [wantB]
      go_wp2_with fail
      refine (get_any (M2.quiet (by repeat (first | exact Keep.refl _ _ | refine Keep.alloc ?_ _))) 1 j (i64_n (by omega)) (i64_n (by omega)) (wantB j) (gB (b + 1) D (j + 1)) (show getI _ _ _ = _ from G1.out) G2.out).mono ?_
      rintro e w6 ⟨rfl, S6, M6, k6⟩
      clear k6 M2
      go_wp2_with fail
      go_roundg (8 - (j + 1))
      case measure => omega
      case rel => exact ⟨j + 1, by omega, S6, by omega, by go_num, M6⟩
     ·obtain rfl : j = 8 := by omega
      obtain ⟨u1, u2, u3⟩ := B_upd (b := b + 1) HD.out
      obtain ⟨i1, i2, i3⟩ := B_ins (b := b + 1) HD.out
      obtain ⟨p1, p2, p3⟩ := B_com (b := b + 1) HD.out
      obtain ⟨r1, r2, r3, r4⟩ := B_end HD.out
      have U1 := Lib.hid u1
      have U2 := Lib.hid u2
      have U3 := Lib.hid u3
      have I1 := Lib.hid i1
      have I2 := Lib.hid i2
      have I3 := Lib.hid i3
      have P1 := Lib.hid p1
      have P2 := Lib.hid p2
      have P3 := Lib.hid p3
      have R1 := Lib.hid r1
      have R2 := Lib.hid r2
      have R3 := Lib.hid r3
      have R4 := Lib.hid r4
      clear u1 u2 u3 i1 i2 i3 p1 p2 p3 r1 r2 r3 r4 hgj j8 hj
      go_wp2_with fail; refine (md_res (M2.quiet (by repeat (first | exact Keep.refl _ _ | refine Keep.alloc ?_ _))) 1 3 1 0 77 (i64_n (by omega)) (i64_n (by omega)) (i64_n (by omega)) (i64_n (by omega)) (i64_n (by omega)) 0 0 0 [] 0 0 (uB (b + 1) D) U1.out U2.out U3.out).mono ?_; rintro e w3 ⟨A3, q3, c3, S3, rfl, o3, n3, M3, k3⟩; clear o3 n3 k3 M2
      go_wp2_with fail; refine (md_res (M3.quiet (by repeat (first | exact Keep.refl _ _ | refine Keep.alloc ?_ _))) 1 2 5 0 78 (i64_n (by omega)) (i64_n (by omega)) (i64_n (by omega)) (i64_n (by omega)) (i64_n (by omega)) 0 0 0 [] 0 0 (iB (b + 1) D) I1.out I2.out I3.out).mono ?_; rintro e w4 ⟨A4, q4, c4, S4, rfl, o4, n4, M4, k4⟩; have bx3 := md_box M3.lt k4; clear o4 n4 k4 M3
      go_wp2_with fail; refine (md_res (M4.quiet (by repeat (first | exact Keep.refl _ _ | refine Keep.alloc ?_ _))) 1 6 0 0 0 (i64_n (by omega)) (i64_n (by omega)) (i64_n (by omega)) (i64_n (by omega)) (i64_n (by omega)) 0 0 0 [] 3 0 (kB D) P1.out P2.out P3.out).mono ?_; rintro e w5 ⟨A5, q5, c5, S5, rfl, o5, n5, M5, k5⟩; have by3 := bx3.next k5; clear bx3; have bx3 := by3; clear by3; have bx4 := md_box M4.lt k5; clear o5 n5 k5 M4
      obtain ⟨ba3, bb3, bc3, bd3, bz3, bs3⟩ := bx3
      obtain ⟨ba4, bb4, bc4, bd4, bz4, bs4⟩ := bx4
      go_wp2_with fail; refine (md_collect (M5.quiet (by repeat (first | exact Keep.refl _ _ | refine Keep.alloc ?_ _))) ((kB D).collected) zB rfl R1.out).mono ?_; rintro e w6 ⟨rfl, S6, M6, k6⟩; clear k6 M5
      go_wp2_with fail; refine (md_used (M6.quiet (by repeat (first | exact Keep.refl _ _ | refine Keep.alloc ?_ _))) 3 R2.out).mono ?_; rintro e w7 ⟨rfl, S7, M7, k7⟩; clear k7 M6
      go_wp2_with fail; refine (md_now (M7.quiet (by repeat (first | exact Keep.refl _ _ | refine Keep.alloc ?_ _))) 5 R3.out).mono ?_; rintro e w8 ⟨rfl, S8, M8, k8⟩; clear M7
      go_wp2_with fail; refine (md_pairs (M8.quiet (by repeat (first | exact Keep.refl _ _ | refine Keep.alloc ?_ _))) 5 ⟨by omega, by omega⟩ [(1, 77), (2, 20), (5, 78)] R4.out).mono ?_; rintro e w9 ⟨u9, S9, rfl, o9, n9, M9, k9⟩; clear k9 M8
      go_wp2_with fail
      have ka : Keep (fun _ => False) w9 (w9.alloc (.cells #[.int .i64 1, .int .i64 77, .int .i64 2, .int .i64 20, .int .i64 5, .int .i64 78] 53)) := (Keep.refl _ _).alloc _
      refine (same_pr (o9.keep ka (fun _ _ => id)) (ownPr_lit w9 [(1, 77), (2, 20), (5, 78)] _ rfl (by show 3 ≤ maxLen; unfold maxLen; decide)) (by show 3 ≤ 100000; decide)).mono ?_
      rintro e wB ⟨rfl, dB, rfl⟩
      have MB := M9.quiet (ka.trans (drewN_keep _ _ dB))
      clear M9 o9 n9
      go_wp2_with fail
      refine (awake19_any _).mono ?_
      rintro e wz ⟨rfl, bz⟩
      go_wp2
      go_ret
      exact ⟨rfl, MB.fin bz⟩
theorem own : ownKnob Try.prog.godebug = none := by kernel_rfl
theorem laidOut : laidOutB Try.prog = true := by kernel_rfl
set_option maxRecDepth 100000 in
theorem lifted (os : Os) (started : os.Started) (H : Type) (enc : TypeId × Value → H) :
  ReturnsInHanded {} Try.checked os 10 .any (Rows.modelAbortedSpec.pre6 enc Try.prog Try.f10 Rows.modelAbortedRow.domain false) (Rows.modelAbortedSpec.post enc Try.prog Try.f10 false true false false) := by
 refine returnsInHanded_of_change (C := Try.checked) own started (by kernel_rfl) Try.func10
  (ChangeSpec.witness6 (enc := enc) (C := Try.checked) false ⟨#[], #[.int .i64 0, .slice none 0 0], []⟩ 8 (by kernel_rfl) (by kernel_rfl) (by kernel_rfl) (by kernel_rfl)) ?_
 intro W base args ds gs before hval0 hW hcnd _
 have hval : ∀ (j : Nat) t v, Try.f10.params[j]? = some t → args[j]? = some v → Value.okWide Try.prog W .any base t v := hval0
 have hW' := hW
 obtain ⟨p, q, hA0, hV, rfl, hfz, hnd⟩ := hW
 have hA : DataW.TrodAll enc Try.prog W 0 (fun _ => true) true Try.f10.params.toList args.toList ds p := hA0
 rw [Try.params10] at hA hval
 obtain ⟨v0, vs0, d0, ds0, p0, q0, hargs, rfl, rfl, h0, r0⟩ := trodAll_cons hA
 obtain ⟨v1, vs1, d1, ds1, p1, q1, rfl, rfl, rfl, h1, r1⟩ := trodAll_cons r0
 obtain ⟨rfl, rfl, rfl⟩ := trodAll_nil r1
 obtain rfl : args = #[v0, v1] := by cases args; simp_all
 obtain ⟨rfl, rfl⟩ := trodVars_none hV
 obtain ⟨a0, rfl, rfl, rfl, w0⟩ := open_int Try.underlying3 (hval 0 3 v0 rfl rfl) h0
 obtain ⟨a1, len1, cap1, rfl⟩ := okWide_slice Try.underlying26 (hval 1 26 v1 rfl rfl)
 have k1 := h1
 have lt1 : ∀ x ∈ p1, x.block < W.heap.size := by obtain ⟨m, hm⟩ := k1; exact DataW.trod_lt m _ _ _ hm
 obtain ⟨z1, w1⟩ : ∃ f, IsCl W a1 len1 cap1 f := is_cl h1
 clear hA0 hval0
 refine (walk a0 a1 len1 cap1 z1 W w0 w1).mono fun e W' ⟨he, bel⟩ => ?_
 subst he
 exact ⟨_, rfl, _, _, _, [], _, [], hW', trodAll_mk1 (shut_bool Try.underlying4 _), (trodAll_cons_mk (shut_int Try.underlying3 w0) (trodAll_cons_mk (Below.trod laidOut (by kernel_rfl) (of_decide_eq_true (by kernel_rfl)) k1 bel lt1) trodAll_mk0)), rfl, bel.frame _, fun h => by cases h⟩
theorem over : Rows.modelAbortedRow.holds Try.pinned (OpenSpec.ofChange Rows.modelAbortedSpec) :=
 OpenClaim.holds_of_wide 10 Try.f10 rfl rfl rfl rfl rfl rfl rfl ⟨rfl, rfl, rfl, rfl, rfl⟩ rfl rfl rfl rfl rfl (by kernel_rfl) Try.func10 (by kernel_rfl)
  (of_decide_eq_true (by kernel_rfl)) (by unfold Func.isWrapper; first | (rw [if_pos (by decide +kernel)]; kernel_rfl) | (rw [if_neg (by decide +kernel)]; exact ⟨rfl, rfl⟩))
  (fun os started H enc _ => lifted os started H enc)
theorem proved : Rows.ModelAbortedSaid := over
end Go.Proofs.Ytkkjofefjepodaa.modelAborted
