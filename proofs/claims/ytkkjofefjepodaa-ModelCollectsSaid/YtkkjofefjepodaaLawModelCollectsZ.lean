/- Proved here: vinculumlaw19.ModelCollects returns true and leaves its argument as it was, for any slice of Acts; no further condition. -/
import Derived.Test.YtkkjofefjepodaaModelBaseZao
import Derived.Test.YtkkjofefjepodaaLawModelCollectsZaa
import Derived.Test.YtkkjofefjepodaaModelBaseZab
import Derived.ChangeOld
import Derived.Deep.LoopGhost
import Derived.Deep.CutRange
import Derived.Deep.CutBlock
namespace Go.Proofs.Ytkkjofefjepodaa.modelCollects
open Go.ChangeShapes Go.WideShapes Go.ChangeAt Go.RowKit
set_option linter.unusedVariables false
set_option linter.unusedSimpArgs false
theorem act_keep {w w' : World} {S : Nat → Prop} {b i : Nat} {o : ActI} (h : ActAt w b i o) (k : Keep S w w') (hn : ¬ S b) : ActAt w' b i o := ⟨k.cell h.c0 hn, k.cell h.c1 hn, k.cell h.c2 hn, k.cell h.c3 hn, k.cell h.c4 hn, k.cell h.c5 hn, k.cell h.c6 hn⟩
theorem rs_box (w : World) (a b c d : Int) (v : Value) : ∃ W, w.alloc (.cells #[.int .i64 a, .int .i64 b, v, .int .i64 c, .int .i64 d] 30) = W ∧ ResAt W w.heap.size (.int .i64 a) (.int .i64 b) v (.int .i64 c) (.int .i64 d) ∧ Keep (fun _ => False) w W :=
 ⟨_, rfl, ⟨by simp, by simp, by simp, by simp, by simp, fun i => by simp⟩, (Keep.refl _ _).alloc _⟩
/-- Two Models beside each other. -/
structure MM (W w : World) (a : Nat) (S : Nat → Prop) (b : Nat) (T : Nat → Prop) (x y : MoI) : Prop where
 ma : Md W w a S x
 mb : Md W w b T y
 ds : ∀ k, S k → ¬ T k
/-- .. and a call of the script in a box. -/
structure B7 (w : World) (N : Nat) (o : ActI) : Prop where
 c0 : w.cell? ⟨N, 0, none⟩ = some (.int .i64 o.kind)
 c1 : w.cell? ⟨N, 1, none⟩ = some (.int .i64 o.s)
 c2 : w.cell? ⟨N, 2, none⟩ = some (.int .i64 o.level)
 c3 : w.cell? ⟨N, 3, none⟩ = some (.int .i64 o.o.kind)
 c4 : w.cell? ⟨N, 4, none⟩ = some (.int .i64 o.o.key)
 c5 : w.cell? ⟨N, 5, none⟩ = some (.int .i64 o.o.hi)
 c6 : w.cell? ⟨N, 6, none⟩ = some (.int .i64 o.o.val)
structure RM (W w : World) (a : Nat) (S : Nat → Prop) (b : Nat) (T : Nat → Prop) (x y : MoI) (N : Nat) (o : ActI) : Prop where
 d : MM W w a S b T x y
 bx : B7 w N o
 n1 : ¬ S N
 n2 : ¬ T N
section
variable {W w w' : World} {a b N : Nat} {S S' T T' : Nat → Prop} {x y x' y' : MoI} {o : ActI}
theorem MM.quiet (h : MM W w a S b T x y) (k : Keep (fun _ => False) w w') : MM W w' a S b T x y := ⟨h.ma.quiet k, h.mb.quiet k, h.ds⟩
theorem MM.stepA (h : MM W w a S b T x y) (M : Md W w' a S' x') (k : VKeep S S' w w') : MM W w' a S' b T x' y :=
 ⟨M, h.mb.own k.1 (fun g hg => ⟨fun c => h.ds g hg c, h.ma.g g hg⟩), fun g hg hb => by
  rcases k.2 g hg with c | c
  ·exact h.ds g c hb
  ·have := h.mb.lt g hb; omega⟩
theorem MM.stepB (h : MM W w a S b T x y) (M : Md W w' b T' y') (k : VKeep T T' w w') : MM W w' a S b T' x y' :=
 ⟨h.ma.own k.1 (fun g hg => ⟨fun c => h.ds g c hg, h.mb.g g hg⟩), M, fun g hg hb => by
  rcases k.2 g hb with c | c
  ·exact h.ds g hg c
  ·have := h.ma.lt g hg; omega⟩
theorem B7.keep {X : Nat → Prop} (h : B7 w N o) (k : Keep X w w') (hn : ¬ X N) : B7 w' N o := ⟨k.cell h.c0 hn, k.cell h.c1 hn, k.cell h.c2 hn, k.cell h.c3 hn, k.cell h.c4 hn, k.cell h.c5 hn, k.cell h.c6 hn⟩
theorem B7.lt (h : B7 w N o) : N < w.heap.size := lt_of_cell (a := ⟨N, 0, none⟩) h.c0
theorem RM.quiet (h : RM W w a S b T x y N o) (k : Keep (fun _ => False) w w') : RM W w' a S b T x y N o := ⟨h.d.quiet k, h.bx.keep k id, h.n1, h.n2⟩
theorem RM.stepA (h : RM W w a S b T x y N o) (M : Md W w' a S' x') (k : VKeep S S' w w') : RM W w' a S' b T x' y N o :=
 ⟨h.d.stepA M k, h.bx.keep k.1 h.n1, fun e => by rcases k.2 _ e with c | c; exact h.n1 c; have := h.bx.lt; omega, h.n2⟩
theorem RM.stepB (h : RM W w a S b T x y N o) (M : Md W w' b T' y') (k : VKeep T T' w w') : RM W w' a S b T' x y' N o :=
 ⟨h.d.stepB M k, h.bx.keep k.1 h.n2, h.n1, fun e => by rcases k.2 _ e with c | c; exact h.n2 c; have := h.bx.lt; omega⟩
theorem act_box (w : World) (o : ActI) : ∃ W, w.alloc (.cells #[.int .i64 o.kind, .int .i64 o.s, .int .i64 o.level, .int .i64 o.o.kind, .int .i64 o.o.key, .int .i64 o.o.hi, .int .i64 o.o.val] 62) = W ∧ B7 W w.heap.size o ∧ Keep (fun _ => False) w W :=
 ⟨_, rfl, ⟨by simp, by simp, by simp, by simp, by simp, by simp, by simp⟩, (Keep.refl _ _).alloc _⟩
end
theorem mdBase {W W1 w : World} {m : Nat} {S : Nat → Prop} {x : MoI} (h : Md W1 w m S x) (b : Below W.heap.size W W1) : Md W w m S x := ⟨h.gd, fun k hk => Nat.le_trans b.size (h.g k hk), h.lt, b.trans (h.b.mono b.size), h.ld⟩
def Rel1 (W : World) (a b n1 k : Nat) (iv : Value) (wr : World) : Prop := ∃ (S T : Nat → Prop) (x y : MoI), k ≤ n1 ∧ k ≤ 80 ∧ iv = .int .i64 k ∧ MM W wr a S b T x y ∧ Sim k x y
def Rel2 (W : World) (a b : Nat) (y : MoI) (t : Int) (P : List (Int × Int)) (k : Nat) (iv : Value) (wr : World) : Prop := ∃ (S T : Nat → Prop) (x : MoI), k ≤ 8 ∧ iv = .int .i64 k ∧ MM W wr a S b T x y ∧ Off t P k x
set_option maxRecDepth 100000 in
set_option maxHeartbeats 16000000 in
theorem walk (a1 : Option Addr) (n1 c1 : Nat) (z1 : Nat → ActI) (w : World) (w1 : IsActs w a1 n1 c1 z1) :
  Calls Try.prog 15 #[.slice a1 n1 c1] w fun e w' => e = .returned (.bool true) ∧ Below w.heap.size w w' := by
 have x1 := w1.max
 have lc1 := w1.cell
 have lo1 := w1.ok
 clear w1
 go_enter Try.func15, Try.ntmps15
 go_wp2_with fail
 have kc : Keep (fun _ => False) w (w.alloc (.cells #[.int .i64 256, .int .u64 1000] 48)) := (Keep.refl _ _).alloc _
 have cc0 : (w.alloc (.cells #[.int .i64 256, .int .u64 1000] 48)).cell? ⟨w.heap.size, 0, none⟩ = some (.int .i64 256) := by simp
 have cc1 : (w.alloc (.cells #[.int .i64 256, .int .u64 1000] 48)).cell? ⟨w.heap.size, 1, none⟩ = some (.int .u64 1000) := by simp
 have lz : w.heap.size < (w.alloc (.cells #[.int .i64 256, .int .u64 1000] 48)).heap.size := by simp
 refine (md_new _ 256 1000 (i64_n (by omega)) ⟨by omega, by omega⟩ rfl).mono ?_
 rintro e w1 ⟨a, S1, rfl, M1⟩
 have d0 := (M1.b.cell (p := ⟨w.heap.size, 0, none⟩) lz).trans cc0
 have d1 := (M1.b.cell (p := ⟨w.heap.size, 1, none⟩) lz).trans cc1
 have lz1 : w.heap.size < w1.heap.size := Nat.lt_of_lt_of_le lz M1.b.size
 have b0 : Below w.heap.size w (w.alloc (.cells #[.int .i64 256, .int .u64 1000] 48)) := kc.below (Nat.le_refl _) (fun _ e => e.elim)
 have M1' := mdBase M1 b0
 clear M1 cc0 cc1 kc b0 lz
 go_wp2_with fail
 refine (md_new _ 256 1000 (i64_n (by omega)) ⟨by omega, by omega⟩ rfl).mono ?_
 rintro e w2 ⟨b, S2, rfl, M2⟩
 have D0 : MM w w2 a S1 b S2 (new0 256 1000) (new0 256 1000) := ⟨M1'.quiet (Keep.of_below M2.b _), mdBase M2 M1'.b, fun k hk ht => by have := M1'.lt k hk; have := M2.g k ht; omega⟩
 have SM0 := Lib.hid sim_new
 clear M1' M2 d0 d1 lz1
 go_wp2
 go_loopg [8] 80 (fun mm iv wr => ∃ k : Nat, mm + k = 80 ∧ Rel1 w a b n1 k iv wr)
 case atStart => exact ⟨0, by omega, S1, S2, _, _, by omega, by omega, rfl, D0, SM0.out⟩
 case round =>
  obtain ⟨k, hgk, S, T, x, y, k0, k80, rfl, D, SM⟩ := hrel
  clear D0 SM0
  by_cases hlt : k < n1 ∧ k < 80
  ·obtain ⟨hl, h80⟩ := hlt
   obtain ⟨bb, off, rfl, hbl, hc⟩ := lc1 (by omega)
   have ob := lo1 k hl
   have oc := act_keep (hc k hl) (Keep.of_below (Below.mono D.ma.b (Nat.le_refl _)) (fun _ => False)) id
   obtain ⟨o, eo⟩ : ∃ o, z1 k = o := ⟨_, rfl⟩
   rw [eo] at ob oc
   clear eo hc lc1 lo1
   obtain ⟨oc0, oc1, oc2, oc3, oc4, oc5, oc6⟩ := oc
   have wk : IntKind.i64.wrap ((k : Int) + 1) = (k : Int) + 1 := IntWalk.i64_in _ (by omega)
   have dk : decide ((k : Int) < 80) = true := decide_eq_true (by omega)
   go_upto_region 10 with fail
   obtain ⟨V, eV, B0, kV⟩ := act_box wr o
   have hN1 : ¬ S wr.heap.size := fun e => absurd (D.ma.lt _ e) (Nat.lt_irrefl _)
   have hN2 : ¬ T wr.heap.size := fun e => absurd (D.mb.lt _ e) (Nat.lt_irrefl _)
   obtain ⟨N, eN⟩ : ∃ N, wr.heap.size = N := ⟨_, rfl⟩
   rw [eV, eN]
   rw [eN] at B0 hN1 hN2
   have R0 : RM w V a S b T x y N o := ⟨D.quiet kV, B0, hN1, hN2⟩
   clear eV eN kV B0 hN1 hN2 D oc0 oc1 oc2 oc3 oc4 oc5 oc6
   obtain ⟨kd, s, lv, ok, oy, oh, ov⟩ := o
   obtain ⟨b0, b1, b2, b3, b4, b5, b6⟩ := ob
   dsimp only at b0 b1 b2 b3 b4 b5 b6
   obtain ⟨c0, c1', c2', c3, c4, c5, c6⟩ := R0.bx
   dsimp only at c0 c1' c2' c3 c4 c5 c6
   rcases (by omega : kd = 0 ∨ kd = 2 ∨ (kd ≠ 0 ∧ kd ≠ 2)) with rfl | rfl | ⟨hk0, hk2⟩
   ·obtain ⟨g1, g2, g3⟩ := sim_beg SM s lv
    obtain ⟨n, hn⟩ : ∃ n, x.begN s lv = n := ⟨_, rfl⟩
    obtain ⟨e0, he⟩ : ∃ n, x.begE s lv = n := ⟨_, rfl⟩
    have q0 : (n != n) = false := by simp
    have q1 : (e0 != e0) = false := by simp
    have SM := Lib.hid g3.more
    have HN := Lib.hid hn
    have HE := Lib.hid he
    have HN2 := Lib.hid (g2.trans hn)
    have HE2 := Lib.hid (g1.trans he)
    clear hn he g1 g2 g3
    go_wp2_with fail
    refine (md_begin R0.d.ma s lv b1 b2 n e0 _ HN.out HE.out rfl).mono ?_
    rintro e w3 ⟨rfl, S3, M3, k3⟩
    have R3 := R0.stepA M3 k3
    clear R0 M3 k3 c0 c1' c2' c3 c4 c5 c6
    obtain ⟨c0, c1', c2', c3, c4, c5, c6⟩ := R3.bx
    dsimp only at c0 c1' c2' c3 c4 c5 c6
    go_wp2_with fail
    refine (md_begin R3.d.mb s lv b1 b2 n e0 _ HN2.out HE2.out rfl).mono ?_
    rintro e w4 ⟨rfl, S4, M4, k4⟩
    have R4 := R3.stepB M4 k4
    clear R3 M4 k4 c0 c1' c2' c3 c4 c5 c6
    go_wp2_with fail; go_roundg (80 - (k + 1)); (case measure => omega); (case rel => exact ⟨k + 1, by omega, S3, S4, _, _, by omega, by omega, by go_num, R4.d, SM.out⟩)
   ·have g := Lib.hid (sim_collect SM R0.d.ma.gd).more
    have SM := g
    go_wp2_with fail
    refine (md_collect R0.d.ma _ _ rfl rfl).mono ?_
    rintro e w3 ⟨rfl, S3, M3, k3⟩
    have R3 := R0.stepA M3 k3
    clear R0 M3 k3 c0 c1' c2' c3 c4 c5 c6
    go_wp2_with fail; go_roundg (80 - (k + 1)); (case measure => omega); (case rel => exact ⟨k + 1, by omega, S3, T, _, _, by omega, by omega, by go_num, R3.d, SM.out⟩)
   ·have dk0 : (kd == 0) = false := by simpa using hk0
    have dk2 : (kd == 2) = false := by simpa using hk2
    obtain ⟨g1, g2, g3⟩ := sim_do SM (by omega) s ⟨ok, oy, oh, ov⟩
    obtain ⟨e0, he⟩ : ∃ n, x.doE s ⟨ok, oy, oh, ov⟩ = n := ⟨_, rfl⟩
    obtain ⟨r, hr⟩ : ∃ r, x.doR s ⟨ok, oy, oh, ov⟩ = r := ⟨_, rfl⟩
    have hps := ps_do x s ⟨ok, oy, oh, ov⟩
    rw [hr] at hps
    have q1 : (e0 != e0) = false := by simp
    have SM := Lib.hid g3
    rw [he] at g1
    rw [hr] at g2
    obtain ⟨ve, vv, ps, vo, vr⟩ := r
    dsimp only at hps
    have HE := Lib.hid he
    have HR := Lib.hid hr
    have HE2 := Lib.hid g1
    have HR2 := Lib.hid g2
    have HP := Lib.hid hps
    clear he hr g1 g2 g3 hps
    go_wp2_with fail
    refine (md_res R0.d.ma s ok oy oh ov b1 b3 b4 b5 b6 e0 ve vv ps vo vr _ HE.out HR.out rfl).mono ?_
    rintro e w3 ⟨C3, q3, c3', S3, rfl, o3, n3, M3, k3⟩
    have R3 := R0.stepA M3 k3
    have hV : V.heap.size ≤ w3.heap.size := k3.1.size
    have tl : ∀ g, T g → g < V.heap.size := R0.d.mb.lt
    clear R0 M3 k3 c0 c1' c2' c3 c4 c5 c6
    obtain ⟨c0, c1', c2', c3, c4, c5, c6⟩ := R3.bx
    dsimp only at c0 c1' c2' c3 c4 c5 c6
    have l3 : N < w3.heap.size := R3.bx.lt
    have l3' : N ≠ w3.heap.size := Nat.ne_of_lt l3
    go_wp2_with fail
    obtain ⟨w4, e4, X4, k4⟩ := rs_box w3 ve vv vo vr (.slice C3 q3 c3')
    rw [e4]
    have R4 := R3.quiet k4
    have o4 := o3.keep k4 (fun _ _ => id)
    have u4 : ∀ g, (Value.slice C3 q3 c3').ownBlock = some g → ¬ T g := fun g hg c => by have := tl g c; have := (n3 g hg).1; omega
    have n4 : ¬ T w3.heap.size := fun c => by have := tl _ c; omega
    obtain ⟨N4, eN4⟩ : ∃ N, w3.heap.size = N := ⟨_, rfl⟩
    rw [eN4] at X4 n4 ⊢
    clear e4 R3 k4 o3 n3 l3 l3' eN4 c0 c1' c2' c3 c4 c5 c6 hV
    refine (md_res R4.d.mb s ok oy oh ov b1 b3 b4 b5 b6 e0 ve vv ps vo vr _ HE2.out HR2.out rfl).mono ?_
    rintro e w5 ⟨C5, q5, c5', S5, rfl, o5, n5, M5, k5⟩
    have R5 := R4.stepB M5 k5
    have X5 := X4.keep k5.1 n4
    have o45 := o4.keep k5.1 u4
    clear R4 M5 k5 X4 o4 u4 n4 n5 tl
    obtain ⟨t0, t1, t2, t3, t4, _⟩ := id X5
    have l5 : N4 < w5.heap.size := lt_of_cell (a := ⟨N4, 0, none⟩) t0
    have l5' : N4 ≠ w5.heap.size := Nat.ne_of_lt l5
    go_wp2_with fail
    obtain ⟨w6, e6, X6, k6⟩ := rs_box w5 ve vv vo vr (.slice C5 q5 c5')
    rw [e6]
    have R6 := R5.quiet k6
    have C := same_res (r := ⟨ve, vv, ps, vo, vr⟩) (o45.keep k6 (fun _ _ => id)) (o5.keep k6 (fun _ _ => id)) (by have := HP.out; show ps.length ≤ 100000; omega)
    unfold reV at C
    dsimp only at C
    refine C.mono ?_
    rintro e w7 ⟨rfl, k7⟩
    have R7 := R6.quiet k7
    clear C R6 R5 X5 X6 o45 o5 e6 k6 k7 t0 t1 t2 t3 t4 l5 l5'
    go_wp2_with fail; go_roundg (80 - (k + 1)); (case measure => omega); (case rel => exact ⟨k + 1, by omega, S3, S5, _, _, by omega, by omega, by go_num, R7.d, SM.out⟩)
  ·obtain ⟨tm, eT⟩ : ∃ t, x.time = t := ⟨_, rfl⟩
   have tb : 0 ≤ tm ∧ tm ≤ 1099511627776 := by have := D.ma.gd.time; have := D.ma.gd.conf; omega
   obtain ⟨P, eP⟩ : ∃ P, x.pairs tm = P := ⟨_, rfl⟩
   have hy1 : y.time = tm := SM.tm.trans eT
   have hy2 : y.pairs tm = P := by have := sim_pairs SM; rw [hy1, eT, eP] at this; exact this
   have O0 := Lib.hid (show Off tm P 0 x from ⟨fun i hi => by omega, eT, eP⟩)
   have Y1 := Lib.hid hy1
   have Y2 := Lib.hid hy2
   clear SM eT eP hy1 hy2 lc1 lo1
   rcases (by omega : k = n1 ∨ (k < n1 ∧ k = 80)) with rfl | ⟨h1, rfl⟩
   ·go_wp2
    go_loopg [18] 8 (fun mm iv wr => ∃ j : Nat, mm + j = 8 ∧ Rel2 w a b y tm P j iv wr)
    case atStart => exact ⟨0, by omega, S, T, x, by omega, rfl, D, O0.out⟩
    case round =>
     clear D O0
     obtain ⟨j, hgj, S, T, x, j8, rfl, D, OF⟩ := hrel
     by_cases hj : j < 8
     ·have dj : decide ((j : Int) < 8) = true := decide_eq_true (by omega)
      have wj : IntKind.i64.wrap ((j : Int) + 1) = (j : Int) + 1 := IntWalk.i64_in _ (by omega)
      obtain ⟨e0, ve, vv, ps, vo, vr, z, g1, g2, g3, g4⟩ := off_step OF hj
      have G1 := Lib.hid g1
      have G2 := Lib.hid g2
      have G3 := Lib.hid g3
      have G4 := Lib.hid g4
      clear g1 g2 g3 g4 OF
      go_wp2_with fail
      refine (md_res D.ma j 7 0 0 0 (i64_n (by omega)) (i64_n (by omega)) (i64_n (by omega)) (i64_n (by omega)) (i64_n (by omega)) e0 ve vv ps vo vr z G1.out G2.out G3.out).mono ?_
      rintro e w3 ⟨C3, q3, c3', S3, rfl, o3, n3, M3, k3⟩
      have D3 := D.stepA M3 k3
      clear o3 n3 M3 k3 D
      go_wp2_with fail
      go_roundg (8 - (j + 1))
      case measure => omega
      case rel => exact ⟨j + 1, by omega, S3, T, z, by omega, by go_num, D3, G4.out⟩
     ·obtain rfl : j = 8 := by omega
      obtain ⟨z1, z2, z3, z4⟩ := off_end OF D.ma.gd
      have zl : P.length ≤ 1000 := by
       have h1 := (good_collect D.ma.gd).len
       have h2 := D.ma.gd.conf
       have h3 : x.collect.slots = x.slots := rfl
       omega
      have Z1 := Lib.hid z1
      have Z2 := Lib.hid z2
      have Z3 := Lib.hid z3
      have Z4 := Lib.hid z4
      have ZL := Lib.hid zl
      clear z1 z2 z3 z4 zl OF hgj j8 hj
      go_wp2_with fail
      refine (md_collect D.ma _ x.collect rfl rfl).mono ?_
      rintro e w3 ⟨rfl, S3, M3, k3⟩
      have D3 := D.stepA M3 k3
      clear M3 k3 D
      go_wp2_with fail
      refine (md_now D3.ma tm Z1.out).mono ?_
      rintro e w4 ⟨rfl, S4, M4, k4⟩
      have D4 := D3.stepA M4 k4
      clear M4 k4 D3
      go_wp2_with fail
      refine (md_pairs D4.ma tm ⟨by omega, by omega⟩ P Z2.out).mono ?_
      rintro e w5 ⟨u5, S5, rfl, o5, n5, M5, k5⟩
      have D5 := D4.stepA M5 k5
      have u5b : ∀ g, u5.ownBlock = some g → w4.heap.size ≤ g := fun g hg => (n5 g hg).1
      have u5S : ∀ g, u5.ownBlock = some g → ¬ S5 g := fun g hg => (n5 g hg).2
      have u5T : ∀ g, u5.ownBlock = some g → ¬ T g := fun g hg c => by have := D4.mb.lt g c; have := u5b g hg; omega
      obtain ⟨A5, c5, rfl⟩ := ownPr_len o5
      clear M5 k5 D4 n5 u5b
      obtain ⟨pl, hpl⟩ : ∃ pl, P.length = pl := ⟨_, rfl⟩
      rw [hpl] at u5S u5T o5 ⊢
      have zl := ZL.out
      rw [hpl] at zl
      have z3 := Z3.out
      rw [hpl] at z3
      have Z3' := Lib.hid z3
      clear z3 hpl
      go_wp2_with fail
      refine (md_used D5.ma pl Z3'.out).mono ?_
      rintro e w6 ⟨rfl, S6, M6, k6⟩
      have D6 := D5.stepA M6 k6
      have o6 := o5.keep k6.1 u5S
      have u6S : ∀ g, (Value.slice A5 pl c5).ownBlock = some g → ¬ S6 g := fun g hg c => by
       rcases k6.2 g c with q | q
       ·exact u5S g hg q
       ·have := o5.lt hg; omega
      clear M6 k6 D5 o5 u5S
      go_wp2_with fail
      refine (md_collect D6.ma 0 x.collect.collect Z4.out rfl).mono ?_
      rintro e w7 ⟨rfl, S7, M7, k7⟩
      have D7 := D6.stepA M7 k7
      have o7 := o6.keep k7.1 u6S
      clear M7 k7 D6 o6 u6S
      go_wp2_with fail
      refine (md_now D7.mb tm Y1.out).mono ?_
      rintro e w8 ⟨rfl, S8, M8, k8⟩
      have D8 := D7.stepB M8 k8
      have o8 := o7.keep k8.1 u5T
      have u8T : ∀ g, (Value.slice A5 pl c5).ownBlock = some g → ¬ S8 g := fun g hg c => by
       rcases k8.2 g c with q | q
       ·exact u5T g hg q
       ·have := o7.lt hg; omega
      clear M8 k8 D7 o7 u5T
      go_wp2_with fail
      refine (md_pairs D8.mb tm ⟨by omega, by omega⟩ P Y2.out).mono ?_
      rintro e w9 ⟨u9, S9, rfl, o9, n9, M9, k9⟩
      have D9 := D8.stepB M9 k9
      have oA := o8.keep k9.1 u8T
      clear M9 k9 D8 o8 u8T n9
      go_wp2_with fail
      refine (same_pr oA o9 (by have := ZL.out; omega)).mono ?_
      rintro e wB ⟨rfl, dB, rfl⟩
      have DB := D9.quiet (drewN_keep _ _ dB)
      clear D9 oA o9
      go_wp2_with fail
      refine (awake19_any _).mono ?_
      rintro e wz ⟨rfl, bz⟩
      go_wp2
      go_ret
      exact ⟨rfl, DB.ma.fin bz⟩
   ·go_wp2
    go_loopg [18] 8 (fun mm iv wr => ∃ j : Nat, mm + j = 8 ∧ Rel2 w a b y tm P j iv wr)
    case atStart => exact ⟨0, by omega, S, T, x, by omega, rfl, D, O0.out⟩
    case round =>
     clear D O0
     obtain ⟨j, hgj, S, T, x, j8, rfl, D, OF⟩ := hrel
     by_cases hj : j < 8
     ·have dj : decide ((j : Int) < 8) = true := decide_eq_true (by omega)
      have wj : IntKind.i64.wrap ((j : Int) + 1) = (j : Int) + 1 := IntWalk.i64_in _ (by omega)
      obtain ⟨e0, ve, vv, ps, vo, vr, z, g1, g2, g3, g4⟩ := off_step OF hj
      have G1 := Lib.hid g1
      have G2 := Lib.hid g2
      have G3 := Lib.hid g3
      have G4 := Lib.hid g4
      clear g1 g2 g3 g4 OF
      go_wp2_with fail
      refine (md_res D.ma j 7 0 0 0 (i64_n (by omega)) (i64_n (by omega)) (i64_n (by omega)) (i64_n (by omega)) (i64_n (by omega)) e0 ve vv ps vo vr z G1.out G2.out G3.out).mono ?_
      rintro e w3 ⟨C3, q3, c3', S3, rfl, o3, n3, M3, k3⟩
      have D3 := D.stepA M3 k3
      clear o3 n3 M3 k3 D
      go_wp2_with fail
      go_roundg (8 - (j + 1))
      case measure => omega
      case rel => exact ⟨j + 1, by omega, S3, T, z, by omega, by go_num, D3, G4.out⟩
     ·obtain rfl : j = 8 := by omega
      obtain ⟨z1, z2, z3, z4⟩ := off_end OF D.ma.gd
      have zl : P.length ≤ 1000 := by
       have h1 := (good_collect D.ma.gd).len
       have h2 := D.ma.gd.conf
       have h3 : x.collect.slots = x.slots := rfl
       omega
      have Z1 := Lib.hid z1
      have Z2 := Lib.hid z2
      have Z3 := Lib.hid z3
      have Z4 := Lib.hid z4
      have ZL := Lib.hid zl
      clear z1 z2 z3 z4 zl OF hgj j8 hj
      go_wp2_with fail
      refine (md_collect D.ma _ x.collect rfl rfl).mono ?_
      rintro e w3 ⟨rfl, S3, M3, k3⟩
      have D3 := D.stepA M3 k3
      clear M3 k3 D
      go_wp2_with fail
      refine (md_now D3.ma tm Z1.out).mono ?_
      rintro e w4 ⟨rfl, S4, M4, k4⟩
      have D4 := D3.stepA M4 k4
      clear M4 k4 D3
      go_wp2_with fail
      refine (md_pairs D4.ma tm ⟨by omega, by omega⟩ P Z2.out).mono ?_
      rintro e w5 ⟨u5, S5, rfl, o5, n5, M5, k5⟩
      have D5 := D4.stepA M5 k5
      have u5b : ∀ g, u5.ownBlock = some g → w4.heap.size ≤ g := fun g hg => (n5 g hg).1
      have u5S : ∀ g, u5.ownBlock = some g → ¬ S5 g := fun g hg => (n5 g hg).2
      have u5T : ∀ g, u5.ownBlock = some g → ¬ T g := fun g hg c => by have := D4.mb.lt g c; have := u5b g hg; omega
      obtain ⟨A5, c5, rfl⟩ := ownPr_len o5
      clear M5 k5 D4 n5 u5b
      obtain ⟨pl, hpl⟩ : ∃ pl, P.length = pl := ⟨_, rfl⟩
      rw [hpl] at u5S u5T o5 ⊢
      have zl := ZL.out
      rw [hpl] at zl
      have z3 := Z3.out
      rw [hpl] at z3
      have Z3' := Lib.hid z3
      clear z3 hpl
      go_wp2_with fail
      refine (md_used D5.ma pl Z3'.out).mono ?_
      rintro e w6 ⟨rfl, S6, M6, k6⟩
      have D6 := D5.stepA M6 k6
      have o6 := o5.keep k6.1 u5S
      have u6S : ∀ g, (Value.slice A5 pl c5).ownBlock = some g → ¬ S6 g := fun g hg c => by
       rcases k6.2 g c with q | q
       ·exact u5S g hg q
       ·have := o5.lt hg; omega
      clear M6 k6 D5 o5 u5S
      go_wp2_with fail
      refine (md_collect D6.ma 0 x.collect.collect Z4.out rfl).mono ?_
      rintro e w7 ⟨rfl, S7, M7, k7⟩
      have D7 := D6.stepA M7 k7
      have o7 := o6.keep k7.1 u6S
      clear M7 k7 D6 o6 u6S
      go_wp2_with fail
      refine (md_now D7.mb tm Y1.out).mono ?_
      rintro e w8 ⟨rfl, S8, M8, k8⟩
      have D8 := D7.stepB M8 k8
      have o8 := o7.keep k8.1 u5T
      have u8T : ∀ g, (Value.slice A5 pl c5).ownBlock = some g → ¬ S8 g := fun g hg c => by
       rcases k8.2 g c with q | q
       ·exact u5T g hg q
       ·have := o7.lt hg; omega
      clear M8 k8 D7 o7 u5T
      go_wp2_with fail
      refine (md_pairs D8.mb tm ⟨by omega, by omega⟩ P Y2.out).mono ?_
      rintro e w9 ⟨u9, S9, rfl, o9, n9, M9, k9⟩
      have D9 := D8.stepB M9 k9
      have oA := o8.keep k9.1 u8T
      clear M9 k9 D8 o8 u8T n9
      go_wp2_with fail
      refine (same_pr oA o9 (by have := ZL.out; omega)).mono ?_
      rintro e wB ⟨rfl, dB, rfl⟩
      have DB := D9.quiet (drewN_keep _ _ dB)
      clear D9 oA o9
      go_wp2_with fail
      refine (awake19_any _).mono ?_
      rintro e wz ⟨rfl, bz⟩
      go_wp2
      go_ret
      exact ⟨rfl, DB.ma.fin bz⟩
theorem own : ownKnob Try.prog.godebug = none := by kernel_rfl
theorem laidOut : laidOutB Try.prog = true := by kernel_rfl
set_option maxRecDepth 100000 in
theorem lifted (os : Os) (started : os.Started) (H : Type) (enc : TypeId × Value → H) :
  ReturnsInHanded {} Try.checked os 15 .any (Rows.modelCollectsSpec.pre6 enc Try.prog Try.f15 Rows.modelCollectsRow.domain false) (Rows.modelCollectsSpec.post enc Try.prog Try.f15 false true false false) := by
 refine returnsInHanded_of_change (C := Try.checked) own started (by kernel_rfl) Try.func15
  (ChangeSpec.witness6 (enc := enc) (C := Try.checked) false ⟨#[], #[.slice none 0 0], []⟩ 8 (by kernel_rfl) (by kernel_rfl) (by kernel_rfl) (by kernel_rfl)) ?_
 intro W base args ds gs before hval0 hW hcnd _
 have hval : ∀ (j : Nat) t v, Try.f15.params[j]? = some t → args[j]? = some v → Value.okWide Try.prog W .any base t v := hval0
 have hW' := hW
 obtain ⟨p, q, hA0, hV, rfl, hfz, hnd⟩ := hW
 have hA : DataW.TrodAll enc Try.prog W 0 (fun _ => true) true Try.f15.params.toList args.toList ds p := hA0
 rw [Try.params15] at hA hval
 obtain ⟨v0, vs0, d0, ds0, p0, q0, hargs, rfl, rfl, h0, r0⟩ := trodAll_cons hA
 obtain ⟨rfl, rfl, rfl⟩ := trodAll_nil r0
 obtain rfl : args = #[v0] := by cases args; simp_all
 obtain ⟨rfl, rfl⟩ := trodVars_none hV
 obtain ⟨a0, len0, cap0, rfl⟩ := okWide_slice Try.underlying60 (hval 0 60 v0 rfl rfl)
 have k0 := h0
 have lt0 : ∀ x ∈ p0, x.block < W.heap.size := by obtain ⟨m, hm⟩ := k0; exact DataW.trod_lt m _ _ _ hm
 obtain ⟨z0, w0⟩ : ∃ f, IsActs W a0 len0 cap0 f := is_acts h0
 clear hA0 hval0
 refine (walk a0 len0 cap0 z0 W w0).mono fun e W' ⟨he, bel⟩ => ?_
 subst he
 exact ⟨_, rfl, _, _, _, [], _, [], hW', trodAll_mk1 (shut_bool Try.underlying4 _), (trodAll_cons_mk (Below.trod laidOut (by kernel_rfl) (of_decide_eq_true (by kernel_rfl)) k0 bel lt0) trodAll_mk0), rfl, bel.frame _, fun h => by cases h⟩
theorem over : Rows.modelCollectsRow.holds Try.pinned (OpenSpec.ofChange Rows.modelCollectsSpec) :=
 OpenClaim.holds_of_wide 15 Try.f15 rfl rfl rfl rfl rfl rfl rfl ⟨rfl, rfl, rfl, rfl, rfl⟩ rfl rfl rfl rfl rfl (by kernel_rfl) Try.func15 (by kernel_rfl)
  (of_decide_eq_true (by kernel_rfl)) (by unfold Func.isWrapper; first | (rw [if_pos (by decide +kernel)]; kernel_rfl) | (rw [if_neg (by decide +kernel)]; exact ⟨rfl, rfl⟩))
  (fun os started H enc _ => lifted os started H enc)
theorem proved : Rows.ModelCollectsSaid := over
end Go.Proofs.Ytkkjofefjepodaa.modelCollects
