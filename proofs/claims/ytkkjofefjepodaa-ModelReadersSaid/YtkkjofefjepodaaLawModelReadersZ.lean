/- Proved here: vinculumlaw19.ModelReaders returns true and leaves its arguments as they were, for any slice of ints and any slice of Acts; no further condition. -/
import Derived.Test.YtkkjofefjepodaaModelBaseZao
import Derived.Test.YtkkjofefjepodaaLawModelReadersZaa
import Derived.Test.YtkkjofefjepodaaModelBaseZab
import Derived.ChangeOld
import Derived.Deep.LoopGhost
import Derived.Deep.CutRange
import Derived.Deep.CutBlock
import Derived.Deep.RegionHeld3
namespace Go.Proofs.Ytkkjofefjepodaa.modelReaders
open Go.ChangeShapes Go.WideShapes Go.ChangeAt Go.RowKit
set_option linter.unusedVariables false
set_option linter.unusedSimpArgs false
theorem act_keep {w w' : World} {S : Nat → Prop} {b i : Nat} {o : ActI} (h : ActAt w b i o) (k : Keep S w w') (hn : ¬ S b) : ActAt w' b i o := ⟨k.cell h.c0 hn, k.cell h.c1 hn, k.cell h.c2 hn, k.cell h.c3 hn, k.cell h.c4 hn, k.cell h.c5 hn, k.cell h.c6 hn⟩
theorem op_set {w : World} {N : Nat} {o : OpI} (B : OpAt w N o) (o' : OpI) (z : ∀ i, w.frozen? ⟨N, i, none⟩ = false) :
  ∃ W, ((((w.setCell ⟨N, 0, none⟩ (.int .i64 o'.kind)).setCell ⟨N, 1, none⟩ (.int .i64 o'.key)).setCell ⟨N, 2, none⟩ (.int .i64 o'.hi)).setCell ⟨N, 3, none⟩ (.int .i64 o'.val)) = W ∧ OpAt W N o' ∧ Keep (fun g => g = N) w W := by
 obtain ⟨c0, c1, c2, c3⟩ := B
 have K : ∀ (w : World) (j : Nat) (x : Value), Keep (fun g => g = N) w (w.setCell ⟨N, j, none⟩ x) := fun w j x => (Keep.refl (fun g => g = N) w).setCell (p := ⟨N, j, none⟩) rfl _
 refine ⟨_, rfl, ⟨?_, ?_, ?_, ?_⟩, (((K _ 0 _).trans (K _ 1 _)).trans (K _ 2 _)).trans (K _ 3 _)⟩
 ·rw [World.cell?_setCell_other _ _ _ _ (by first | (simp; done) | (simp; omega)), World.cell?_setCell_other _ _ _ _ (by first | (simp; done) | (simp; omega)), World.cell?_setCell_other _ _ _ _ (by first | (simp; done) | (simp; omega))]; exact World.cell?_setCell_same _ _ _ c0
 ·rw [World.cell?_setCell_other _ _ _ _ (by first | (simp; done) | (simp; omega)), World.cell?_setCell_other _ _ _ _ (by first | (simp; done) | (simp; omega))]; exact World.cell?_setCell_same _ _ _ (by rw [World.cell?_setCell_other _ _ _ _ (by first | (simp; done) | (simp; omega))]; exact c1)
 ·rw [World.cell?_setCell_other _ _ _ _ (by first | (simp; done) | (simp; omega))]; exact World.cell?_setCell_same _ _ _ (by rw [World.cell?_setCell_other _ _ _ _ (by first | (simp; done) | (simp; omega)), World.cell?_setCell_other _ _ _ _ (by first | (simp; done) | (simp; omega))]; exact c2)
 ·exact World.cell?_setCell_same _ _ _ (by rw [World.cell?_setCell_other _ _ _ _ (by first | (simp; done) | (simp; omega)), World.cell?_setCell_other _ _ _ _ (by first | (simp; done) | (simp; omega)), World.cell?_setCell_other _ _ _ _ (by first | (simp; done) | (simp; omega))]; exact c3)
theorem rd_any {a b : Nat} {t : Int} {x : MoI} {k : Nat} (h : Rd a b t x) (hk : k < 8) (ha : a = 0) (hb : b = 8) (o : OpI) (hok : okI o = true) (ho : o.kind = 1 ∨ o.kind = 5) :
  ∃ e0 ve y, x.doE k o = e0 ∧ x.doR k o = ⟨ve, 0, [], 0, 0⟩ ∧ x.doM k o = y ∧ Rd a b t y ∧ (e0 = 0 ∨ e0 = 65) := by
 have hl : (x.s k).id ≠ 0 := (h.s k hk).2 ⟨by omega, by omega⟩
 rcases rd_do h hk hl o hok ho with ⟨e1, e2, e3⟩ | ⟨y, c, e1, e2, e3, e4⟩
 ·exact ⟨65, 0, x, e1, e2, e3, h, .inr rfl⟩
 ·exact ⟨0, c, y, e1, e2, e3, e4, .inl rfl⟩
def Rel1 (W : World) (m k : Nat) (iv : Value) (wr : World) : Prop := ∃ (S : Nat → Prop) (x : MoI), k ≤ 8 ∧ iv = .int .i64 k ∧ Rd 0 k k x ∧ x.made = k ∧ Md W wr m S x
def Rel2 (W : World) (m n1 k : Nat) (iv : Value) (wr : World) : Prop := ∃ (S : Nat → Prop) (x : MoI), k ≤ n1 ∧ k ≤ 60 ∧ iv = .int .i64 k ∧ Rd 0 8 8 x ∧ Md W wr m S x
def Rel3 (W : World) (m k : Nat) (iv : Value) (wr : World) : Prop := ∃ (S : Nat → Prop) (x : MoI), k ≤ 8 ∧ iv = .int .i64 k ∧ Rd k 8 (8 + k) x ∧ Md W wr m S x
set_option maxRecDepth 100000 in
set_option maxHeartbeats 16000000 in
theorem walk (a0 : Option Addr) (n0 c0 : Nat) (z0 : List Int) (a1 : Option Addr) (n1 c1 : Nat) (z1 : Nat → ActI) (w : World) (w0 : IsRow .i64 w a0 n0 c0 z0) (w1 : IsActs w a1 n1 c1 z1) :
  Calls Try.prog 12 #[.slice a0 n0 c0, .slice a1 n1 c1] w fun e w' => e = .returned (.bool true) ∧ Below w.heap.size w w' := by
 have lc0 := w0.cell
 have x0 := w0.max
 have i0 : ∀ j, -9223372036854775808 ≤ z0.getD j 0 ∧ z0.getD j 0 ≤ 9223372036854775807 := fun j => by have := range_i64 w0.wf j; rwa [List.getD_eq_getElem?_getD]
 have x1 := w1.max
 have lc1 := w1.cell
 have lo1 := w1.ok
 have T0 := Lib.hid rd_new
 clear w0 w1
 go_enter Try.func12, Try.ntmps12
 go_wp2_with fail
 refine (md_new w 5 100 (i64_n (by omega)) ⟨by omega, by omega⟩ rfl).mono ?_
 rintro e y1 ⟨m, S1, rfl, M1⟩
 go_wp2
 go_loopg [7] 8 (fun mm iv wr => ∃ k : Nat, mm + k = 8 ∧ Rel1 w m k iv wr)
 case atStart => exact ⟨0, by omega, S1, _, by omega, rfl, T0.out, rfl, M1⟩
 case round =>
  obtain ⟨k, hgk, S, x, k8, rfl, R, mk, M2⟩ := hrel
  clear M1 T0
  by_cases hlt : k < 8
  ·have dk : decide ((k : Int) < 8) = true := decide_eq_true (by omega)
   have wk : IntKind.i64.wrap ((k : Int) + 1) = (k : Int) + 1 := IntWalk.i64_in _ (by omega)
   by_cases hl : k < n0
   ·obtain ⟨b, off, rfl, hb, hc⟩ := lc0 (by omega)
    have e1 := hc k (by omega)
    obtain ⟨a, ea⟩ : ∃ a, z0.getD k 0 = a := ⟨_, rfl⟩
    rw [ea] at e1
    have d1 := (M2.b.cell (p := ⟨b, off + k, none⟩) hb).trans e1
    obtain ⟨q, l, hq1, hq2, hq3, l0, l2, q0, q1, lw, lw1⟩ := lev a
    obtain ⟨y, g1, g2, g3, g4, g5⟩ := rd_beg R hlt mk (by omega) (l + 1) (by omega)
    have G1 := Lib.hid g1
    have G2 := Lib.hid g2
    have G3 := Lib.hid g3
    have G4 := Lib.hid g4
    have G5 := Lib.hid g5
    clear g1 g2 g3 g4 g5 R mk e1 ea hc lc0 lc1 lo1 i0
    go_wp2_with fail; refine (md_begin M2 k (l + 1) (i64_n (by omega)) (i64_n (by omega)) ((k + 1 : Nat) : Int) 0 y G2.out G1.out G3.out).mono ?_; rintro e w3 ⟨rfl, S3, M3, k3⟩; clear k3 M2; go_wp2_with fail; go_roundg (8 - (k + 1)); (case measure => omega); (case rel => exact ⟨k + 1, by omega, S3, y, by omega, by go_num, G4.out, G5.out, M3⟩)
   ·obtain ⟨y, g1, g2, g3, g4, g5⟩ := rd_beg R hlt mk (by omega) 3 (by omega)
    have G1 := Lib.hid g1
    have G2 := Lib.hid g2
    have G3 := Lib.hid g3
    have G4 := Lib.hid g4
    have G5 := Lib.hid g5
    clear g1 g2 g3 g4 g5 R mk lc0 lc1 lo1 i0
    go_wp2_with fail; refine (md_begin M2 k 3 (i64_n (by omega)) (i64_n (by omega)) ((k + 1 : Nat) : Int) 0 y G2.out G1.out G3.out).mono ?_; rintro e w3 ⟨rfl, S3, M3, k3⟩; clear k3 M2; go_wp2_with fail; go_roundg (8 - (k + 1)); (case measure => omega); (case rel => exact ⟨k + 1, by omega, S3, y, by omega, by go_num, G4.out, G5.out, M3⟩)
  ·obtain rfl : k = 8 := by omega
   have R8 := Lib.hid R
   clear R mk lc0 i0
   go_wp2
   go_loopg [11] 60 (fun mm iv wr => ∃ k : Nat, mm + k = 60 ∧ Rel2 w m n1 k iv wr)
   case atStart => exact ⟨0, by omega, S, x, by omega, by omega, rfl, R8.out, M2⟩
   case round =>
    clear R8 M2
    obtain ⟨k, hgk, S, x, k0, k60, rfl, R, M2⟩ := hrel
    by_cases hlt : k < n1 ∧ k < 60
    ·obtain ⟨hl, h60⟩ := hlt
     obtain ⟨b, off, rfl, hbl, hc⟩ := lc1 (by omega)
     have ob := lo1 k hl
     have oc := act_keep (hc k hl) (Keep.of_below (Below.mono M2.b (Nat.le_refl _)) (fun _ => False)) id
     obtain ⟨o, eo⟩ : ∃ o, z1 k = o := ⟨_, rfl⟩
     rw [eo] at ob oc
     clear eo hc lc1 lo1
     obtain ⟨kd, s, lv, ok, oy, oh, ov⟩ := o
     obtain ⟨oc0, oc1, oc2, oc3, oc4, oc5, oc6⟩ := oc
     obtain ⟨b0, b1, b2, b3, b4, b5, b6⟩ := ob
     dsimp only at b0 b1 b2 b3 b4 b5 b6 oc0 oc1 oc2 oc3 oc4 oc5 oc6
     have wk : IntKind.i64.wrap ((k : Int) + 1) = (k : Int) + 1 := IntWalk.i64_in _ (by omega)
     have dk : decide ((k : Int) < 60) = true := decide_eq_true (by omega)
     have m63 := i64_mask oy 6 (by decide)
     change bits .and .i64 oy 63 = oy % 64 at m63
     have m31 := i64_mask oy 5 (by decide)
     change bits .and .i64 oy 31 = oy % 32 at m31
     have m1 := i64_mask ok 1 (by decide)
     change bits .and .i64 ok 1 = ok % 2 at m1
     have m7 := i64_mask s 3 (by decide)
     change bits .and .i64 s 7 = s % 8 at m7
     obtain ⟨kk, ek⟩ : ∃ kk : Nat, s % 8 = (kk : Int) := ⟨(s % 8).toNat, by omega⟩
     have kk8 : kk < 8 := by omega
     rw [ek] at m7
     obtain ⟨ky, eky⟩ : ∃ ky, oy % 64 = ky := ⟨_, rfl⟩
     obtain ⟨ks, eks⟩ : ∃ ks, oy % 32 = ks := ⟨_, rfl⟩
     have yb : 0 ≤ ky ∧ ky ≤ 63 ∧ 0 ≤ ks ∧ ks ≤ 31 := by omega
     rw [eky] at m63
     rw [eks] at m31
     clear ek eky eks b0 b1 b2 b3 b4 b5 b6 oc0 oc2 oc5 oc6
     have hbr : b < wr.heap.size := Nat.lt_of_lt_of_le hbl M2.b.size
     go_upto_region 17 with fail
     obtain ⟨V, eV, B0, kV⟩ := op_box wr ⟨1, ky, 0, 0⟩
     have hz : ∀ i, (wr.alloc (.cells #[.int .i64 1, .int .i64 ky, .int .i64 0, .int .i64 0] 25)).frozen? ⟨wr.heap.size, i, none⟩ = false := fun i => by simp
     have hN : ¬ S wr.heap.size := fun e => absurd (M2.lt _ e) (Nat.lt_irrefl _)
     have hbN : b ≠ wr.heap.size := by omega
     have hNW : w.heap.size ≤ wr.heap.size := M2.b.size
     have hSb : ¬ S b := fun e => by have := M2.g _ e; omega
     obtain ⟨N, eN⟩ : ∃ N, wr.heap.size = N := ⟨_, rfl⟩
     dsimp only at eV
     rw [eV] at hz ⊢
     rw [eN] at B0 hN hbN hNW hz ⊢
     have M3 := M2.quiet kV
     replace oc1 := kV.cell oc1 id
     replace oc3 := kV.cell oc3 id
     replace oc4 := kV.cell oc4 id
     clear eV eN kV hbr hbl M2
     rcases Decidable.em (ok % 2 = 0) with h2 | h2
     ·rw [h2] at m1; obtain ⟨V2, eV2, B2, k2⟩ := op_set B0 ⟨5, ks, 40, 0⟩ hz; have M4 := M3.own k2 (fun g hg => by rw [hg]; exact ⟨hN, hNW⟩); obtain ⟨_, _, _, _⟩ := B0; replace oc1 := k2.cell oc1 hbN; obtain ⟨b0, b1, b2, b3⟩ := B2; dsimp only at eV2; clear M3
      have hok : okI ⟨5, ks, 40, 0⟩ = true := by unfold okI; simp; omega
      obtain ⟨e0, ve, y, g1, g2, g3, g4, g5⟩ := rd_any R kk8 rfl rfl ⟨5, ks, 40, 0⟩ hok (by simp)
      have G1 := Lib.hid g1
      have G2 := Lib.hid g2
      have G3 := Lib.hid g3
      have G4 := Lib.hid g4
      clear g1 g2 g3 g4 hok R
      go_upto_region 19 with fail
      clear oc3 oc4 m63 m31 m1
      refine wp_region_held_drew (S := fun w' => w'.cell? ⟨b, off + k * 7 + 1, none⟩ = some (.int .i64 s) ∧ w'.cell? ⟨N, 0, none⟩ = some (.int .i64 5) ∧ w'.cell? ⟨N, 1, none⟩ = some (.int .i64 ks) ∧ w'.cell? ⟨N, 2, none⟩ = some (.int .i64 40) ∧ w'.cell? ⟨N, 3, none⟩ = some (.int .i64 0)) (by kernel_rfl) ⟨oc1, b0, b1, b2, b3⟩ (fun hHeld => ?_)
      have M5 := M4.quiet (Keep.refl (fun _ => False) V2).drew
      obtain ⟨V3, eV3⟩ : ∃ V3, V2.drew = V3 := ⟨_, rfl⟩
      rw [eV3] at hHeld M5 ⊢
      clear eV3 oc1 b0 b1 b2 b3 M4
      refine wpAnyH_take (i := 0) (v := ?qvu0) rfl (by kernel_rfl) (by kernel_rfl) (by kernel_rfl) (fun _ _ _ h => h) (Or.inl ⟨by rfl, ?qyu0⟩) (by assumption) ?qru0; case qyu0 => ((intro w hSw; (try dsimp only at hSw); go_simp); try (with_reducible rfl))
      ((try simp only [List.getElem_toArray]); (try simp only [List.getElem_cons_succ]); (try simp only [List.getElem_cons_zero]); (try simp only [Act.put]); (try simp only [List.setIfInBounds_toArray]); (try simp only [List.set_cons_succ]); (try simp only [List.set_cons_zero]))
      refine wpAnyH_take (i := 1) (v := ?qvu1) rfl (by kernel_rfl) (by kernel_rfl) (by kernel_rfl) (fun _ _ _ h => h) (Or.inl ⟨by rfl, ?qyu1⟩) (by assumption) ?qru1; case qyu1 => ((intro w hSw; (try dsimp only at hSw); go_simp); try (with_reducible rfl))
      ((try simp only [List.getElem_toArray]); (try simp only [List.getElem_cons_succ]); (try simp only [List.getElem_cons_zero]); (try simp only [Act.put]); (try simp only [List.setIfInBounds_toArray]); (try simp only [List.set_cons_succ]); (try simp only [List.set_cons_zero]))
      refine wpAnyH_take (i := 2) (v := ?qvu2) rfl (by kernel_rfl) (by kernel_rfl) (by kernel_rfl) (fun _ _ _ h => h) (Or.inl ⟨by rfl, ?qyu2⟩) (by assumption) ?qru2; case qyu2 => ((intro w hSw; (try dsimp only at hSw); go_simp); try (with_reducible rfl))
      ((try simp only [List.getElem_toArray]); (try simp only [List.getElem_cons_succ]); (try simp only [List.getElem_cons_zero]); (try simp only [Act.put]); (try simp only [List.setIfInBounds_toArray]); (try simp only [List.set_cons_succ]); (try simp only [List.set_cons_zero]))
      refine wpAnyH_take (i := 3) (v := ?qvu3) rfl (by kernel_rfl) (by kernel_rfl) (by kernel_rfl) (fun _ _ _ h => h) (Or.inl ⟨by rfl, ?qyu3⟩) (by assumption) ?qru3; case qyu3 => ((intro w hSw; (try dsimp only at hSw); go_simp); try (with_reducible rfl))
      ((try simp only [List.getElem_toArray]); (try simp only [List.getElem_cons_succ]); (try simp only [List.getElem_cons_zero]); (try simp only [Act.put]); (try simp only [List.setIfInBounds_toArray]); (try simp only [List.set_cons_succ]); (try simp only [List.set_cons_zero]))
      refine wpAnyH_take (i := 4) (v := ?qvu4) rfl (by kernel_rfl) (by kernel_rfl) (by kernel_rfl) (fun _ _ _ h => h) (Or.inl ⟨by rfl, ?qyu4⟩) (by assumption) ?qru4; case qyu4 => ((intro w hSw; (try dsimp only at hSw); go_simp); try (with_reducible rfl))
      ((try simp only [List.getElem_toArray]); (try simp only [List.getElem_cons_succ]); (try simp only [List.getElem_cons_zero]); (try simp only [Act.put]); (try simp only [List.setIfInBounds_toArray]); (try simp only [List.set_cons_succ]); (try simp only [List.set_cons_zero]))
      refine wpAnyH_take (i := 5) (v := ?qvu5) rfl (by kernel_rfl) (by kernel_rfl) (by kernel_rfl) (fun _ _ _ h => h) (Or.inl ⟨by rfl, ?qyu5⟩) (by assumption) ?qru5; case qyu5 => ((intro w hSw; (try dsimp only at hSw); go_simp); try (with_reducible rfl))
      ((try simp only [List.getElem_toArray]); (try simp only [List.getElem_cons_succ]); (try simp only [List.getElem_cons_zero]); (try simp only [Act.put]); (try simp only [List.setIfInBounds_toArray]); (try simp only [List.set_cons_succ]); (try simp only [List.set_cons_zero]))
      refine wpAnyH_take (i := 6) (v := ?qvu6) rfl (by kernel_rfl) (by kernel_rfl) (by kernel_rfl) (fun _ _ _ h => h) (Or.inl ⟨by rfl, ?qyu6⟩) (by assumption) ?qru6; case qyu6 => ((intro w hSw; (try dsimp only at hSw); go_simp); try (with_reducible rfl))
      ((try simp only [List.getElem_toArray]); (try simp only [List.getElem_cons_succ]); (try simp only [List.getElem_cons_zero]); (try simp only [Act.put]); (try simp only [List.setIfInBounds_toArray]); (try simp only [List.set_cons_succ]); (try simp only [List.set_cons_zero]))
      refine wpAnyH_take (i := 7) (v := ?qvu7) rfl (by kernel_rfl) (by kernel_rfl) (by kernel_rfl) (fun _ _ _ h => h) (Or.inl ⟨by rfl, ?qyu7⟩) (by assumption) ?qru7; case qyu7 => ((intro w hSw; (try dsimp only at hSw); go_simp); try (with_reducible rfl))
      ((try simp only [List.getElem_toArray]); (try simp only [List.getElem_cons_succ]); (try simp only [List.getElem_cons_zero]); (try simp only [Act.put]); (try simp only [List.setIfInBounds_toArray]); (try simp only [List.set_cons_succ]); (try simp only [List.set_cons_zero]))
      refine wpAnyH_ready (rs := [8, 12]) (by kernel_rfl) (by simp) ?_
      refine AllReadyH.cons rfl (fun K hK => ?_) (AllReadyH.cons rfl (fun K hK => ?_) AllReadyH.nil)
      ·go_simp
       refine (md_res M5 kk 5 ks 40 0 (i64_n (by omega)) (i64_n (by omega)) (i64_n (by omega)) (i64_n (by omega)) i64_0 e0 ve 0 [] 0 0 y G1.out G2.out G3.out).mono ?_
       rintro e w6 ⟨A6, q6, c6, S6, rfl, o6, n6, M6, k6⟩
       obtain rfl : q6 = 0 := by obtain ⟨A', c', h⟩ := ownPr_len o6; cases h; rfl
       refine hK.out _ _ ⟨k6.1.cell hHeld.1 hSb, k6.1.cell hHeld.2.1 hN, k6.1.cell hHeld.2.2.1 hN, k6.1.cell hHeld.2.2.2.1 hN, k6.1.cell hHeld.2.2.2.2 hN⟩ (fun hHeld => ?_)
       clear hK K o6 n6 M5 k6
       ((try simp only [List.getElem_toArray]); (try simp only [List.getElem_cons_succ]); (try simp only [List.getElem_cons_zero]); (try simp only [Act.put]); (try simp only [List.setIfInBounds_toArray]); (try simp only [List.set_cons_succ]); (try simp only [List.set_cons_zero]))
       refine wpAnyH_take (i := 9) (v := ?qvu8) rfl (by kernel_rfl) (by kernel_rfl) (by kernel_rfl) (fun _ _ _ h => h) (Or.inl ⟨by rfl, ?qyu8⟩) (by assumption) ?qru8; case qyu8 => ((intro w hSw; (try dsimp only at hSw); go_simp); try (with_reducible rfl))
       ((try simp only [List.getElem_toArray]); (try simp only [List.getElem_cons_succ]); (try simp only [List.getElem_cons_zero]); (try simp only [Act.put]); (try simp only [List.setIfInBounds_toArray]); (try simp only [List.set_cons_succ]); (try simp only [List.set_cons_zero]))
       refine wpAnyH_take (i := 10) (v := ?qvu9) rfl (by kernel_rfl) (by kernel_rfl) (by kernel_rfl) (fun _ _ _ h => h) (Or.inl ⟨by rfl, ?qyu9⟩) (by assumption) ?qru9; case qyu9 => ((intro w hSw; (try dsimp only at hSw); go_simp); try (with_reducible rfl))
       ((try simp only [List.getElem_toArray]); (try simp only [List.getElem_cons_succ]); (try simp only [List.getElem_cons_zero]); (try simp only [Act.put]); (try simp only [List.setIfInBounds_toArray]); (try simp only [List.set_cons_succ]); (try simp only [List.set_cons_zero]))
       refine wpAnyH_take (i := 11) (v := ?qvu10) rfl (by kernel_rfl) (by kernel_rfl) (by kernel_rfl) (fun _ _ _ h => h) (Or.inl ⟨by rfl, ?qyu10⟩) (by assumption) ?qru10; case qyu10 => ((intro w hSw; (try dsimp only at hSw); go_simp); try (with_reducible rfl))
       ((try simp only [List.getElem_toArray]); (try simp only [List.getElem_cons_succ]); (try simp only [List.getElem_cons_zero]); (try simp only [Act.put]); (try simp only [List.setIfInBounds_toArray]); (try simp only [List.set_cons_succ]); (try simp only [List.set_cons_zero]))
       obtain ⟨w7, eM7, R7, kM7⟩ := res_box w6
       have M7 := M6.quiet kM7
       have nS7 : ¬ S6 w6.heap.size := fun e => absurd (M6.lt _ e) (Nat.lt_irrefl _)
       have nW7 : w.heap.size ≤ w6.heap.size := M6.b.size
       have nb7 : b ≠ w6.heap.size := by have := lt_of_cell hHeld.1; dsimp only at this; omega
       have nN7 : N ≠ w6.heap.size := by have := lt_of_cell hHeld.2.1; dsimp only at this; omega
       obtain ⟨N7, eN7⟩ : ∃ N7, w6.heap.size = N7 := ⟨_, rfl⟩
       rw [eN7] at R7 nS7 nW7 nb7 nN7
       refine wpAnyH_ready (rs := [12]) (by kernel_rfl) (by simp) ?_
       refine AllReadyH.cons rfl (fun K hK => ?_) AllReadyH.nil
       go_simp
       refine hK.out _ _ ⟨kM7.cell hHeld.1 id, kM7.cell hHeld.2.1 id, kM7.cell hHeld.2.2.1 id, kM7.cell hHeld.2.2.2.1 id, kM7.cell hHeld.2.2.2.2 id⟩ (fun hHeld => ?_)
       clear hK K kM7 M6
       ((try simp only [List.getElem_toArray]); (try simp only [List.getElem_cons_succ]); (try simp only [List.getElem_cons_zero]); (try simp only [Act.put]); (try simp only [List.setIfInBounds_toArray]); (try simp only [List.set_cons_succ]); (try simp only [List.set_cons_zero]))
       obtain ⟨W7, eW7⟩ : ∃ W7, (((((w7.setCell ⟨N7, 0, none⟩ (.int .i64 ve)).setCell ⟨N7, 1, none⟩ (.int .i64 0)).setCell ⟨N7, 2, none⟩ (.slice A6 0 c6)).setCell ⟨N7, 3, none⟩ (.int .i64 0)).setCell ⟨N7, 4, none⟩ (.int .i64 0)) = W7 := ⟨_, rfl⟩
       obtain ⟨⟨v0, v1, v2, v3, v4, vz⟩, k7⟩ := res_set R7 _ _ _ _ _ eW7
       have M8 := M7.own k7 (fun g hg => by rw [hg]; exact ⟨nS7, nW7⟩)
       obtain ⟨q0, q1, q2, q3, q4, f0⟩ := R7
       refine wpAnyH_ready (rs := [13]) (by kernel_rfl) (by simp) ?_
       refine AllReadyH.cons rfl (fun K hK => ?_) AllReadyH.nil
       go_simp
       go_simp
       refine hK.out _ _ ⟨k7.cell hHeld.1 nb7, k7.cell hHeld.2.1 nN7, k7.cell hHeld.2.2.1 nN7, k7.cell hHeld.2.2.2.1 nN7, k7.cell hHeld.2.2.2.2 nN7⟩ (fun hHeld => ?_)
       clear hK K
       ((try simp only [List.getElem_toArray]); (try simp only [List.getElem_cons_succ]); (try simp only [List.getElem_cons_zero]); (try simp only [Act.put]); (try simp only [List.setIfInBounds_toArray]); (try simp only [List.set_cons_succ]); (try simp only [List.set_cons_zero]))
       refine wpAnyH_take (i := 14) (v := ?qvu11) rfl (by kernel_rfl) (by kernel_rfl) (by kernel_rfl) (fun _ _ _ h => h) (Or.inl ⟨by rfl, ?qyu11⟩) (by assumption) ?qru11; case qyu11 => ((intro w hSw; (try dsimp only at hSw); go_simp); try (with_reducible rfl))
       ((try simp only [List.getElem_toArray]); (try simp only [List.getElem_cons_succ]); (try simp only [List.getElem_cons_zero]); (try simp only [Act.put]); (try simp only [List.setIfInBounds_toArray]); (try simp only [List.set_cons_succ]); (try simp only [List.set_cons_zero]))
       refine wpAnyH_done (by kernel_rfl) ?_ _
       rcases g5 with rfl | rfl
       all_goals go_wp2_with fail
       all_goals go_roundg (60 - (k + 1))
       all_goals first | omega | exact ⟨k + 1, by omega, S6, y, by omega, by omega, by go_num, G4.out, M8⟩
      ·obtain ⟨w7, eM7, R7, kM7⟩ := res_box V3
       have M7' := M5.quiet kM7
       have nS7' : ¬ S V3.heap.size := fun e => absurd (M5.lt _ e) (Nat.lt_irrefl _)
       have nW7 : w.heap.size ≤ V3.heap.size := M5.b.size
       have nb7 : b ≠ V3.heap.size := by have := lt_of_cell hHeld.1; dsimp only at this; omega
       have nN7 : N ≠ V3.heap.size := by have := lt_of_cell hHeld.2.1; dsimp only at this; omega
       have nl7 : V3.heap.size < w7.heap.size := by rw [← eM7, World.size_alloc]; omega
       obtain ⟨N7, eN7⟩ : ∃ N7, V3.heap.size = N7 := ⟨_, rfl⟩
       rw [eN7] at R7 nS7' nW7 nb7 nN7 nl7
       go_simp
       refine hK.out _ _ ⟨kM7.cell hHeld.1 id, kM7.cell hHeld.2.1 id, kM7.cell hHeld.2.2.1 id, kM7.cell hHeld.2.2.2.1 id, kM7.cell hHeld.2.2.2.2 id⟩ (fun hHeld => ?_)
       clear hK K kM7 M5
       ((try simp only [List.getElem_toArray]); (try simp only [List.getElem_cons_succ]); (try simp only [List.getElem_cons_zero]); (try simp only [Act.put]); (try simp only [List.setIfInBounds_toArray]); (try simp only [List.set_cons_succ]); (try simp only [List.set_cons_zero]))
       refine wpAnyH_ready (rs := [8]) (by kernel_rfl) (by simp) ?_
       refine AllReadyH.cons rfl (fun K hK => ?_) AllReadyH.nil
       go_simp
       refine (md_res M7' kk 5 ks 40 0 (i64_n (by omega)) (i64_n (by omega)) (i64_n (by omega)) (i64_n (by omega)) i64_0 e0 ve 0 [] 0 0 y G1.out G2.out G3.out).mono ?_
       rintro e w6 ⟨A6, q6, c6, S6, rfl, o6, n6, M6, k6⟩
       obtain rfl : q6 = 0 := by obtain ⟨A', c', h⟩ := ownPr_len o6; cases h; rfl
       have R7 := R7.keep k6.1 nS7'
       have nS7 : ¬ S6 N7 := fun e => by rcases k6.2 _ e with c | c; exact nS7' c; omega
       have M7 := M6
       refine hK.out _ _ ⟨k6.1.cell hHeld.1 hSb, k6.1.cell hHeld.2.1 hN, k6.1.cell hHeld.2.2.1 hN, k6.1.cell hHeld.2.2.2.1 hN, k6.1.cell hHeld.2.2.2.2 hN⟩ (fun hHeld => ?_)
       clear hK K o6 n6 M7' k6
       ((try simp only [List.getElem_toArray]); (try simp only [List.getElem_cons_succ]); (try simp only [List.getElem_cons_zero]); (try simp only [Act.put]); (try simp only [List.setIfInBounds_toArray]); (try simp only [List.set_cons_succ]); (try simp only [List.set_cons_zero]))
       refine wpAnyH_take (i := 9) (v := ?qvu12) rfl (by kernel_rfl) (by kernel_rfl) (by kernel_rfl) (fun _ _ _ h => h) (Or.inl ⟨by rfl, ?qyu12⟩) (by assumption) ?qru12; case qyu12 => ((intro w hSw; (try dsimp only at hSw); go_simp); try (with_reducible rfl))
       ((try simp only [List.getElem_toArray]); (try simp only [List.getElem_cons_succ]); (try simp only [List.getElem_cons_zero]); (try simp only [Act.put]); (try simp only [List.setIfInBounds_toArray]); (try simp only [List.set_cons_succ]); (try simp only [List.set_cons_zero]))
       refine wpAnyH_take (i := 10) (v := ?qvu13) rfl (by kernel_rfl) (by kernel_rfl) (by kernel_rfl) (fun _ _ _ h => h) (Or.inl ⟨by rfl, ?qyu13⟩) (by assumption) ?qru13; case qyu13 => ((intro w hSw; (try dsimp only at hSw); go_simp); try (with_reducible rfl))
       ((try simp only [List.getElem_toArray]); (try simp only [List.getElem_cons_succ]); (try simp only [List.getElem_cons_zero]); (try simp only [Act.put]); (try simp only [List.setIfInBounds_toArray]); (try simp only [List.set_cons_succ]); (try simp only [List.set_cons_zero]))
       refine wpAnyH_take (i := 11) (v := ?qvu14) rfl (by kernel_rfl) (by kernel_rfl) (by kernel_rfl) (fun _ _ _ h => h) (Or.inl ⟨by rfl, ?qyu14⟩) (by assumption) ?qru14; case qyu14 => ((intro w hSw; (try dsimp only at hSw); go_simp); try (with_reducible rfl))
       ((try simp only [List.getElem_toArray]); (try simp only [List.getElem_cons_succ]); (try simp only [List.getElem_cons_zero]); (try simp only [Act.put]); (try simp only [List.setIfInBounds_toArray]); (try simp only [List.set_cons_succ]); (try simp only [List.set_cons_zero]))
       obtain ⟨W7, eW7⟩ : ∃ W7, (((((w6.setCell ⟨N7, 0, none⟩ (.int .i64 ve)).setCell ⟨N7, 1, none⟩ (.int .i64 0)).setCell ⟨N7, 2, none⟩ (.slice A6 0 c6)).setCell ⟨N7, 3, none⟩ (.int .i64 0)).setCell ⟨N7, 4, none⟩ (.int .i64 0)) = W7 := ⟨_, rfl⟩
       obtain ⟨⟨v0, v1, v2, v3, v4, vz⟩, k7⟩ := res_set R7 _ _ _ _ _ eW7
       have M8 := M7.own k7 (fun g hg => by rw [hg]; exact ⟨nS7, nW7⟩)
       obtain ⟨q0, q1, q2, q3, q4, f0⟩ := R7
       refine wpAnyH_ready (rs := [13]) (by kernel_rfl) (by simp) ?_
       refine AllReadyH.cons rfl (fun K hK => ?_) AllReadyH.nil
       go_simp
       go_simp
       refine hK.out _ _ ⟨k7.cell hHeld.1 nb7, k7.cell hHeld.2.1 nN7, k7.cell hHeld.2.2.1 nN7, k7.cell hHeld.2.2.2.1 nN7, k7.cell hHeld.2.2.2.2 nN7⟩ (fun hHeld => ?_)
       clear hK K
       ((try simp only [List.getElem_toArray]); (try simp only [List.getElem_cons_succ]); (try simp only [List.getElem_cons_zero]); (try simp only [Act.put]); (try simp only [List.setIfInBounds_toArray]); (try simp only [List.set_cons_succ]); (try simp only [List.set_cons_zero]))
       refine wpAnyH_take (i := 14) (v := ?qvu15) rfl (by kernel_rfl) (by kernel_rfl) (by kernel_rfl) (fun _ _ _ h => h) (Or.inl ⟨by rfl, ?qyu15⟩) (by assumption) ?qru15; case qyu15 => ((intro w hSw; (try dsimp only at hSw); go_simp); try (with_reducible rfl))
       ((try simp only [List.getElem_toArray]); (try simp only [List.getElem_cons_succ]); (try simp only [List.getElem_cons_zero]); (try simp only [Act.put]); (try simp only [List.setIfInBounds_toArray]); (try simp only [List.set_cons_succ]); (try simp only [List.set_cons_zero]))
       refine wpAnyH_done (by kernel_rfl) ?_ _
       rcases g5 with rfl | rfl
       all_goals go_wp2_with fail
       all_goals go_roundg (60 - (k + 1))
       all_goals first | omega | exact ⟨k + 1, by omega, S6, y, by omega, by omega, by go_num, G4.out, M8⟩
     ·rw [(by omega : ok % 2 = 1)] at m1; obtain ⟨V2, eV2⟩ : ∃ V2, V = V2 := ⟨_, rfl⟩; have M4 := M3; rw [eV2] at B0 oc1 oc3 oc4 M4; obtain ⟨b0, b1, b2, b3⟩ := B0; clear M3
      have hok : okI ⟨1, ky, 0, 0⟩ = true := by unfold okI; simp; omega
      obtain ⟨e0, ve, y, g1, g2, g3, g4, g5⟩ := rd_any R kk8 rfl rfl ⟨1, ky, 0, 0⟩ hok (by simp)
      have G1 := Lib.hid g1
      have G2 := Lib.hid g2
      have G3 := Lib.hid g3
      have G4 := Lib.hid g4
      clear g1 g2 g3 g4 hok R
      go_upto_region 19 with fail
      clear oc3 oc4 m63 m31 m1
      refine wp_region_held_drew (S := fun w' => w'.cell? ⟨b, off + k * 7 + 1, none⟩ = some (.int .i64 s) ∧ w'.cell? ⟨N, 0, none⟩ = some (.int .i64 1) ∧ w'.cell? ⟨N, 1, none⟩ = some (.int .i64 ky) ∧ w'.cell? ⟨N, 2, none⟩ = some (.int .i64 0) ∧ w'.cell? ⟨N, 3, none⟩ = some (.int .i64 0)) (by kernel_rfl) ⟨oc1, b0, b1, b2, b3⟩ (fun hHeld => ?_)
      have M5 := M4.quiet (Keep.refl (fun _ => False) V2).drew
      obtain ⟨V3, eV3⟩ : ∃ V3, V2.drew = V3 := ⟨_, rfl⟩
      rw [eV3] at hHeld M5 ⊢
      clear eV3 oc1 b0 b1 b2 b3 M4
      refine wpAnyH_take (i := 0) (v := ?qvu16) rfl (by kernel_rfl) (by kernel_rfl) (by kernel_rfl) (fun _ _ _ h => h) (Or.inl ⟨by rfl, ?qyu16⟩) (by assumption) ?qru16; case qyu16 => ((intro w hSw; (try dsimp only at hSw); go_simp); try (with_reducible rfl))
      ((try simp only [List.getElem_toArray]); (try simp only [List.getElem_cons_succ]); (try simp only [List.getElem_cons_zero]); (try simp only [Act.put]); (try simp only [List.setIfInBounds_toArray]); (try simp only [List.set_cons_succ]); (try simp only [List.set_cons_zero]))
      refine wpAnyH_take (i := 1) (v := ?qvu17) rfl (by kernel_rfl) (by kernel_rfl) (by kernel_rfl) (fun _ _ _ h => h) (Or.inl ⟨by rfl, ?qyu17⟩) (by assumption) ?qru17; case qyu17 => ((intro w hSw; (try dsimp only at hSw); go_simp); try (with_reducible rfl))
      ((try simp only [List.getElem_toArray]); (try simp only [List.getElem_cons_succ]); (try simp only [List.getElem_cons_zero]); (try simp only [Act.put]); (try simp only [List.setIfInBounds_toArray]); (try simp only [List.set_cons_succ]); (try simp only [List.set_cons_zero]))
      refine wpAnyH_take (i := 2) (v := ?qvu18) rfl (by kernel_rfl) (by kernel_rfl) (by kernel_rfl) (fun _ _ _ h => h) (Or.inl ⟨by rfl, ?qyu18⟩) (by assumption) ?qru18; case qyu18 => ((intro w hSw; (try dsimp only at hSw); go_simp); try (with_reducible rfl))
      ((try simp only [List.getElem_toArray]); (try simp only [List.getElem_cons_succ]); (try simp only [List.getElem_cons_zero]); (try simp only [Act.put]); (try simp only [List.setIfInBounds_toArray]); (try simp only [List.set_cons_succ]); (try simp only [List.set_cons_zero]))
      refine wpAnyH_take (i := 3) (v := ?qvu19) rfl (by kernel_rfl) (by kernel_rfl) (by kernel_rfl) (fun _ _ _ h => h) (Or.inl ⟨by rfl, ?qyu19⟩) (by assumption) ?qru19; case qyu19 => ((intro w hSw; (try dsimp only at hSw); go_simp); try (with_reducible rfl))
      ((try simp only [List.getElem_toArray]); (try simp only [List.getElem_cons_succ]); (try simp only [List.getElem_cons_zero]); (try simp only [Act.put]); (try simp only [List.setIfInBounds_toArray]); (try simp only [List.set_cons_succ]); (try simp only [List.set_cons_zero]))
      refine wpAnyH_take (i := 4) (v := ?qvu20) rfl (by kernel_rfl) (by kernel_rfl) (by kernel_rfl) (fun _ _ _ h => h) (Or.inl ⟨by rfl, ?qyu20⟩) (by assumption) ?qru20; case qyu20 => ((intro w hSw; (try dsimp only at hSw); go_simp); try (with_reducible rfl))
      ((try simp only [List.getElem_toArray]); (try simp only [List.getElem_cons_succ]); (try simp only [List.getElem_cons_zero]); (try simp only [Act.put]); (try simp only [List.setIfInBounds_toArray]); (try simp only [List.set_cons_succ]); (try simp only [List.set_cons_zero]))
      refine wpAnyH_take (i := 5) (v := ?qvu21) rfl (by kernel_rfl) (by kernel_rfl) (by kernel_rfl) (fun _ _ _ h => h) (Or.inl ⟨by rfl, ?qyu21⟩) (by assumption) ?qru21; case qyu21 => ((intro w hSw; (try dsimp only at hSw); go_simp); try (with_reducible rfl))
      ((try simp only [List.getElem_toArray]); (try simp only [List.getElem_cons_succ]); (try simp only [List.getElem_cons_zero]); (try simp only [Act.put]); (try simp only [List.setIfInBounds_toArray]); (try simp only [List.set_cons_succ]); (try simp only [List.set_cons_zero]))
      refine wpAnyH_take (i := 6) (v := ?qvu22) rfl (by kernel_rfl) (by kernel_rfl) (by kernel_rfl) (fun _ _ _ h => h) (Or.inl ⟨by rfl, ?qyu22⟩) (by assumption) ?qru22; case qyu22 => ((intro w hSw; (try dsimp only at hSw); go_simp); try (with_reducible rfl))
      ((try simp only [List.getElem_toArray]); (try simp only [List.getElem_cons_succ]); (try simp only [List.getElem_cons_zero]); (try simp only [Act.put]); (try simp only [List.setIfInBounds_toArray]); (try simp only [List.set_cons_succ]); (try simp only [List.set_cons_zero]))
      refine wpAnyH_take (i := 7) (v := ?qvu23) rfl (by kernel_rfl) (by kernel_rfl) (by kernel_rfl) (fun _ _ _ h => h) (Or.inl ⟨by rfl, ?qyu23⟩) (by assumption) ?qru23; case qyu23 => ((intro w hSw; (try dsimp only at hSw); go_simp); try (with_reducible rfl))
      ((try simp only [List.getElem_toArray]); (try simp only [List.getElem_cons_succ]); (try simp only [List.getElem_cons_zero]); (try simp only [Act.put]); (try simp only [List.setIfInBounds_toArray]); (try simp only [List.set_cons_succ]); (try simp only [List.set_cons_zero]))
      refine wpAnyH_ready (rs := [8, 12]) (by kernel_rfl) (by simp) ?_
      refine AllReadyH.cons rfl (fun K hK => ?_) (AllReadyH.cons rfl (fun K hK => ?_) AllReadyH.nil)
      ·go_simp
       refine (md_res M5 kk 1 ky 0 0 (i64_n (by omega)) (i64_n (by omega)) (i64_n (by omega)) (i64_n (by omega)) i64_0 e0 ve 0 [] 0 0 y G1.out G2.out G3.out).mono ?_
       rintro e w6 ⟨A6, q6, c6, S6, rfl, o6, n6, M6, k6⟩
       obtain rfl : q6 = 0 := by obtain ⟨A', c', h⟩ := ownPr_len o6; cases h; rfl
       refine hK.out _ _ ⟨k6.1.cell hHeld.1 hSb, k6.1.cell hHeld.2.1 hN, k6.1.cell hHeld.2.2.1 hN, k6.1.cell hHeld.2.2.2.1 hN, k6.1.cell hHeld.2.2.2.2 hN⟩ (fun hHeld => ?_)
       clear hK K o6 n6 M5 k6
       ((try simp only [List.getElem_toArray]); (try simp only [List.getElem_cons_succ]); (try simp only [List.getElem_cons_zero]); (try simp only [Act.put]); (try simp only [List.setIfInBounds_toArray]); (try simp only [List.set_cons_succ]); (try simp only [List.set_cons_zero]))
       refine wpAnyH_take (i := 9) (v := ?qvu24) rfl (by kernel_rfl) (by kernel_rfl) (by kernel_rfl) (fun _ _ _ h => h) (Or.inl ⟨by rfl, ?qyu24⟩) (by assumption) ?qru24; case qyu24 => ((intro w hSw; (try dsimp only at hSw); go_simp); try (with_reducible rfl))
       ((try simp only [List.getElem_toArray]); (try simp only [List.getElem_cons_succ]); (try simp only [List.getElem_cons_zero]); (try simp only [Act.put]); (try simp only [List.setIfInBounds_toArray]); (try simp only [List.set_cons_succ]); (try simp only [List.set_cons_zero]))
       refine wpAnyH_take (i := 10) (v := ?qvu25) rfl (by kernel_rfl) (by kernel_rfl) (by kernel_rfl) (fun _ _ _ h => h) (Or.inl ⟨by rfl, ?qyu25⟩) (by assumption) ?qru25; case qyu25 => ((intro w hSw; (try dsimp only at hSw); go_simp); try (with_reducible rfl))
       ((try simp only [List.getElem_toArray]); (try simp only [List.getElem_cons_succ]); (try simp only [List.getElem_cons_zero]); (try simp only [Act.put]); (try simp only [List.setIfInBounds_toArray]); (try simp only [List.set_cons_succ]); (try simp only [List.set_cons_zero]))
       refine wpAnyH_take (i := 11) (v := ?qvu26) rfl (by kernel_rfl) (by kernel_rfl) (by kernel_rfl) (fun _ _ _ h => h) (Or.inl ⟨by rfl, ?qyu26⟩) (by assumption) ?qru26; case qyu26 => ((intro w hSw; (try dsimp only at hSw); go_simp); try (with_reducible rfl))
       ((try simp only [List.getElem_toArray]); (try simp only [List.getElem_cons_succ]); (try simp only [List.getElem_cons_zero]); (try simp only [Act.put]); (try simp only [List.setIfInBounds_toArray]); (try simp only [List.set_cons_succ]); (try simp only [List.set_cons_zero]))
       obtain ⟨w7, eM7, R7, kM7⟩ := res_box w6
       have M7 := M6.quiet kM7
       have nS7 : ¬ S6 w6.heap.size := fun e => absurd (M6.lt _ e) (Nat.lt_irrefl _)
       have nW7 : w.heap.size ≤ w6.heap.size := M6.b.size
       have nb7 : b ≠ w6.heap.size := by have := lt_of_cell hHeld.1; dsimp only at this; omega
       have nN7 : N ≠ w6.heap.size := by have := lt_of_cell hHeld.2.1; dsimp only at this; omega
       obtain ⟨N7, eN7⟩ : ∃ N7, w6.heap.size = N7 := ⟨_, rfl⟩
       rw [eN7] at R7 nS7 nW7 nb7 nN7
       refine wpAnyH_ready (rs := [12]) (by kernel_rfl) (by simp) ?_
       refine AllReadyH.cons rfl (fun K hK => ?_) AllReadyH.nil
       go_simp
       refine hK.out _ _ ⟨kM7.cell hHeld.1 id, kM7.cell hHeld.2.1 id, kM7.cell hHeld.2.2.1 id, kM7.cell hHeld.2.2.2.1 id, kM7.cell hHeld.2.2.2.2 id⟩ (fun hHeld => ?_)
       clear hK K kM7 M6
       ((try simp only [List.getElem_toArray]); (try simp only [List.getElem_cons_succ]); (try simp only [List.getElem_cons_zero]); (try simp only [Act.put]); (try simp only [List.setIfInBounds_toArray]); (try simp only [List.set_cons_succ]); (try simp only [List.set_cons_zero]))
       obtain ⟨W7, eW7⟩ : ∃ W7, (((((w7.setCell ⟨N7, 0, none⟩ (.int .i64 ve)).setCell ⟨N7, 1, none⟩ (.int .i64 0)).setCell ⟨N7, 2, none⟩ (.slice A6 0 c6)).setCell ⟨N7, 3, none⟩ (.int .i64 0)).setCell ⟨N7, 4, none⟩ (.int .i64 0)) = W7 := ⟨_, rfl⟩
       obtain ⟨⟨v0, v1, v2, v3, v4, vz⟩, k7⟩ := res_set R7 _ _ _ _ _ eW7
       have M8 := M7.own k7 (fun g hg => by rw [hg]; exact ⟨nS7, nW7⟩)
       obtain ⟨q0, q1, q2, q3, q4, f0⟩ := R7
       refine wpAnyH_ready (rs := [13]) (by kernel_rfl) (by simp) ?_
       refine AllReadyH.cons rfl (fun K hK => ?_) AllReadyH.nil
       go_simp
       go_simp
       refine hK.out _ _ ⟨k7.cell hHeld.1 nb7, k7.cell hHeld.2.1 nN7, k7.cell hHeld.2.2.1 nN7, k7.cell hHeld.2.2.2.1 nN7, k7.cell hHeld.2.2.2.2 nN7⟩ (fun hHeld => ?_)
       clear hK K
       ((try simp only [List.getElem_toArray]); (try simp only [List.getElem_cons_succ]); (try simp only [List.getElem_cons_zero]); (try simp only [Act.put]); (try simp only [List.setIfInBounds_toArray]); (try simp only [List.set_cons_succ]); (try simp only [List.set_cons_zero]))
       refine wpAnyH_take (i := 14) (v := ?qvu27) rfl (by kernel_rfl) (by kernel_rfl) (by kernel_rfl) (fun _ _ _ h => h) (Or.inl ⟨by rfl, ?qyu27⟩) (by assumption) ?qru27; case qyu27 => ((intro w hSw; (try dsimp only at hSw); go_simp); try (with_reducible rfl))
       ((try simp only [List.getElem_toArray]); (try simp only [List.getElem_cons_succ]); (try simp only [List.getElem_cons_zero]); (try simp only [Act.put]); (try simp only [List.setIfInBounds_toArray]); (try simp only [List.set_cons_succ]); (try simp only [List.set_cons_zero]))
       refine wpAnyH_done (by kernel_rfl) ?_ _
       rcases g5 with rfl | rfl
       all_goals go_wp2_with fail
       all_goals go_roundg (60 - (k + 1))
       all_goals first | omega | exact ⟨k + 1, by omega, S6, y, by omega, by omega, by go_num, G4.out, M8⟩
      ·obtain ⟨w7, eM7, R7, kM7⟩ := res_box V3
       have M7' := M5.quiet kM7
       have nS7' : ¬ S V3.heap.size := fun e => absurd (M5.lt _ e) (Nat.lt_irrefl _)
       have nW7 : w.heap.size ≤ V3.heap.size := M5.b.size
       have nb7 : b ≠ V3.heap.size := by have := lt_of_cell hHeld.1; dsimp only at this; omega
       have nN7 : N ≠ V3.heap.size := by have := lt_of_cell hHeld.2.1; dsimp only at this; omega
       have nl7 : V3.heap.size < w7.heap.size := by rw [← eM7, World.size_alloc]; omega
       obtain ⟨N7, eN7⟩ : ∃ N7, V3.heap.size = N7 := ⟨_, rfl⟩
       rw [eN7] at R7 nS7' nW7 nb7 nN7 nl7
       go_simp
       refine hK.out _ _ ⟨kM7.cell hHeld.1 id, kM7.cell hHeld.2.1 id, kM7.cell hHeld.2.2.1 id, kM7.cell hHeld.2.2.2.1 id, kM7.cell hHeld.2.2.2.2 id⟩ (fun hHeld => ?_)
       clear hK K kM7 M5
       ((try simp only [List.getElem_toArray]); (try simp only [List.getElem_cons_succ]); (try simp only [List.getElem_cons_zero]); (try simp only [Act.put]); (try simp only [List.setIfInBounds_toArray]); (try simp only [List.set_cons_succ]); (try simp only [List.set_cons_zero]))
       refine wpAnyH_ready (rs := [8]) (by kernel_rfl) (by simp) ?_
       refine AllReadyH.cons rfl (fun K hK => ?_) AllReadyH.nil
       go_simp
       refine (md_res M7' kk 1 ky 0 0 (i64_n (by omega)) (i64_n (by omega)) (i64_n (by omega)) (i64_n (by omega)) i64_0 e0 ve 0 [] 0 0 y G1.out G2.out G3.out).mono ?_
       rintro e w6 ⟨A6, q6, c6, S6, rfl, o6, n6, M6, k6⟩
       obtain rfl : q6 = 0 := by obtain ⟨A', c', h⟩ := ownPr_len o6; cases h; rfl
       have R7 := R7.keep k6.1 nS7'
       have nS7 : ¬ S6 N7 := fun e => by rcases k6.2 _ e with c | c; exact nS7' c; omega
       have M7 := M6
       refine hK.out _ _ ⟨k6.1.cell hHeld.1 hSb, k6.1.cell hHeld.2.1 hN, k6.1.cell hHeld.2.2.1 hN, k6.1.cell hHeld.2.2.2.1 hN, k6.1.cell hHeld.2.2.2.2 hN⟩ (fun hHeld => ?_)
       clear hK K o6 n6 M7' k6
       ((try simp only [List.getElem_toArray]); (try simp only [List.getElem_cons_succ]); (try simp only [List.getElem_cons_zero]); (try simp only [Act.put]); (try simp only [List.setIfInBounds_toArray]); (try simp only [List.set_cons_succ]); (try simp only [List.set_cons_zero]))
       refine wpAnyH_take (i := 9) (v := ?qvu28) rfl (by kernel_rfl) (by kernel_rfl) (by kernel_rfl) (fun _ _ _ h => h) (Or.inl ⟨by rfl, ?qyu28⟩) (by assumption) ?qru28; case qyu28 => ((intro w hSw; (try dsimp only at hSw); go_simp); try (with_reducible rfl))
       ((try simp only [List.getElem_toArray]); (try simp only [List.getElem_cons_succ]); (try simp only [List.getElem_cons_zero]); (try simp only [Act.put]); (try simp only [List.setIfInBounds_toArray]); (try simp only [List.set_cons_succ]); (try simp only [List.set_cons_zero]))
       refine wpAnyH_take (i := 10) (v := ?qvu29) rfl (by kernel_rfl) (by kernel_rfl) (by kernel_rfl) (fun _ _ _ h => h) (Or.inl ⟨by rfl, ?qyu29⟩) (by assumption) ?qru29; case qyu29 => ((intro w hSw; (try dsimp only at hSw); go_simp); try (with_reducible rfl))
       ((try simp only [List.getElem_toArray]); (try simp only [List.getElem_cons_succ]); (try simp only [List.getElem_cons_zero]); (try simp only [Act.put]); (try simp only [List.setIfInBounds_toArray]); (try simp only [List.set_cons_succ]); (try simp only [List.set_cons_zero]))
       refine wpAnyH_take (i := 11) (v := ?qvu30) rfl (by kernel_rfl) (by kernel_rfl) (by kernel_rfl) (fun _ _ _ h => h) (Or.inl ⟨by rfl, ?qyu30⟩) (by assumption) ?qru30; case qyu30 => ((intro w hSw; (try dsimp only at hSw); go_simp); try (with_reducible rfl))
       ((try simp only [List.getElem_toArray]); (try simp only [List.getElem_cons_succ]); (try simp only [List.getElem_cons_zero]); (try simp only [Act.put]); (try simp only [List.setIfInBounds_toArray]); (try simp only [List.set_cons_succ]); (try simp only [List.set_cons_zero]))
       obtain ⟨W7, eW7⟩ : ∃ W7, (((((w6.setCell ⟨N7, 0, none⟩ (.int .i64 ve)).setCell ⟨N7, 1, none⟩ (.int .i64 0)).setCell ⟨N7, 2, none⟩ (.slice A6 0 c6)).setCell ⟨N7, 3, none⟩ (.int .i64 0)).setCell ⟨N7, 4, none⟩ (.int .i64 0)) = W7 := ⟨_, rfl⟩
       obtain ⟨⟨v0, v1, v2, v3, v4, vz⟩, k7⟩ := res_set R7 _ _ _ _ _ eW7
       have M8 := M7.own k7 (fun g hg => by rw [hg]; exact ⟨nS7, nW7⟩)
       obtain ⟨q0, q1, q2, q3, q4, f0⟩ := R7
       refine wpAnyH_ready (rs := [13]) (by kernel_rfl) (by simp) ?_
       refine AllReadyH.cons rfl (fun K hK => ?_) AllReadyH.nil
       go_simp
       go_simp
       refine hK.out _ _ ⟨k7.cell hHeld.1 nb7, k7.cell hHeld.2.1 nN7, k7.cell hHeld.2.2.1 nN7, k7.cell hHeld.2.2.2.1 nN7, k7.cell hHeld.2.2.2.2 nN7⟩ (fun hHeld => ?_)
       clear hK K
       ((try simp only [List.getElem_toArray]); (try simp only [List.getElem_cons_succ]); (try simp only [List.getElem_cons_zero]); (try simp only [Act.put]); (try simp only [List.setIfInBounds_toArray]); (try simp only [List.set_cons_succ]); (try simp only [List.set_cons_zero]))
       refine wpAnyH_take (i := 14) (v := ?qvu31) rfl (by kernel_rfl) (by kernel_rfl) (by kernel_rfl) (fun _ _ _ h => h) (Or.inl ⟨by rfl, ?qyu31⟩) (by assumption) ?qru31; case qyu31 => ((intro w hSw; (try dsimp only at hSw); go_simp); try (with_reducible rfl))
       ((try simp only [List.getElem_toArray]); (try simp only [List.getElem_cons_succ]); (try simp only [List.getElem_cons_zero]); (try simp only [Act.put]); (try simp only [List.setIfInBounds_toArray]); (try simp only [List.set_cons_succ]); (try simp only [List.set_cons_zero]))
       refine wpAnyH_done (by kernel_rfl) ?_ _
       rcases g5 with rfl | rfl
       all_goals go_wp2_with fail
       all_goals go_roundg (60 - (k + 1))
       all_goals first | omega | exact ⟨k + 1, by omega, S6, y, by omega, by omega, by go_num, G4.out, M8⟩
    ·have R8 := Lib.hid R
     clear R lc1 lo1
     rcases (by omega : k = n1 ∨ (k < n1 ∧ k = 60)) with rfl | ⟨h1, rfl⟩
     ·go_wp2
      go_loopg [15] 8 (fun mm iv wr => ∃ k : Nat, mm + k = 8 ∧ Rel3 w m k iv wr)
      case atStart => exact ⟨0, by omega, S, x, by omega, rfl, R8.out, M2⟩
      case round =>
       clear R8 M2
       obtain ⟨j, hgj, S, x, j8, rfl, R, M2⟩ := hrel
       by_cases hj : j < 8
       ·have dj : decide ((j : Int) < 8) = true := decide_eq_true (by omega)
        have wj : IntKind.i64.wrap ((j : Int) + 1) = (j : Int) + 1 := IntWalk.i64_in _ (by omega)
        obtain ⟨y, g1, g2, g3, g4⟩ := rd_commit R hj (Nat.le_refl _) (by omega)
        have G1 := Lib.hid g1
        have G2 := Lib.hid g2
        have G3 := Lib.hid g3
        have G4 := Lib.hid g4
        clear g1 g2 g3 g4 R
        go_wp2_with fail; refine (md_res (M2.quiet (by repeat (first | exact Keep.refl _ _ | refine Keep.alloc ?_ _))) j 6 0 0 0 (i64_n (by omega)) (i64_n (by omega)) (i64_n (by omega)) (i64_n (by omega)) (i64_n (by omega)) 0 0 0 [] 3 0 y G1.out G2.out G3.out).mono ?_; rintro e w3 ⟨A3, q3, c3, S3, rfl, o3, n3, M3, k3⟩; clear o3 n3 k3 M2
        go_wp2_with fail
        go_roundg (8 - (j + 1))
        case measure => omega
        case rel => exact ⟨j + 1, by omega, S3, y, by omega, by go_num, by have := G4.out; rw [show (8 : Int) + (j : Int) + 1 = 8 + ((j + 1 : Nat) : Int) by omega] at this; exact this, M3.quiet ((Keep.refl _ _).alloc _)⟩
       ·obtain rfl : j = 8 := by omega
        obtain ⟨e1, e2, e3⟩ := rd_end R
        have E1 := Lib.hid e1
        have E2 := Lib.hid e2
        have E3 := Lib.hid e3
        clear e1 e2 e3 R hgj j8 hj
        go_wp2_with fail; refine (md_used (M2.quiet (by repeat (first | exact Keep.refl _ _ | refine Keep.alloc ?_ _))) 0 E2.out).mono ?_; rintro e w3 ⟨rfl, S3, M3, k3⟩; clear k3 M2
        go_wp2_with fail; refine (md_live (M3.quiet (by repeat (first | exact Keep.refl _ _ | refine Keep.alloc ?_ _))) [] E1.out).mono ?_; rintro e w4 ⟨u4, S4, rfl, o4, n4, M4, k4⟩; obtain ⟨A4, c4, rfl, _, _⟩ := OwnN.shapeN o4; clear M3
        go_wp2_with fail; refine (md_now (M4.quiet (by repeat (first | exact Keep.refl _ _ | refine Keep.alloc ?_ _))) 16 E3.out).mono ?_; rintro e w5 ⟨rfl, S5, M5, k5⟩; clear M4
        go_wp2_with fail
        refine (awake19_any _).mono ?_
        rintro e wz ⟨rfl, bz⟩
        go_wp2
        go_ret
        exact ⟨rfl, M5.fin bz⟩
     ·go_wp2
      go_loopg [15] 8 (fun mm iv wr => ∃ k : Nat, mm + k = 8 ∧ Rel3 w m k iv wr)
      case atStart => exact ⟨0, by omega, S, x, by omega, rfl, R8.out, M2⟩
      case round =>
       clear R8 M2
       obtain ⟨j, hgj, S, x, j8, rfl, R, M2⟩ := hrel
       by_cases hj : j < 8
       ·have dj : decide ((j : Int) < 8) = true := decide_eq_true (by omega)
        have wj : IntKind.i64.wrap ((j : Int) + 1) = (j : Int) + 1 := IntWalk.i64_in _ (by omega)
        obtain ⟨y, g1, g2, g3, g4⟩ := rd_commit R hj (Nat.le_refl _) (by omega)
        have G1 := Lib.hid g1
        have G2 := Lib.hid g2
        have G3 := Lib.hid g3
        have G4 := Lib.hid g4
        clear g1 g2 g3 g4 R
        go_wp2_with fail; refine (md_res (M2.quiet (by repeat (first | exact Keep.refl _ _ | refine Keep.alloc ?_ _))) j 6 0 0 0 (i64_n (by omega)) (i64_n (by omega)) (i64_n (by omega)) (i64_n (by omega)) (i64_n (by omega)) 0 0 0 [] 3 0 y G1.out G2.out G3.out).mono ?_; rintro e w3 ⟨A3, q3, c3, S3, rfl, o3, n3, M3, k3⟩; clear o3 n3 k3 M2
        go_wp2_with fail
        go_roundg (8 - (j + 1))
        case measure => omega
        case rel => exact ⟨j + 1, by omega, S3, y, by omega, by go_num, by have := G4.out; rw [show (8 : Int) + (j : Int) + 1 = 8 + ((j + 1 : Nat) : Int) by omega] at this; exact this, M3.quiet ((Keep.refl _ _).alloc _)⟩
       ·obtain rfl : j = 8 := by omega
        obtain ⟨e1, e2, e3⟩ := rd_end R
        have E1 := Lib.hid e1
        have E2 := Lib.hid e2
        have E3 := Lib.hid e3
        clear e1 e2 e3 R hgj j8 hj
        go_wp2_with fail; refine (md_used (M2.quiet (by repeat (first | exact Keep.refl _ _ | refine Keep.alloc ?_ _))) 0 E2.out).mono ?_; rintro e w3 ⟨rfl, S3, M3, k3⟩; clear k3 M2
        go_wp2_with fail; refine (md_live (M3.quiet (by repeat (first | exact Keep.refl _ _ | refine Keep.alloc ?_ _))) [] E1.out).mono ?_; rintro e w4 ⟨u4, S4, rfl, o4, n4, M4, k4⟩; obtain ⟨A4, c4, rfl, _, _⟩ := OwnN.shapeN o4; clear M3
        go_wp2_with fail; refine (md_now (M4.quiet (by repeat (first | exact Keep.refl _ _ | refine Keep.alloc ?_ _))) 16 E3.out).mono ?_; rintro e w5 ⟨rfl, S5, M5, k5⟩; clear M4
        go_wp2_with fail
        refine (awake19_any _).mono ?_
        rintro e wz ⟨rfl, bz⟩
        go_wp2
        go_ret
        exact ⟨rfl, M5.fin bz⟩
theorem own : ownKnob Try.prog.godebug = none := by kernel_rfl
theorem laidOut : laidOutB Try.prog = true := by kernel_rfl
set_option maxRecDepth 100000 in
theorem lifted (os : Os) (started : os.Started) (H : Type) (enc : TypeId × Value → H) :
  ReturnsInHanded {} Try.checked os 12 .any (Rows.modelReadersSpec.pre6 enc Try.prog Try.f12 Rows.modelReadersRow.domain false) (Rows.modelReadersSpec.post enc Try.prog Try.f12 false true false false) := by
 refine returnsInHanded_of_change (C := Try.checked) own started (by kernel_rfl) Try.func12
  (ChangeSpec.witness6 (enc := enc) (C := Try.checked) false ⟨#[], #[.slice none 0 0, .slice none 0 0], []⟩ 8 (by kernel_rfl) (by kernel_rfl) (by kernel_rfl) (by kernel_rfl)) ?_
 intro W base args ds gs before hval0 hW hcnd _
 have hval : ∀ (j : Nat) t v, Try.f12.params[j]? = some t → args[j]? = some v → Value.okWide Try.prog W .any base t v := hval0
 have hW' := hW
 obtain ⟨p, q, hA0, hV, rfl, hfz, hnd⟩ := hW
 have hA : DataW.TrodAll enc Try.prog W 0 (fun _ => true) true Try.f12.params.toList args.toList ds p := hA0
 rw [Try.params12] at hA hval
 obtain ⟨v0, vs0, d0, ds0, p0, q0, hargs, rfl, rfl, h0, r0⟩ := trodAll_cons hA
 obtain ⟨v1, vs1, d1, ds1, p1, q1, rfl, rfl, rfl, h1, r1⟩ := trodAll_cons r0
 obtain ⟨rfl, rfl, rfl⟩ := trodAll_nil r1
 obtain rfl : args = #[v0, v1] := by cases args; simp_all
 obtain ⟨rfl, rfl⟩ := trodVars_none hV
 obtain ⟨a0, len0, cap0, rfl⟩ := okWide_slice Try.underlying41 (hval 0 41 v0 rfl rfl)
 have k0 := h0
 have lt0 : ∀ x ∈ p0, x.block < W.heap.size := by obtain ⟨m, hm⟩ := k0; exact DataW.trod_lt m _ _ _ hm
 obtain ⟨z0, w0⟩ : ∃ zs, IsRow .i64 W a0 len0 cap0 zs := is_row Try.underlying41 Try.underlying3 (by kernel_rfl) h0
 obtain ⟨a1, len1, cap1, rfl⟩ := okWide_slice Try.underlying60 (hval 1 60 v1 rfl rfl)
 have k1 := h1
 have lt1 : ∀ x ∈ p1, x.block < W.heap.size := by obtain ⟨m, hm⟩ := k1; exact DataW.trod_lt m _ _ _ hm
 obtain ⟨z1, w1⟩ : ∃ f, IsActs W a1 len1 cap1 f := is_acts h1
 clear hA0 hval0
 refine (walk a0 len0 cap0 z0 a1 len1 cap1 z1 W w0 w1).mono fun e W' ⟨he, bel⟩ => ?_
 subst he
 exact ⟨_, rfl, _, _, _, [], _, [], hW', trodAll_mk1 (shut_bool Try.underlying4 _), (trodAll_cons_mk (Below.trod laidOut (by kernel_rfl) (of_decide_eq_true (by kernel_rfl)) k0 bel lt0) (trodAll_cons_mk (Below.trod laidOut (by kernel_rfl) (of_decide_eq_true (by kernel_rfl)) k1 bel lt1) trodAll_mk0)), rfl, bel.frame _, fun h => by cases h⟩
theorem over : Rows.modelReadersRow.holds Try.pinned (OpenSpec.ofChange Rows.modelReadersSpec) :=
 OpenClaim.holds_of_wide 12 Try.f12 rfl rfl rfl rfl rfl rfl rfl ⟨rfl, rfl, rfl, rfl, rfl⟩ rfl rfl rfl rfl rfl (by kernel_rfl) Try.func12 (by kernel_rfl)
  (of_decide_eq_true (by kernel_rfl)) (by unfold Func.isWrapper; first | (rw [if_pos (by decide +kernel)]; kernel_rfl) | (rw [if_neg (by decide +kernel)]; exact ⟨rfl, rfl⟩))
  (fun os started H enc _ => lifted os started H enc)
theorem proved : Rows.ModelReadersSaid := over
end Go.Proofs.Ytkkjofefjepodaa.modelReaders
