/- Package rec: Get; conditions: the Store is one that calls have made of an empty one, its count of accesses is at most 2^62, the link is a word of 64 bits. -/
import Derived.Test.YtmfpjnlplimkeaaGreatRecM
import Derived.RegionTactic
import Derived.BigQuiet
import Derived.Deep.RegionHeld3
namespace Go.Proofs.YtmfpjnlplimkeaaGreat
open Go.ChangeShapes Go.WideShapes Go.ChangeAt Go.RowKit
set_option linter.unusedVariables false

theorem five_set (w : World) (N : Nat) (u0 u1 u2 u3 u4 v0 v1 v2 v3 v4 : Value) (y0 : w.cell? ⟨N, 0, none⟩ = some u0) (y1 : w.cell? ⟨N, 1, none⟩ = some u1) (y2 : w.cell? ⟨N, 2, none⟩ = some u2) (y3 : w.cell? ⟨N, 3, none⟩ = some u3) (y4 : w.cell? ⟨N, 4, none⟩ = some u4) :
    ∃ W, (((((w.setCell ⟨N, 0, none⟩ v0).setCell ⟨N, 1, none⟩ v1).setCell ⟨N, 2, none⟩ v2).setCell ⟨N, 3, none⟩ v3).setCell ⟨N, 4, none⟩ v4) = W ∧ W.cell? ⟨N, 0, none⟩ = some v0 ∧ W.cell? ⟨N, 1, none⟩ = some v1 ∧ W.cell? ⟨N, 2, none⟩ = some v2 ∧ W.cell? ⟨N, 3, none⟩ = some v3 ∧ W.cell? ⟨N, 4, none⟩ = some v4 ∧ Keep (fun j => j = N) w W := by
  refine ⟨_, rfl, ?_, ?_, ?_, ?_, ?_, (((((Keep.refl (fun j => j = N) w).setCell (p := ⟨N, 0, none⟩) rfl v0).setCell (p := ⟨N, 1, none⟩) rfl v1).setCell (p := ⟨N, 2, none⟩) rfl v2).setCell (p := ⟨N, 3, none⟩) rfl v3).setCell (p := ⟨N, 4, none⟩) rfl v4⟩
  · rw [World.cell?_setCell_other _ _ _ _ (by first | (simp; done) | (simp; omega)), World.cell?_setCell_other _ _ _ _ (by first | (simp; done) | (simp; omega)), World.cell?_setCell_other _ _ _ _ (by first | (simp; done) | (simp; omega)), World.cell?_setCell_other _ _ _ _ (by first | (simp; done) | (simp; omega))]; exact World.cell?_setCell_same _ _ _ y0
  · rw [World.cell?_setCell_other _ _ _ _ (by first | (simp; done) | (simp; omega)), World.cell?_setCell_other _ _ _ _ (by first | (simp; done) | (simp; omega)), World.cell?_setCell_other _ _ _ _ (by first | (simp; done) | (simp; omega))]; exact World.cell?_setCell_same _ _ _ (by rw [World.cell?_setCell_other _ _ _ _ (by first | (simp; done) | (simp; omega))]; exact y1)
  · rw [World.cell?_setCell_other _ _ _ _ (by first | (simp; done) | (simp; omega)), World.cell?_setCell_other _ _ _ _ (by first | (simp; done) | (simp; omega))]; exact World.cell?_setCell_same _ _ _ (by rw [World.cell?_setCell_other _ _ _ _ (by first | (simp; done) | (simp; omega)), World.cell?_setCell_other _ _ _ _ (by first | (simp; done) | (simp; omega))]; exact y2)
  · rw [World.cell?_setCell_other _ _ _ _ (by first | (simp; done) | (simp; omega))]; exact World.cell?_setCell_same _ _ _ (by rw [World.cell?_setCell_other _ _ _ _ (by first | (simp; done) | (simp; omega)), World.cell?_setCell_other _ _ _ _ (by first | (simp; done) | (simp; omega)), World.cell?_setCell_other _ _ _ _ (by first | (simp; done) | (simp; omega))]; exact y3)
  · exact World.cell?_setCell_same _ _ _ (by rw [World.cell?_setCell_other _ _ _ _ (by first | (simp; done) | (simp; omega)), World.cell?_setCell_other _ _ _ _ (by first | (simp; done) | (simp; omega)), World.cell?_setCell_other _ _ _ _ (by first | (simp; done) | (simp; omega)), World.cell?_setCell_other _ _ _ _ (by first | (simp; done) | (simp; omega))]; exact y4)
theorem keep_fresh {T : Nat → Prop} {w W : World} {N : Nat} (k : Keep (fun j => T j ∨ j = N) w W) (h : w.heap.size ≤ N) : Keep T w W :=
  ⟨k.os, k.tape, k.output, k.size, fun j hj n => k.block j hj (fun q => by rcases q with q | q; exact n q; omega)⟩
def zeroV : Array Value := #[.int .i64 0, .int .i64 0, .int .u64 0, .int .u64 0, .int .u64 0]
/-- In the midst of Get: the Store, behind some looks at words, and the answer's own cells, at block N. -/
structure RG (w0 w : World) (N p pp : Nat) (Sp : Nat → Prop) (pa qa : Nat) (c : Int) (zs : List Int) (s : RS) : Prop where
  h : VCore w p pp Sp pa qa c zs s
  y : ∀ i, w.cell? ⟨N, i, none⟩ = zeroV[i]?
  z : ∀ i, w.frozen? ⟨N, i, none⟩ = false
  k : Keep (Two pa qa) w0 w
  nl : N < w.heap.size
  na : N ≠ pa
  nq : N ≠ qa
section
variable {w0 w : World} {N p pp pa qa : Nat} {Sp : Nat → Prop} {c : Int} {zs : List Int} {s : RS}
theorem RG.load (g : RG w0 w N p pp Sp pa qa c zs s) (i : Nat) (hi : i < zs.length) (x c2 : Int) (hx : zs.getD i 0 = x) (h1 : c < 9223372036854775807) (hc : c + 1 = c2) (hs : c2 ≤ s.c) :
    Calls Tryz.prog 39 #[.pointer (some ⟨pa, 0, none⟩), .int .i64 i] w fun e w' => e = .returned (.int .u64 x) ∧ RG w0 w' N p pp Sp pa qa c2 zs s := by
  subst hc
  refine (load_to i x (c + 1) g.h.ha hi g.h.n0 h1 hx rfl).mono ?_
  rintro e w' ⟨rfl, a, k⟩
  have hn : ¬ Two pa qa N := fun q => by rcases q with q | q; exact g.na q; exact g.nq q
  have hb := k.block N g.nl hn
  refine ⟨rfl, g.h.arena a k g.h.lay rfl (by have := g.h.n0; omega) hs, fun i => ?_, fun i => (World.frozen?_of_block (w := w) hb).trans (g.z i), g.k.trans k, Nat.lt_of_lt_of_le g.nl k.size, g.na, g.nq⟩
  rw [World.cell?_of_block (w := w) hb]
  exact g.y i
theorem RG.drew (g : RG w0 w N p pp Sp pa qa c zs s) : RG w0 w.drew N p pp Sp pa qa c zs s :=
  ⟨g.h.keep (Keep.refl (fun _ => False) w).drew (by simp) (by simp) (by simp) (by simp), g.y, g.z, g.k.drew, g.nl, g.na, g.nq⟩
end
section
variable {w : World} {p : Nat} {S : Nat → Prop} {s : RS}
theorem RG.start {w : World} {p pp pa qa : Nat} {Sp : Nat → Prop} {c : Int} {zs : List Int} {s : RS} (h : VCore w p pp Sp pa qa c zs s) : RG (w.alloc (.cells zeroV 126)) (w.alloc (.cells zeroV 126)) w.heap.size p pp Sp pa qa c zs s.tick := by
  have k := Keep.alloc (Keep.refl (fun _ => False) w) (.cells zeroV 126)
  have la := h.ha.lt
  have lq := h.ha.ws.lt
  exact ⟨(h.keep k (by simp) (by simp) (by simp) (by simp)).more rfl rfl (by show s.c ≤ s.c + 64; omega), fun i => World.cell?_alloc_new _ _ _ _, fun i => by simp, Keep.refl _ _, by simp, by omega, by omega⟩
set_option maxRecDepth 100000 in
theorem vget_no (h : VAt w p S s) (ok : ROk s) (l : Int) (hl : U64 l) (hd : s.s.live l = false) : Calls Tryz.prog 54 #[.pointer (some ⟨p, 0, none⟩), .int .u64 l] w (VPost (.tuple #[verV ⟨0, 0, 0, 0, 0⟩, .bool false]) p S s.tick w) := by
  have h0 := h
  obtain ⟨pp, Sp, pa, qa, c, zs, h, hS⟩ := h
  have G := RG.start h
  have k1 := Keep.alloc (Keep.refl (fun _ => False) w) (.cells zeroV 126)
  have hf := vfirst_no G.h ok.tick l hl hd
  have y := G.y
  have z := G.z
  have kN : w.heap.size < (w.alloc (.cells zeroV 126)).heap.size := G.nl
  obtain ⟨N, eN⟩ : ∃ N, w.heap.size = N := ⟨_, rfl⟩
  rw [eN] at y z
  go_enter Tryz.func54, Tryz.ntmps54
  go_wp2_with fail
  refine hf.mono ?_
  rintro e w1 ⟨rfl, rfl⟩
  obtain ⟨w1, e1⟩ : ∃ w1, w.alloc (.cells zeroV 126) = w1 := ⟨_, rfl⟩
  rw [e1] at y z
  have y0 : w1.cell? ⟨N, 0, none⟩ = some (.int .i64 0) := y 0
  have y1 : w1.cell? ⟨N, 1, none⟩ = some (.int .i64 0) := y 1
  have y2 : w1.cell? ⟨N, 2, none⟩ = some (.int .u64 0) := y 2
  have y3 : w1.cell? ⟨N, 3, none⟩ = some (.int .u64 0) := y 3
  have y4 : w1.cell? ⟨N, 4, none⟩ = some (.int .u64 0) := y 4
  have z0 := z 0
  have z1 := z 1
  have z2 := z 2
  have z3 := z 3
  have z4 := z 4
  have W5 := Lib.hid (five_set w1 N _ _ _ _ _ (.int .i64 0) (.int .i64 0) (.int .u64 0) (.int .u64 0) (.int .u64 0) y0 y1 y2 y3 y4)
  have gh := G.h
  rw [e1] at gh
  have gk : Keep (fun _ => False) w w1 := e1 ▸ k1
  clear y z
  go_wp2
  obtain ⟨W, eW, v0, v1, v2, v3, v4, kW⟩ := W5.out
  rw [eW]
  have hN := h0.lt
  have gW := gh.keep kW (by rintro rfl; have := hN _ ((hS _).2 (.inl rfl)); omega) (by rintro g hg rfl; have := hN _ ((hS _).2 (.inr (.inl hg))); omega) (by rintro rfl; have := hN _ ((hS _).2 (.inr (.inr (.inl rfl)))); omega) (by rintro rfl; have := hN _ ((hS _).2 (.inr (.inr (.inr rfl)))); omega)
  have kk : Keep (fun _ => False) w W := keep_fresh ((gk.mono (by simp)).trans (kW.mono (fun j hj => .inr hj))) (by omega)
  exact bodyPost_ret (v := .tuple #[verV ⟨0, 0, 0, 0, 0⟩, .bool false]) (by simp [results, Tryz.results54, go_sem, verV, v0, v1, v2, v3, v4]) rfl (VPost.of rfl gW hS (kk.mono (by simp)))
set_option maxRecDepth 100000 in
set_option maxHeartbeats 4000000 in
theorem vget_yes (h : VAt w p S s) (ok : ROk s) (hc : s.c ≤ 4611686018427387904) (l : Int) (hl : U64 l) (hd : s.s.live l = true) : Calls Tryz.prog 54 #[.pointer (some ⟨p, 0, none⟩), .int .u64 l] w (VPost (.tuple #[verV (s.ver (slotOf l)), .bool true]) p S s.tick w) := by
  have h0 := h
  obtain ⟨pp, Sp, pa, qa, c, zs, h, hS⟩ := h
  have G := RG.start h
  have k1 := Keep.alloc (Keep.refl (fun _ => False) w) (.cells zeroV 126)
  have ch := h.n1
  have cc : s.tick.c = s.c + 64 := rfl
  have w0 := h.word ok hd 0 (by omega)
  have w1 := h.word ok hd 1 (by omega)
  have w2 := h.word ok hd 2 (by omega)
  have w3 := h.word ok hd 3 (by omega)
  have w4 := h.word ok hd 4 (by omega)
  have xo := ok.v (slotOf l)
  obtain ⟨m, em⟩ : ∃ m, slotOf l * 5 = m := ⟨_, rfl⟩
  have hf := vfirst_yes G.h ok.tick l hd m em
  rw [em] at w0 w1 w2 w3 w4
  obtain ⟨x, ex⟩ : ∃ x, s.ver (slotOf l) = x := ⟨_, rfl⟩
  rw [ex] at w0 w1 w2 w3 w4 xo ⊢
  obtain ⟨xk, xv, xb, xe, xn⟩ := x
  have b0 : zs.getD m 0 = xk := w0.2.1
  have b1 : zs.getD (m + 1) 0 = xv := w1.2.1
  have b2 : zs.getD (m + 2) 0 = xb := w2.2.1
  have b3 : zs.getD (m + 3) 0 = xe := w3.2.1
  have b4 : zs.getD (m + 4) 0 = xn := w4.2.1
  have q0 : m + 4 < zs.length := w4.1
  have q1 : m + 4 ≤ 20480 := w4.2.2
  have k0 : 0 ≤ xk := xo.k0
  have k2 : xk ≤ 63 := xo.k1
  have v0 : 0 ≤ xv := xo.v0
  have v1 : xv ≤ 65535 := xo.v1
  clear w0 w1 w2 w3 w4 xo em ex hd hl
  have hN := h0.lt
  clear h0 h
  obtain ⟨N, eN⟩ : ∃ N, w.heap.size = N := ⟨_, rfl⟩
  rw [eN] at G
  have hNp : ¬ p = N := by rintro rfl; have := hN _ ((hS _).2 (.inl rfl)); omega
  have hNs : ∀ g, Sp g → ¬ g = N := by rintro g hg rfl; have := hN _ ((hS _).2 (.inr (.inl hg))); omega
  have hNa : ¬ pa = N := by rintro rfl; have := hN _ ((hS _).2 (.inr (.inr (.inl rfl)))); omega
  have hNq : ¬ qa = N := by rintro rfl; have := hN _ ((hS _).2 (.inr (.inr (.inr rfl)))); omega
  have X0 : IntKind.i64.wrap xk = xk := IntWalk.i64_in _ (by omega)
  have X1 : IntKind.i64.wrap xv = xv := IntWalk.i64_in _ (by omega)
  have W0 : IntKind.i64.wrap (m : Int) = (m : Int) := IntWalk.i64_in _ (by omega)
  have W1 : IntKind.i64.wrap ((m : Int) + 1) = ((m + 1 : Nat) : Int) := (IntWalk.i64_in _ (by omega)).trans (by omega)
  have W2 : IntKind.i64.wrap ((m : Int) + 2) = ((m + 2 : Nat) : Int) := (IntWalk.i64_in _ (by omega)).trans (by omega)
  have W3 : IntKind.i64.wrap ((m : Int) + 3) = ((m + 3 : Nat) : Int) := (IntWalk.i64_in _ (by omega)).trans (by omega)
  have W4 : IntKind.i64.wrap ((m : Int) + 4) = ((m + 4 : Nat) : Int) := (IntWalk.i64_in _ (by omega)).trans (by omega)
  go_enter Tryz.func54, Tryz.ntmps54
  go_wp2_with fail
  refine hf.mono ?_
  rintro e w1 ⟨rfl, rfl⟩
  obtain ⟨w1, e1⟩ : ∃ w1, w.alloc (.cells zeroV 126) = w1 := ⟨_, rfl⟩
  rw [e1] at G hf k1
  go_wp2_with fail
  refine wp_region_held_drew (S := (fun w' => w'.cell? ⟨p, 1, none⟩ = some (.pointer (some ⟨pa, 0, none⟩)))) (by kernel_rfl) G.h.c1 (fun hHeld => ?_)
  have G := G.drew
  refine wpAnyH_take (i := 0) (v := ?qvu0) rfl (by kernel_rfl) (by kernel_rfl) (by kernel_rfl) (fun _ _ _ h => h) (Or.inl ⟨by rfl, ?qyu0⟩) (by assumption) ?qru0; case qyu0 => ((intro w hSw; (try dsimp only at hSw); go_simp); try (with_reducible rfl))
  ((try simp only [List.getElem_toArray]); (try simp only [List.getElem_cons_succ]); (try simp only [List.getElem_cons_zero]); (try simp only [Act.put]); (try simp only [List.setIfInBounds_toArray]); (try simp only [List.set_cons_succ]); (try simp only [List.set_cons_zero]))
  refine wpAnyH_take (i := 1) (v := ?qvu1) rfl (by kernel_rfl) (by kernel_rfl) (by kernel_rfl) (fun _ _ _ h => h) (Or.inl ⟨by rfl, ?qyu1⟩) (by assumption) ?qru1; case qyu1 => ((intro w hSw; (try dsimp only at hSw); go_simp); try (with_reducible rfl))
  ((try simp only [List.getElem_toArray]); (try simp only [List.getElem_cons_succ]); (try simp only [List.getElem_cons_zero]); (try simp only [Act.put]); (try simp only [List.setIfInBounds_toArray]); (try simp only [List.set_cons_succ]); (try simp only [List.set_cons_zero]))
  refine wpAnyH_take (i := 2) (v := ?qvu2) rfl (by kernel_rfl) (by kernel_rfl) (by kernel_rfl) (fun _ _ _ h => h) (Or.inl ⟨by rfl, ?qyu2⟩) (by assumption) ?qru2; case qyu2 => ((intro w hSw; (try dsimp only at hSw); go_simp); try (with_reducible rfl))
  ((try simp only [List.getElem_toArray]); (try simp only [List.getElem_cons_succ]); (try simp only [List.getElem_cons_zero]); (try simp only [Act.put]); (try simp only [List.setIfInBounds_toArray]); (try simp only [List.set_cons_succ]); (try simp only [List.set_cons_zero]))
  refine wpAnyH_take (i := 3) (v := ?qvu3) rfl (by kernel_rfl) (by kernel_rfl) (by kernel_rfl) (fun _ _ _ h => h) (Or.inl ⟨by rfl, ?qyu3⟩) (by assumption) ?qru3; case qyu3 => ((intro w hSw; (try dsimp only at hSw); go_simp); try (with_reducible rfl))
  ((try simp only [List.getElem_toArray]); (try simp only [List.getElem_cons_succ]); (try simp only [List.getElem_cons_zero]); (try simp only [Act.put]); (try simp only [List.setIfInBounds_toArray]); (try simp only [List.set_cons_succ]); (try simp only [List.set_cons_zero]))
  refine wpAnyH_take (i := 4) (v := ?qvu4) rfl (by kernel_rfl) (by kernel_rfl) (by kernel_rfl) (fun _ _ _ h => h) (Or.inl ⟨by rfl, ?qyu4⟩) (by assumption) ?qru4; case qyu4 => ((intro w hSw; (try dsimp only at hSw); go_simp); try (with_reducible rfl))
  ((try simp only [List.getElem_toArray]); (try simp only [List.getElem_cons_succ]); (try simp only [List.getElem_cons_zero]); (try simp only [Act.put]); (try simp only [List.setIfInBounds_toArray]); (try simp only [List.set_cons_succ]); (try simp only [List.set_cons_zero]))
  refine wpAnyH_take (i := 5) (v := ?qvu5) rfl (by kernel_rfl) (by kernel_rfl) (by kernel_rfl) (fun _ _ _ h => h) (Or.inl ⟨by rfl, ?qyu5⟩) (by assumption) ?qru5; case qyu5 => ((intro w hSw; (try dsimp only at hSw); go_simp); try (with_reducible rfl))
  ((try simp only [List.getElem_toArray]); (try simp only [List.getElem_cons_succ]); (try simp only [List.getElem_cons_zero]); (try simp only [Act.put]); (try simp only [List.setIfInBounds_toArray]); (try simp only [List.set_cons_succ]); (try simp only [List.set_cons_zero]))
  refine wpAnyH_take (i := 8) (v := ?qvu6) rfl (by kernel_rfl) (by kernel_rfl) (by kernel_rfl) (fun _ _ _ h => h) (Or.inl ⟨by rfl, ?qyu6⟩) (by assumption) ?qru6; case qyu6 => ((intro w hSw; (try dsimp only at hSw); go_simp); try (with_reducible rfl))
  ((try simp only [List.getElem_toArray]); (try simp only [List.getElem_cons_succ]); (try simp only [List.getElem_cons_zero]); (try simp only [Act.put]); (try simp only [List.setIfInBounds_toArray]); (try simp only [List.set_cons_succ]); (try simp only [List.set_cons_zero]))
  refine wpAnyH_take (i := 9) (v := ?qvu7) rfl (by kernel_rfl) (by kernel_rfl) (by kernel_rfl) (fun _ _ _ h => h) (Or.inl ⟨by rfl, ?qyu7⟩) (by assumption) ?qru7; case qyu7 => ((intro w hSw; (try dsimp only at hSw); go_simp); try (with_reducible rfl))
  ((try simp only [List.getElem_toArray]); (try simp only [List.getElem_cons_succ]); (try simp only [List.getElem_cons_zero]); (try simp only [Act.put]); (try simp only [List.setIfInBounds_toArray]); (try simp only [List.set_cons_succ]); (try simp only [List.set_cons_zero]))
  refine wpAnyH_take (i := 10) (v := ?qvu8) rfl (by kernel_rfl) (by kernel_rfl) (by kernel_rfl) (fun _ _ _ h => h) (Or.inl ⟨by rfl, ?qyu8⟩) (by assumption) ?qru8; case qyu8 => ((intro w hSw; (try dsimp only at hSw); go_simp); try (with_reducible rfl))
  ((try simp only [List.getElem_toArray]); (try simp only [List.getElem_cons_succ]); (try simp only [List.getElem_cons_zero]); (try simp only [Act.put]); (try simp only [List.setIfInBounds_toArray]); (try simp only [List.set_cons_succ]); (try simp only [List.set_cons_zero]))
  refine wpAnyH_take (i := 11) (v := ?qvu9) rfl (by kernel_rfl) (by kernel_rfl) (by kernel_rfl) (fun _ _ _ h => h) (Or.inl ⟨by rfl, ?qyu9⟩) (by assumption) ?qru9; case qyu9 => ((intro w hSw; (try dsimp only at hSw); go_simp); try (with_reducible rfl))
  ((try simp only [List.getElem_toArray]); (try simp only [List.getElem_cons_succ]); (try simp only [List.getElem_cons_zero]); (try simp only [Act.put]); (try simp only [List.setIfInBounds_toArray]); (try simp only [List.set_cons_succ]); (try simp only [List.set_cons_zero]))
  refine wpAnyH_take (i := 12) (v := ?qvu10) rfl (by kernel_rfl) (by kernel_rfl) (by kernel_rfl) (fun _ _ _ h => h) (Or.inl ⟨by rfl, ?qyu10⟩) (by assumption) ?qru10; case qyu10 => ((intro w hSw; (try dsimp only at hSw); go_simp); try (with_reducible rfl))
  ((try simp only [List.getElem_toArray]); (try simp only [List.getElem_cons_succ]); (try simp only [List.getElem_cons_zero]); (try simp only [Act.put]); (try simp only [List.setIfInBounds_toArray]); (try simp only [List.set_cons_succ]); (try simp only [List.set_cons_zero]))
  refine wpAnyH_take (i := 13) (v := ?qvu11) rfl (by kernel_rfl) (by kernel_rfl) (by kernel_rfl) (fun _ _ _ h => h) (Or.inl ⟨by rfl, ?qyu11⟩) (by assumption) ?qru11; case qyu11 => ((intro w hSw; (try dsimp only at hSw); go_simp); try (with_reducible rfl))
  ((try simp only [List.getElem_toArray]); (try simp only [List.getElem_cons_succ]); (try simp only [List.getElem_cons_zero]); (try simp only [Act.put]); (try simp only [List.setIfInBounds_toArray]); (try simp only [List.set_cons_succ]); (try simp only [List.set_cons_zero]))
  refine wpAnyH_take (i := 16) (v := ?qvu12) rfl (by kernel_rfl) (by kernel_rfl) (by kernel_rfl) (fun _ _ _ h => h) (Or.inl ⟨by rfl, ?qyu12⟩) (by assumption) ?qru12; case qyu12 => ((intro w hSw; (try dsimp only at hSw); go_simp); try (with_reducible rfl))
  ((try simp only [List.getElem_toArray]); (try simp only [List.getElem_cons_succ]); (try simp only [List.getElem_cons_zero]); (try simp only [Act.put]); (try simp only [List.setIfInBounds_toArray]); (try simp only [List.set_cons_succ]); (try simp only [List.set_cons_zero]))
  refine wpAnyH_take (i := 17) (v := ?qvu13) rfl (by kernel_rfl) (by kernel_rfl) (by kernel_rfl) (fun _ _ _ h => h) (Or.inl ⟨by rfl, ?qyu13⟩) (by assumption) ?qru13; case qyu13 => ((intro w hSw; (try dsimp only at hSw); go_simp); try (with_reducible rfl))
  ((try simp only [List.getElem_toArray]); (try simp only [List.getElem_cons_succ]); (try simp only [List.getElem_cons_zero]); (try simp only [Act.put]); (try simp only [List.setIfInBounds_toArray]); (try simp only [List.set_cons_succ]); (try simp only [List.set_cons_zero]))
  refine wpAnyH_take (i := 18) (v := ?qvu14) rfl (by kernel_rfl) (by kernel_rfl) (by kernel_rfl) (fun _ _ _ h => h) (Or.inl ⟨by rfl, ?qyu14⟩) (by assumption) ?qru14; case qyu14 => ((intro w hSw; (try dsimp only at hSw); go_simp); try (with_reducible rfl))
  ((try simp only [List.getElem_toArray]); (try simp only [List.getElem_cons_succ]); (try simp only [List.getElem_cons_zero]); (try simp only [Act.put]); (try simp only [List.setIfInBounds_toArray]); (try simp only [List.set_cons_succ]); (try simp only [List.set_cons_zero]))
  refine wpAnyH_take (i := 19) (v := ?qvu15) rfl (by kernel_rfl) (by kernel_rfl) (by kernel_rfl) (fun _ _ _ h => h) (Or.inl ⟨by rfl, ?qyu15⟩) (by assumption) ?qru15; case qyu15 => ((intro w hSw; (try dsimp only at hSw); go_simp); try (with_reducible rfl))
  ((try simp only [List.getElem_toArray]); (try simp only [List.getElem_cons_succ]); (try simp only [List.getElem_cons_zero]); (try simp only [Act.put]); (try simp only [List.setIfInBounds_toArray]); (try simp only [List.set_cons_succ]); (try simp only [List.set_cons_zero]))
  refine wpAnyH_take (i := 20) (v := ?qvu16) rfl (by kernel_rfl) (by kernel_rfl) (by kernel_rfl) (fun _ _ _ h => h) (Or.inl ⟨by rfl, ?qyu16⟩) (by assumption) ?qru16; case qyu16 => ((intro w hSw; (try dsimp only at hSw); go_simp); try (with_reducible rfl))
  ((try simp only [List.getElem_toArray]); (try simp only [List.getElem_cons_succ]); (try simp only [List.getElem_cons_zero]); (try simp only [Act.put]); (try simp only [List.setIfInBounds_toArray]); (try simp only [List.set_cons_succ]); (try simp only [List.set_cons_zero]))
  refine wpAnyH_take (i := 21) (v := ?qvu17) rfl (by kernel_rfl) (by kernel_rfl) (by kernel_rfl) (fun _ _ _ h => h) (Or.inl ⟨by rfl, ?qyu17⟩) (by assumption) ?qru17; case qyu17 => ((intro w hSw; (try dsimp only at hSw); go_simp); try (with_reducible rfl))
  ((try simp only [List.getElem_toArray]); (try simp only [List.getElem_cons_succ]); (try simp only [List.getElem_cons_zero]); (try simp only [Act.put]); (try simp only [List.setIfInBounds_toArray]); (try simp only [List.set_cons_succ]); (try simp only [List.set_cons_zero]))
  refine wpAnyH_take (i := 23) (v := ?qvu18) rfl (by kernel_rfl) (by kernel_rfl) (by kernel_rfl) (fun _ _ _ h => h) (Or.inl ⟨by rfl, ?qyu18⟩) (by assumption) ?qru18; case qyu18 => ((intro w hSw; (try dsimp only at hSw); go_simp); try (with_reducible rfl))
  ((try simp only [List.getElem_toArray]); (try simp only [List.getElem_cons_succ]); (try simp only [List.getElem_cons_zero]); (try simp only [Act.put]); (try simp only [List.setIfInBounds_toArray]); (try simp only [List.set_cons_succ]); (try simp only [List.set_cons_zero]))
  refine wpAnyH_take (i := 24) (v := ?qvu19) rfl (by kernel_rfl) (by kernel_rfl) (by kernel_rfl) (fun _ _ _ h => h) (Or.inl ⟨by rfl, ?qyu19⟩) (by assumption) ?qru19; case qyu19 => ((intro w hSw; (try dsimp only at hSw); go_simp); try (with_reducible rfl))
  ((try simp only [List.getElem_toArray]); (try simp only [List.getElem_cons_succ]); (try simp only [List.getElem_cons_zero]); (try simp only [Act.put]); (try simp only [List.setIfInBounds_toArray]); (try simp only [List.set_cons_succ]); (try simp only [List.set_cons_zero]))
  refine wpAnyH_take (i := 25) (v := ?qvu20) rfl (by kernel_rfl) (by kernel_rfl) (by kernel_rfl) (fun _ _ _ h => h) (Or.inl ⟨by rfl, ?qyu20⟩) (by assumption) ?qru20; case qyu20 => ((intro w hSw; (try dsimp only at hSw); go_simp); try (with_reducible rfl))
  ((try simp only [List.getElem_toArray]); (try simp only [List.getElem_cons_succ]); (try simp only [List.getElem_cons_zero]); (try simp only [Act.put]); (try simp only [List.setIfInBounds_toArray]); (try simp only [List.set_cons_succ]); (try simp only [List.set_cons_zero]))
  refine wpAnyH_take (i := 26) (v := ?qvu21) rfl (by kernel_rfl) (by kernel_rfl) (by kernel_rfl) (fun _ _ _ h => h) (Or.inl ⟨by rfl, ?qyu21⟩) (by assumption) ?qru21; case qyu21 => ((intro w hSw; (try dsimp only at hSw); go_simp); try (with_reducible rfl))
  ((try simp only [List.getElem_toArray]); (try simp only [List.getElem_cons_succ]); (try simp only [List.getElem_cons_zero]); (try simp only [Act.put]); (try simp only [List.setIfInBounds_toArray]); (try simp only [List.set_cons_succ]); (try simp only [List.set_cons_zero]))
  refine wpAnyH_take (i := 27) (v := ?qvu22) rfl (by kernel_rfl) (by kernel_rfl) (by kernel_rfl) (fun _ _ _ h => h) (Or.inl ⟨by rfl, ?qyu22⟩) (by assumption) ?qru22; case qyu22 => ((intro w hSw; (try dsimp only at hSw); go_simp); try (with_reducible rfl))
  ((try simp only [List.getElem_toArray]); (try simp only [List.getElem_cons_succ]); (try simp only [List.getElem_cons_zero]); (try simp only [Act.put]); (try simp only [List.setIfInBounds_toArray]); (try simp only [List.set_cons_succ]); (try simp only [List.set_cons_zero]))
  refine wpAnyH_take (i := 28) (v := ?qvu23) rfl (by kernel_rfl) (by kernel_rfl) (by kernel_rfl) (fun _ _ _ h => h) (Or.inl ⟨by rfl, ?qyu23⟩) (by assumption) ?qru23; case qyu23 => ((intro w hSw; (try dsimp only at hSw); go_simp); try (with_reducible rfl))
  ((try simp only [List.getElem_toArray]); (try simp only [List.getElem_cons_succ]); (try simp only [List.getElem_cons_zero]); (try simp only [Act.put]); (try simp only [List.setIfInBounds_toArray]); (try simp only [List.set_cons_succ]); (try simp only [List.set_cons_zero]))
  refine wpAnyH_take (i := 30) (v := ?qvu24) rfl (by kernel_rfl) (by kernel_rfl) (by kernel_rfl) (fun _ _ _ h => h) (Or.inl ⟨by rfl, ?qyu24⟩) (by assumption) ?qru24; case qyu24 => ((intro w hSw; (try dsimp only at hSw); go_simp); try (with_reducible rfl))
  ((try simp only [List.getElem_toArray]); (try simp only [List.getElem_cons_succ]); (try simp only [List.getElem_cons_zero]); (try simp only [Act.put]); (try simp only [List.setIfInBounds_toArray]); (try simp only [List.set_cons_succ]); (try simp only [List.set_cons_zero]))
  refine wpAnyH_take (i := 31) (v := ?qvu25) rfl (by kernel_rfl) (by kernel_rfl) (by kernel_rfl) (fun _ _ _ h => h) (Or.inl ⟨by rfl, ?qyu25⟩) (by assumption) ?qru25; case qyu25 => ((intro w hSw; (try dsimp only at hSw); go_simp); try (with_reducible rfl))
  ((try simp only [List.getElem_toArray]); (try simp only [List.getElem_cons_succ]); (try simp only [List.getElem_cons_zero]); (try simp only [Act.put]); (try simp only [List.setIfInBounds_toArray]); (try simp only [List.set_cons_succ]); (try simp only [List.set_cons_zero]))
  refine wpAnyH_take (i := 32) (v := ?qvu26) rfl (by kernel_rfl) (by kernel_rfl) (by kernel_rfl) (fun _ _ _ h => h) (Or.inl ⟨by rfl, ?qyu26⟩) (by assumption) ?qru26; case qyu26 => ((intro w hSw; (try dsimp only at hSw); go_simp); try (with_reducible rfl))
  ((try simp only [List.getElem_toArray]); (try simp only [List.getElem_cons_succ]); (try simp only [List.getElem_cons_zero]); (try simp only [Act.put]); (try simp only [List.setIfInBounds_toArray]); (try simp only [List.set_cons_succ]); (try simp only [List.set_cons_zero]))
  refine wpAnyH_take (i := 33) (v := ?qvu27) rfl (by kernel_rfl) (by kernel_rfl) (by kernel_rfl) (fun _ _ _ h => h) (Or.inl ⟨by rfl, ?qyu27⟩) (by assumption) ?qru27; case qyu27 => ((intro w hSw; (try dsimp only at hSw); go_simp); try (with_reducible rfl))
  ((try simp only [List.getElem_toArray]); (try simp only [List.getElem_cons_succ]); (try simp only [List.getElem_cons_zero]); (try simp only [Act.put]); (try simp only [List.setIfInBounds_toArray]); (try simp only [List.set_cons_succ]); (try simp only [List.set_cons_zero]))
  refine wpAnyH_take (i := 34) (v := ?qvu28) rfl (by kernel_rfl) (by kernel_rfl) (by kernel_rfl) (fun _ _ _ h => h) (Or.inl ⟨by rfl, ?qyu28⟩) (by assumption) ?qru28; case qyu28 => ((intro w hSw; (try dsimp only at hSw); go_simp); try (with_reducible rfl))
  ((try simp only [List.getElem_toArray]); (try simp only [List.getElem_cons_succ]); (try simp only [List.getElem_cons_zero]); (try simp only [Act.put]); (try simp only [List.setIfInBounds_toArray]); (try simp only [List.set_cons_succ]); (try simp only [List.set_cons_zero]))
  refine wpAnyH_take (i := 35) (v := ?qvu29) rfl (by kernel_rfl) (by kernel_rfl) (by kernel_rfl) (fun _ _ _ h => h) (Or.inl ⟨by rfl, ?qyu29⟩) (by assumption) ?qru29; case qyu29 => ((intro w hSw; (try dsimp only at hSw); go_simp); try (with_reducible rfl))
  ((try simp only [List.getElem_toArray]); (try simp only [List.getElem_cons_succ]); (try simp only [List.getElem_cons_zero]); (try simp only [Act.put]); (try simp only [List.setIfInBounds_toArray]); (try simp only [List.set_cons_succ]); (try simp only [List.set_cons_zero]))
  refine wpAnyH_ready (rs := [6]) (by kernel_rfl) (by simp) ?_
  refine AllReadyH.cons rfl (fun K hK => ?_) AllReadyH.nil
  go_simp
  refine (G.load m (by omega) xk (c + 1) b0 (by omega) rfl (by omega)).mono ?_
  rintro e y1 ⟨rfl, G⟩
  refine hK.out _ _ G.h.c1 (fun hHeld => ?_)
  clear hK K
  ((try simp only [List.getElem_toArray]); (try simp only [List.getElem_cons_succ]); (try simp only [List.getElem_cons_zero]); (try simp only [Act.put]); (try simp only [List.setIfInBounds_toArray]); (try simp only [List.set_cons_succ]); (try simp only [List.set_cons_zero]))
  refine wpAnyH_take (i := 7) (v := ?qvu30) rfl (by kernel_rfl) (by kernel_rfl) (by kernel_rfl) (fun _ _ _ h => h) (Or.inl ⟨by rfl, ?qyu30⟩) (by assumption) ?qru30; case qyu30 => ((intro w hSw; (try dsimp only at hSw); go_simp); try (with_reducible rfl))
  ((try simp only [List.getElem_toArray]); (try simp only [List.getElem_cons_succ]); (try simp only [List.getElem_cons_zero]); (try simp only [Act.put]); (try simp only [List.setIfInBounds_toArray]); (try simp only [List.set_cons_succ]); (try simp only [List.set_cons_zero]))
  refine wpAnyH_ready (rs := [14]) (by kernel_rfl) (by simp) ?_
  refine AllReadyH.cons rfl (fun K hK => ?_) AllReadyH.nil
  go_simp
  refine (G.load (m + 1) (by omega) xv (c + 1 + 1) b1 (by omega) rfl (by omega)).mono ?_
  rintro e y2 ⟨rfl, G⟩
  refine hK.out _ _ G.h.c1 (fun hHeld => ?_)
  clear hK K
  ((try simp only [List.getElem_toArray]); (try simp only [List.getElem_cons_succ]); (try simp only [List.getElem_cons_zero]); (try simp only [Act.put]); (try simp only [List.setIfInBounds_toArray]); (try simp only [List.set_cons_succ]); (try simp only [List.set_cons_zero]))
  refine wpAnyH_take (i := 15) (v := ?qvu31) rfl (by kernel_rfl) (by kernel_rfl) (by kernel_rfl) (fun _ _ _ h => h) (Or.inl ⟨by rfl, ?qyu31⟩) (by assumption) ?qru31; case qyu31 => ((intro w hSw; (try dsimp only at hSw); go_simp); try (with_reducible rfl))
  ((try simp only [List.getElem_toArray]); (try simp only [List.getElem_cons_succ]); (try simp only [List.getElem_cons_zero]); (try simp only [Act.put]); (try simp only [List.setIfInBounds_toArray]); (try simp only [List.set_cons_succ]); (try simp only [List.set_cons_zero]))
  refine wpAnyH_ready (rs := [22]) (by kernel_rfl) (by simp) ?_
  refine AllReadyH.cons rfl (fun K hK => ?_) AllReadyH.nil
  go_simp
  refine (G.load (m + 2) (by omega) xb (c + 1 + 1 + 1) b2 (by omega) rfl (by omega)).mono ?_
  rintro e y3 ⟨rfl, G⟩
  refine hK.out _ _ G.h.c1 (fun hHeld => ?_)
  clear hK K
  ((try simp only [List.getElem_toArray]); (try simp only [List.getElem_cons_succ]); (try simp only [List.getElem_cons_zero]); (try simp only [Act.put]); (try simp only [List.setIfInBounds_toArray]); (try simp only [List.set_cons_succ]); (try simp only [List.set_cons_zero]))
  refine wpAnyH_ready (rs := [29]) (by kernel_rfl) (by simp) ?_
  refine AllReadyH.cons rfl (fun K hK => ?_) AllReadyH.nil
  go_simp
  refine (G.load (m + 3) (by omega) xe (c + 1 + 1 + 1 + 1) b3 (by omega) rfl (by omega)).mono ?_
  rintro e y4 ⟨rfl, G⟩
  refine hK.out _ _ G.h.c1 (fun hHeld => ?_)
  clear hK K
  ((try simp only [List.getElem_toArray]); (try simp only [List.getElem_cons_succ]); (try simp only [List.getElem_cons_zero]); (try simp only [Act.put]); (try simp only [List.setIfInBounds_toArray]); (try simp only [List.set_cons_succ]); (try simp only [List.set_cons_zero]))
  refine wpAnyH_ready (rs := [36]) (by kernel_rfl) (by simp) ?_
  refine AllReadyH.cons rfl (fun K hK => ?_) AllReadyH.nil
  go_simp
  refine (G.load (m + 4) (by omega) xn (c + 1 + 1 + 1 + 1 + 1) b4 (by omega) rfl (by omega)).mono ?_
  rintro e y5 ⟨rfl, G⟩
  refine hK.out _ _ G.h.c1 (fun hHeld => ?_)
  clear hK K
  ((try simp only [List.getElem_toArray]); (try simp only [List.getElem_cons_succ]); (try simp only [List.getElem_cons_zero]); (try simp only [Act.put]); (try simp only [List.setIfInBounds_toArray]); (try simp only [List.set_cons_succ]); (try simp only [List.set_cons_zero]))
  refine wpAnyH_take (i := 37) (v := ?qvu32) rfl (by kernel_rfl) (by kernel_rfl) (by kernel_rfl) (fun _ _ _ h => h) (Or.inl ⟨by rfl, ?qyu32⟩) (by assumption) ?qru32; case qyu32 => ((intro w hSw; (try dsimp only at hSw); go_simp); try (with_reducible rfl))
  ((try simp only [List.getElem_toArray]); (try simp only [List.getElem_cons_succ]); (try simp only [List.getElem_cons_zero]); (try simp only [Act.put]); (try simp only [List.setIfInBounds_toArray]); (try simp only [List.set_cons_succ]); (try simp only [List.set_cons_zero]))
  refine wpAnyH_ready (rs := [38]) (by kernel_rfl) (by simp) ?_
  refine AllReadyH.cons rfl (fun K hK => ?_) AllReadyH.nil
  go_simp
  have y0 : y5.cell? ⟨N, 0, none⟩ = some (.int .i64 0) := G.y 0
  have f1 : y5.cell? ⟨N, 1, none⟩ = some (.int .i64 0) := G.y 1
  have f2 : y5.cell? ⟨N, 2, none⟩ = some (.int .u64 0) := G.y 2
  have f3 : y5.cell? ⟨N, 3, none⟩ = some (.int .u64 0) := G.y 3
  have f4 : y5.cell? ⟨N, 4, none⟩ = some (.int .u64 0) := G.y 4
  have z0 := G.z 0
  have z1 := G.z 1
  have z2 := G.z 2
  have z3 := G.z 3
  have z4 := G.z 4
  have W5 := Lib.hid (five_set y5 N _ _ _ _ _ (.int .i64 xk) (.int .i64 xv) (.int .u64 xb) (.int .u64 xe) (.int .u64 xn) y0 f1 f2 f3 f4)
  go_simp
  obtain ⟨W, eW, u0, u1, u2, u3, u4, kW⟩ := W5.out
  rw [eW]
  refine hK.out _ _ (kW.cell G.h.c1 (by intro q; exact absurd q hNp)) (fun hHeld => ?_)
  clear hK K
  ((try simp only [List.getElem_toArray]); (try simp only [List.getElem_cons_succ]); (try simp only [List.getElem_cons_zero]); (try simp only [Act.put]); (try simp only [List.setIfInBounds_toArray]); (try simp only [List.set_cons_succ]); (try simp only [List.set_cons_zero]))
  refine wpAnyH_take (i := 39) (v := ?qvu33) rfl (by kernel_rfl) (by kernel_rfl) (by kernel_rfl) (fun _ _ _ h => h) (Or.inl ⟨by rfl, ?qyu33⟩) (by assumption) ?qru33; case qyu33 => ((intro w hSw; (try dsimp only at hSw); go_simp); try (with_reducible rfl))
  ((try simp only [List.getElem_toArray]); (try simp only [List.getElem_cons_succ]); (try simp only [List.getElem_cons_zero]); (try simp only [Act.put]); (try simp only [List.setIfInBounds_toArray]); (try simp only [List.set_cons_succ]); (try simp only [List.set_cons_zero]))
  refine wpAnyH_done (by kernel_rfl) ?_ _
  go_wp2
  exact bodyPost_ret (v := .tuple #[verV ⟨xk, xv, xb, xe, xn⟩, .bool true]) (by simp [results, Tryz.results54, go_sem, verV, u0, u1, u2, u3, u4]) rfl (VPost.of rfl (G.h.keep kW hNp hNs hNa hNq) hS (keep_fresh (N := N) ((k1.mono (by simp)).trans ((G.k.mono (fun j hj => .inl hj)).trans (kW.mono (fun j hj => .inr hj)))) (by omega)))
theorem vget_any (h : VAt w p S s) (ok : ROk s) (hc : s.c ≤ 4611686018427387904) (l : Int) (hl : U64 l) : Calls Tryz.prog 54 #[.pointer (some ⟨p, 0, none⟩), .int .u64 l] w (VPost (s.get l) p S s.tick w) := by
  unfold RS.get
  split
  · rename_i hd
    exact vget_yes h ok hc l hl hd
  · rename_i hd
    exact vget_no h ok l hl (by simpa using hd)
end
end Go.Proofs.YtmfpjnlplimkeaaGreat
