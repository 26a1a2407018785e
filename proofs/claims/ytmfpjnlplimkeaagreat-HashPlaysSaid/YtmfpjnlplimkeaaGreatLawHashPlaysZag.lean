/- Several texts, one behind the other: RecT, RecC, RecL, RecO. -/
import Derived.Test.YtmfpjnlplimkeaaGreatLawHashPlaysZaf
import Derived.Test.YtmfpjnlplimkeaaGreatLawHashPlaysZae
import Derived.RegionTactic
import Derived.BigQuiet
import Derived.Deep.RegionHeld3
/- Package rec: Get; conditions: the Store is one that calls have made of an empty one, its count of accesses is at most 2^62, the link is a word of 64 bits. -/
namespace Go.Proofs.YtmfpjnlplimkeaaGreat
open Go.ChangeShapes Go.WideShapes Go.ChangeAt Go.RowKit
set_option linter.unusedVariables false

theorem five_set (w : World) (N : Nat) (u0 u1 u2 u3 u4 v0 v1 v2 v3 v4 : Value) (y0 : w.cell? ⟨N, 0, none⟩ = some u0) (y1 : w.cell? ⟨N, 1, none⟩ = some u1) (y2 : w.cell? ⟨N, 2, none⟩ = some u2) (y3 : w.cell? ⟨N, 3, none⟩ = some u3) (y4 : w.cell? ⟨N, 4, none⟩ = some u4) :
    ∃ W, (((((w.setCell ⟨N, 0, none⟩ v0).setCell ⟨N, 1, none⟩ v1).setCell ⟨N, 2, none⟩ v2).setCell ⟨N, 3, none⟩ v3).setCell ⟨N, 4, none⟩ v4) = W ∧ W.cell? ⟨N, 0, none⟩ = some v0 ∧ W.cell? ⟨N, 1, none⟩ = some v1 ∧ W.cell? ⟨N, 2, none⟩ = some v2 ∧ W.cell? ⟨N, 3, none⟩ = some v3 ∧ W.cell? ⟨N, 4, none⟩ = some v4 ∧ Keep (fun j => j = N) w W := by
  refine ⟨_, rfl, ?_, ?_, ?_, ?_, ?_, (((((Keep.refl (fun j => j = N) w).setCell (p := ⟨N, 0, none⟩) rfl v0).setCell (p := ⟨N, 1, none⟩) rfl v1).setCell (p := ⟨N, 2, none⟩) rfl v2).setCell (p := ⟨N, 3, none⟩) rfl v3).setCell (p := ⟨N, 4, none⟩) rfl v4⟩
  · rw [World.cell?_setCell_other _ _ _ _ (by first | (simp; done) | (simp; omega)), World.cell?_setCell_other _ _ _ _ (by first | (simp; done) | (simp; omega)), World.cell?_setCell_other _ _ _ _ (by first | (simp; done) | (simp; omega)), World.cell?_setCell_other _ _ _ _ (by first | (simp; done) | (simp; omega))]; exact World.cell?_setCell_same _ _ _ y0
  · rw [World.cell?_setCell_other _ _ _ _ (by first | (simp; done) | (simp; omega)), World.cell?_setCell_other _ _ _ _ (by first | (simp; done) | (simp; omega)), World.cell?_setCell_other _ _ _ _ (by first | (simp; done) | (simp; omega))]; exact World.cell?_setCell_same _ _ _ (by rw [World.cell?_setCell_other _ _ _ _ (by first | (simp; done) | (simp; omega))]; exact y1)
  · rw [World.cell?_setCell_other _ _ _ _ (by first | (simp; done) | (simp; omega)), World.cell?_setCell_other _ _ _ _ (by first | (simp; done) | (simp; omega))]; exact World.cell?_setCell_same _ _ _ (by rw [World.cell?_setCell_other _ _ _ _ (by first | (simp; done) | (simp; omega)), World.cell?_setCell_other _ _ _ _ (by first | (simp; done) | (simp; omega))]; exact y2)
  · rw [World.cell?_setCell_other _ _ _ _ (by first | (simp; done) | (simp; omega))]; exact World.cell?_setCell_same _ _ _ (by rw [World.cell?_setCell_other _ _ _ _ (by first | (simp; done) | (simp; omega)), World.cell?_setCell_other _ _ _ _ (by first | (simp; done) | (simp; omega)), World.cell?_setCell_other _ _ _ _ (by first | (simp; done) | (simp; omega))]; exact y3)
  · exact World.cell?_setCell_same _ _ _ (by rw [World.cell?_setCell_other _ _ _ _ (by first | (simp; done) | (simp; omega)), World.cell?_setCell_other _ _ _ _ (by first | (simp; done) | (simp; omega)), World.cell?_setCell_other _ _ _ _ (by first | (simp; done) | (simp; omega)), World.cell?_setCell_other _ _ _ _ (by first | (simp; done) | (simp; omega))]; exact y4)
theorem keep_fresh {T : Nat → Prop} {w W : World} {N : Nat} (k : Keep (fun j => T j ∨ j = N) w W) (h : w.heap.size ≤ N) : Keep T w W :=
  ⟨k.os, k.tape, k.output, k.size, fun j hj n => k.block j hj (fun q => by rcases q with q | q; exact n q; omega)⟩
def zeroV : Array Value := #[.int .i64 0, .int .i64 0, .int .u64 0, .int .u64 0, .int .u64 0]
/-- In the midst of Get: the Store, behind some looks at words, and the answer's own cells, at block N. -/
structure RG (w0 w : World) (N p pp : Nat) (Sp : Nat → Prop) (pa qa : Nat) (c : Int) (zs : List Int) (s : RS) : Prop where
  h : VCore w p pp Sp pa qa c zs s
  y : ∀ i, w.cell? ⟨N, i, none⟩ = zeroV[i]?
  z : ∀ i, w.frozen? ⟨N, i, none⟩ = false
  k : Keep (Two pa qa) w0 w
  nl : N < w.heap.size
  na : N ≠ pa
  nq : N ≠ qa
section
variable {w0 w : World} {N p pp pa qa : Nat} {Sp : Nat → Prop} {c : Int} {zs : List Int} {s : RS}
theorem RG.load (g : RG w0 w N p pp Sp pa qa c zs s) (i : Nat) (hi : i < zs.length) (x c2 : Int) (hx : zs.getD i 0 = x) (h1 : c < 9223372036854775807) (hc : c + 1 = c2) (hs : c2 ≤ s.c) :
    Calls Tryz.prog 39 #[.pointer (some ⟨pa, 0, none⟩), .int .i64 i] w fun e w' => e = .returned (.int .u64 x) ∧ RG w0 w' N p pp Sp pa qa c2 zs s := by
  subst hc
  refine (load_to i x (c + 1) g.h.ha hi g.h.n0 h1 hx rfl).mono ?_
  rintro e w' ⟨rfl, a, k⟩
  have hn : ¬ Two pa qa N := fun q => by rcases q with q | q; exact g.na q; exact g.nq q
  have hb := k.block N g.nl hn
  refine ⟨rfl, g.h.arena a k g.h.lay rfl (by have := g.h.n0; omega) hs, fun i => ?_, fun i => (World.frozen?_of_block (w := w) hb).trans (g.z i), g.k.trans k, Nat.lt_of_lt_of_le g.nl k.size, g.na, g.nq⟩
  rw [World.cell?_of_block (w := w) hb]
  exact g.y i
theorem RG.drew (g : RG w0 w N p pp Sp pa qa c zs s) : RG w0 w.drew N p pp Sp pa qa c zs s :=
  ⟨g.h.keep (Keep.refl (fun _ => False) w).drew (by simp) (by simp) (by simp) (by simp), g.y, g.z, g.k.drew, g.nl, g.na, g.nq⟩
end
section
variable {w : World} {p : Nat} {S : Nat → Prop} {s : RS}
theorem RG.start {w : World} {p pp pa qa : Nat} {Sp : Nat → Prop} {c : Int} {zs : List Int} {s : RS} (h : VCore w p pp Sp pa qa c zs s) : RG (w.alloc (.cells zeroV 126)) (w.alloc (.cells zeroV 126)) w.heap.size p pp Sp pa qa c zs s.tick := by
  have k := Keep.alloc (Keep.refl (fun _ => False) w) (.cells zeroV 126)
  have la := h.ha.lt
  have lq := h.ha.ws.lt
  exact ⟨(h.keep k (by simp) (by simp) (by simp) (by simp)).more rfl rfl (by show s.c ≤ s.c + 64; omega), fun i => World.cell?_alloc_new _ _ _ _, fun i => by simp, Keep.refl _ _, by simp, by omega, by omega⟩
set_option maxRecDepth 100000 in
theorem vget_no (h : VAt w p S s) (ok : ROk s) (l : Int) (hl : U64 l) (hd : s.s.live l = false) : Calls Tryz.prog 54 #[.pointer (some ⟨p, 0, none⟩), .int .u64 l] w (VPost (.tuple #[verV ⟨0, 0, 0, 0, 0⟩, .bool false]) p S s.tick w) := by
  have h0 := h
  obtain ⟨pp, Sp, pa, qa, c, zs, h, hS⟩ := h
  have G := RG.start h
  have k1 := Keep.alloc (Keep.refl (fun _ => False) w) (.cells zeroV 126)
  have hf := vfirst_no G.h ok.tick l hl hd
  have y := G.y
  have z := G.z
  have kN : w.heap.size < (w.alloc (.cells zeroV 126)).heap.size := G.nl
  obtain ⟨N, eN⟩ : ∃ N, w.heap.size = N := ⟨_, rfl⟩
  rw [eN] at y z
  go_enter Tryz.func54, Tryz.ntmps54
  go_wp2_with fail
  refine hf.mono ?_
  rintro e w1 ⟨rfl, rfl⟩
  obtain ⟨w1, e1⟩ : ∃ w1, w.alloc (.cells zeroV 126) = w1 := ⟨_, rfl⟩
  rw [e1] at y z
  have y0 : w1.cell? ⟨N, 0, none⟩ = some (.int .i64 0) := y 0
  have y1 : w1.cell? ⟨N, 1, none⟩ = some (.int .i64 0) := y 1
  have y2 : w1.cell? ⟨N, 2, none⟩ = some (.int .u64 0) := y 2
  have y3 : w1.cell? ⟨N, 3, none⟩ = some (.int .u64 0) := y 3
  have y4 : w1.cell? ⟨N, 4, none⟩ = some (.int .u64 0) := y 4
  have z0 := z 0
  have z1 := z 1
  have z2 := z 2
  have z3 := z 3
  have z4 := z 4
  have W5 := Lib.hid (five_set w1 N _ _ _ _ _ (.int .i64 0) (.int .i64 0) (.int .u64 0) (.int .u64 0) (.int .u64 0) y0 y1 y2 y3 y4)
  have gh := G.h
  rw [e1] at gh
  have gk : Keep (fun _ => False) w w1 := e1 ▸ k1
  clear y z
  go_wp2
  obtain ⟨W, eW, v0, v1, v2, v3, v4, kW⟩ := W5.out
  rw [eW]
  have hN := h0.lt
  have gW := gh.keep kW (by rintro rfl; have := hN _ ((hS _).2 (.inl rfl)); omega) (by rintro g hg rfl; have := hN _ ((hS _).2 (.inr (.inl hg))); omega) (by rintro rfl; have := hN _ ((hS _).2 (.inr (.inr (.inl rfl)))); omega) (by rintro rfl; have := hN _ ((hS _).2 (.inr (.inr (.inr rfl)))); omega)
  have kk : Keep (fun _ => False) w W := keep_fresh ((gk.mono (by simp)).trans (kW.mono (fun j hj => .inr hj))) (by omega)
  exact bodyPost_ret (v := .tuple #[verV ⟨0, 0, 0, 0, 0⟩, .bool false]) (by simp [results, Tryz.results54, go_sem, verV, v0, v1, v2, v3, v4]) rfl (VPost.of rfl gW hS (kk.mono (by simp)))
set_option maxRecDepth 100000 in
set_option maxHeartbeats 4000000 in
theorem vget_yes (h : VAt w p S s) (ok : ROk s) (hc : s.c ≤ 4611686018427387904) (l : Int) (hl : U64 l) (hd : s.s.live l = true) : Calls Tryz.prog 54 #[.pointer (some ⟨p, 0, none⟩), .int .u64 l] w (VPost (.tuple #[verV (s.ver (slotOf l)), .bool true]) p S s.tick w) := by
  have h0 := h
  obtain ⟨pp, Sp, pa, qa, c, zs, h, hS⟩ := h
  have G := RG.start h
  have k1 := Keep.alloc (Keep.refl (fun _ => False) w) (.cells zeroV 126)
  have ch := h.n1
  have cc : s.tick.c = s.c + 64 := rfl
  have w0 := h.word ok hd 0 (by omega)
  have w1 := h.word ok hd 1 (by omega)
  have w2 := h.word ok hd 2 (by omega)
  have w3 := h.word ok hd 3 (by omega)
  have w4 := h.word ok hd 4 (by omega)
  have xo := ok.v (slotOf l)
  obtain ⟨m, em⟩ : ∃ m, slotOf l * 5 = m := ⟨_, rfl⟩
  have hf := vfirst_yes G.h ok.tick l hd m em
  rw [em] at w0 w1 w2 w3 w4
  obtain ⟨x, ex⟩ : ∃ x, s.ver (slotOf l) = x := ⟨_, rfl⟩
  rw [ex] at w0 w1 w2 w3 w4 xo ⊢
  obtain ⟨xk, xv, xb, xe, xn⟩ := x
  have b0 : zs.getD m 0 = xk := w0.2.1
  have b1 : zs.getD (m + 1) 0 = xv := w1.2.1
  have b2 : zs.getD (m + 2) 0 = xb := w2.2.1
  have b3 : zs.getD (m + 3) 0 = xe := w3.2.1
  have b4 : zs.getD (m + 4) 0 = xn := w4.2.1
  have q0 : m + 4 < zs.length := w4.1
  have q1 : m + 4 ≤ 20480 := w4.2.2
  have k0 : 0 ≤ xk := xo.k0
  have k2 : xk ≤ 63 := xo.k1
  have v0 : 0 ≤ xv := xo.v0
  have v1 : xv ≤ 65535 := xo.v1
  clear w0 w1 w2 w3 w4 xo em ex hd hl
  have hN := h0.lt
  clear h0 h
  obtain ⟨N, eN⟩ : ∃ N, w.heap.size = N := ⟨_, rfl⟩
  rw [eN] at G
  have hNp : ¬ p = N := by rintro rfl; have := hN _ ((hS _).2 (.inl rfl)); omega
  have hNs : ∀ g, Sp g → ¬ g = N := by rintro g hg rfl; have := hN _ ((hS _).2 (.inr (.inl hg))); omega
  have hNa : ¬ pa = N := by rintro rfl; have := hN _ ((hS _).2 (.inr (.inr (.inl rfl)))); omega
  have hNq : ¬ qa = N := by rintro rfl; have := hN _ ((hS _).2 (.inr (.inr (.inr rfl)))); omega
  have X0 : IntKind.i64.wrap xk = xk := IntWalk.i64_in _ (by omega)
  have X1 : IntKind.i64.wrap xv = xv := IntWalk.i64_in _ (by omega)
  have W0 : IntKind.i64.wrap (m : Int) = (m : Int) := IntWalk.i64_in _ (by omega)
  have W1 : IntKind.i64.wrap ((m : Int) + 1) = ((m + 1 : Nat) : Int) := (IntWalk.i64_in _ (by omega)).trans (by omega)
  have W2 : IntKind.i64.wrap ((m : Int) + 2) = ((m + 2 : Nat) : Int) := (IntWalk.i64_in _ (by omega)).trans (by omega)
  have W3 : IntKind.i64.wrap ((m : Int) + 3) = ((m + 3 : Nat) : Int) := (IntWalk.i64_in _ (by omega)).trans (by omega)
  have W4 : IntKind.i64.wrap ((m : Int) + 4) = ((m + 4 : Nat) : Int) := (IntWalk.i64_in _ (by omega)).trans (by omega)
  go_enter Tryz.func54, Tryz.ntmps54
  go_wp2_with fail
  refine hf.mono ?_
  rintro e w1 ⟨rfl, rfl⟩
  obtain ⟨w1, e1⟩ : ∃ w1, w.alloc (.cells zeroV 126) = w1 := ⟨_, rfl⟩
  rw [e1] at G hf k1
  go_wp2_with fail
  refine wp_region_held_drew (S := (fun w' => w'.cell? ⟨p, 1, none⟩ = some (.pointer (some ⟨pa, 0, none⟩)))) (by kernel_rfl) G.h.c1 (fun hHeld => ?_)
  have G := G.drew
  refine wpAnyH_take (i := 0) (v := ?qvu0) rfl (by kernel_rfl) (by kernel_rfl) (by kernel_rfl) (fun _ _ _ h => h) (Or.inl ⟨by rfl, ?qyu0⟩) (by assumption) ?qru0; case qyu0 => ((intro w hSw; (try dsimp only at hSw); go_simp); try (with_reducible rfl))
  ((try simp only [List.getElem_toArray]); (try simp only [List.getElem_cons_succ]); (try simp only [List.getElem_cons_zero]); (try simp only [Act.put]); (try simp only [List.setIfInBounds_toArray]); (try simp only [List.set_cons_succ]); (try simp only [List.set_cons_zero]))
  refine wpAnyH_take (i := 1) (v := ?qvu1) rfl (by kernel_rfl) (by kernel_rfl) (by kernel_rfl) (fun _ _ _ h => h) (Or.inl ⟨by rfl, ?qyu1⟩) (by assumption) ?qru1; case qyu1 => ((intro w hSw; (try dsimp only at hSw); go_simp); try (with_reducible rfl))
  ((try simp only [List.getElem_toArray]); (try simp only [List.getElem_cons_succ]); (try simp only [List.getElem_cons_zero]); (try simp only [Act.put]); (try simp only [List.setIfInBounds_toArray]); (try simp only [List.set_cons_succ]); (try simp only [List.set_cons_zero]))
  refine wpAnyH_take (i := 2) (v := ?qvu2) rfl (by kernel_rfl) (by kernel_rfl) (by kernel_rfl) (fun _ _ _ h => h) (Or.inl ⟨by rfl, ?qyu2⟩) (by assumption) ?qru2; case qyu2 => ((intro w hSw; (try dsimp only at hSw); go_simp); try (with_reducible rfl))
  ((try simp only [List.getElem_toArray]); (try simp only [List.getElem_cons_succ]); (try simp only [List.getElem_cons_zero]); (try simp only [Act.put]); (try simp only [List.setIfInBounds_toArray]); (try simp only [List.set_cons_succ]); (try simp only [List.set_cons_zero]))
  refine wpAnyH_take (i := 3) (v := ?qvu3) rfl (by kernel_rfl) (by kernel_rfl) (by kernel_rfl) (fun _ _ _ h => h) (Or.inl ⟨by rfl, ?qyu3⟩) (by assumption) ?qru3; case qyu3 => ((intro w hSw; (try dsimp only at hSw); go_simp); try (with_reducible rfl))
  ((try simp only [List.getElem_toArray]); (try simp only [List.getElem_cons_succ]); (try simp only [List.getElem_cons_zero]); (try simp only [Act.put]); (try simp only [List.setIfInBounds_toArray]); (try simp only [List.set_cons_succ]); (try simp only [List.set_cons_zero]))
  refine wpAnyH_take (i := 4) (v := ?qvu4) rfl (by kernel_rfl) (by kernel_rfl) (by kernel_rfl) (fun _ _ _ h => h) (Or.inl ⟨by rfl, ?qyu4⟩) (by assumption) ?qru4; case qyu4 => ((intro w hSw; (try dsimp only at hSw); go_simp); try (with_reducible rfl))
  ((try simp only [List.getElem_toArray]); (try simp only [List.getElem_cons_succ]); (try simp only [List.getElem_cons_zero]); (try simp only [Act.put]); (try simp only [List.setIfInBounds_toArray]); (try simp only [List.set_cons_succ]); (try simp only [List.set_cons_zero]))
  refine wpAnyH_take (i := 5) (v := ?qvu5) rfl (by kernel_rfl) (by kernel_rfl) (by kernel_rfl) (fun _ _ _ h => h) (Or.inl ⟨by rfl, ?qyu5⟩) (by assumption) ?qru5; case qyu5 => ((intro w hSw; (try dsimp only at hSw); go_simp); try (with_reducible rfl))
  ((try simp only [List.getElem_toArray]); (try simp only [List.getElem_cons_succ]); (try simp only [List.getElem_cons_zero]); (try simp only [Act.put]); (try simp only [List.setIfInBounds_toArray]); (try simp only [List.set_cons_succ]); (try simp only [List.set_cons_zero]))
  refine wpAnyH_take (i := 8) (v := ?qvu6) rfl (by kernel_rfl) (by kernel_rfl) (by kernel_rfl) (fun _ _ _ h => h) (Or.inl ⟨by rfl, ?qyu6⟩) (by assumption) ?qru6; case qyu6 => ((intro w hSw; (try dsimp only at hSw); go_simp); try (with_reducible rfl))
  ((try simp only [List.getElem_toArray]); (try simp only [List.getElem_cons_succ]); (try simp only [List.getElem_cons_zero]); (try simp only [Act.put]); (try simp only [List.setIfInBounds_toArray]); (try simp only [List.set_cons_succ]); (try simp only [List.set_cons_zero]))
  refine wpAnyH_take (i := 9) (v := ?qvu7) rfl (by kernel_rfl) (by kernel_rfl) (by kernel_rfl) (fun _ _ _ h => h) (Or.inl ⟨by rfl, ?qyu7⟩) (by assumption) ?qru7; case qyu7 => ((intro w hSw; (try dsimp only at hSw); go_simp); try (with_reducible rfl))
  ((try simp only [List.getElem_toArray]); (try simp only [List.getElem_cons_succ]); (try simp only [List.getElem_cons_zero]); (try simp only [Act.put]); (try simp only [List.setIfInBounds_toArray]); (try simp only [List.set_cons_succ]); (try simp only [List.set_cons_zero]))
  refine wpAnyH_take (i := 10) (v := ?qvu8) rfl (by kernel_rfl) (by kernel_rfl) (by kernel_rfl) (fun _ _ _ h => h) (Or.inl ⟨by rfl, ?qyu8⟩) (by assumption) ?qru8; case qyu8 => ((intro w hSw; (try dsimp only at hSw); go_simp); try (with_reducible rfl))
  ((try simp only [List.getElem_toArray]); (try simp only [List.getElem_cons_succ]); (try simp only [List.getElem_cons_zero]); (try simp only [Act.put]); (try simp only [List.setIfInBounds_toArray]); (try simp only [List.set_cons_succ]); (try simp only [List.set_cons_zero]))
  refine wpAnyH_take (i := 11) (v := ?qvu9) rfl (by kernel_rfl) (by kernel_rfl) (by kernel_rfl) (fun _ _ _ h => h) (Or.inl ⟨by rfl, ?qyu9⟩) (by assumption) ?qru9; case qyu9 => ((intro w hSw; (try dsimp only at hSw); go_simp); try (with_reducible rfl))
  ((try simp only [List.getElem_toArray]); (try simp only [List.getElem_cons_succ]); (try simp only [List.getElem_cons_zero]); (try simp only [Act.put]); (try simp only [List.setIfInBounds_toArray]); (try simp only [List.set_cons_succ]); (try simp only [List.set_cons_zero]))
  refine wpAnyH_take (i := 12) (v := ?qvu10) rfl (by kernel_rfl) (by kernel_rfl) (by kernel_rfl) (fun _ _ _ h => h) (Or.inl ⟨by rfl, ?qyu10⟩) (by assumption) ?qru10; case qyu10 => ((intro w hSw; (try dsimp only at hSw); go_simp); try (with_reducible rfl))
  ((try simp only [List.getElem_toArray]); (try simp only [List.getElem_cons_succ]); (try simp only [List.getElem_cons_zero]); (try simp only [Act.put]); (try simp only [List.setIfInBounds_toArray]); (try simp only [List.set_cons_succ]); (try simp only [List.set_cons_zero]))
  refine wpAnyH_take (i := 13) (v := ?qvu11) rfl (by kernel_rfl) (by kernel_rfl) (by kernel_rfl) (fun _ _ _ h => h) (Or.inl ⟨by rfl, ?qyu11⟩) (by assumption) ?qru11; case qyu11 => ((intro w hSw; (try dsimp only at hSw); go_simp); try (with_reducible rfl))
  ((try simp only [List.getElem_toArray]); (try simp only [List.getElem_cons_succ]); (try simp only [List.getElem_cons_zero]); (try simp only [Act.put]); (try simp only [List.setIfInBounds_toArray]); (try simp only [List.set_cons_succ]); (try simp only [List.set_cons_zero]))
  refine wpAnyH_take (i := 16) (v := ?qvu12) rfl (by kernel_rfl) (by kernel_rfl) (by kernel_rfl) (fun _ _ _ h => h) (Or.inl ⟨by rfl, ?qyu12⟩) (by assumption) ?qru12; case qyu12 => ((intro w hSw; (try dsimp only at hSw); go_simp); try (with_reducible rfl))
  ((try simp only [List.getElem_toArray]); (try simp only [List.getElem_cons_succ]); (try simp only [List.getElem_cons_zero]); (try simp only [Act.put]); (try simp only [List.setIfInBounds_toArray]); (try simp only [List.set_cons_succ]); (try simp only [List.set_cons_zero]))
  refine wpAnyH_take (i := 17) (v := ?qvu13) rfl (by kernel_rfl) (by kernel_rfl) (by kernel_rfl) (fun _ _ _ h => h) (Or.inl ⟨by rfl, ?qyu13⟩) (by assumption) ?qru13; case qyu13 => ((intro w hSw; (try dsimp only at hSw); go_simp); try (with_reducible rfl))
  ((try simp only [List.getElem_toArray]); (try simp only [List.getElem_cons_succ]); (try simp only [List.getElem_cons_zero]); (try simp only [Act.put]); (try simp only [List.setIfInBounds_toArray]); (try simp only [List.set_cons_succ]); (try simp only [List.set_cons_zero]))
  refine wpAnyH_take (i := 18) (v := ?qvu14) rfl (by kernel_rfl) (by kernel_rfl) (by kernel_rfl) (fun _ _ _ h => h) (Or.inl ⟨by rfl, ?qyu14⟩) (by assumption) ?qru14; case qyu14 => ((intro w hSw; (try dsimp only at hSw); go_simp); try (with_reducible rfl))
  ((try simp only [List.getElem_toArray]); (try simp only [List.getElem_cons_succ]); (try simp only [List.getElem_cons_zero]); (try simp only [Act.put]); (try simp only [List.setIfInBounds_toArray]); (try simp only [List.set_cons_succ]); (try simp only [List.set_cons_zero]))
  refine wpAnyH_take (i := 19) (v := ?qvu15) rfl (by kernel_rfl) (by kernel_rfl) (by kernel_rfl) (fun _ _ _ h => h) (Or.inl ⟨by rfl, ?qyu15⟩) (by assumption) ?qru15; case qyu15 => ((intro w hSw; (try dsimp only at hSw); go_simp); try (with_reducible rfl))
  ((try simp only [List.getElem_toArray]); (try simp only [List.getElem_cons_succ]); (try simp only [List.getElem_cons_zero]); (try simp only [Act.put]); (try simp only [List.setIfInBounds_toArray]); (try simp only [List.set_cons_succ]); (try simp only [List.set_cons_zero]))
  refine wpAnyH_take (i := 20) (v := ?qvu16) rfl (by kernel_rfl) (by kernel_rfl) (by kernel_rfl) (fun _ _ _ h => h) (Or.inl ⟨by rfl, ?qyu16⟩) (by assumption) ?qru16; case qyu16 => ((intro w hSw; (try dsimp only at hSw); go_simp); try (with_reducible rfl))
  ((try simp only [List.getElem_toArray]); (try simp only [List.getElem_cons_succ]); (try simp only [List.getElem_cons_zero]); (try simp only [Act.put]); (try simp only [List.setIfInBounds_toArray]); (try simp only [List.set_cons_succ]); (try simp only [List.set_cons_zero]))
  refine wpAnyH_take (i := 21) (v := ?qvu17) rfl (by kernel_rfl) (by kernel_rfl) (by kernel_rfl) (fun _ _ _ h => h) (Or.inl ⟨by rfl, ?qyu17⟩) (by assumption) ?qru17; case qyu17 => ((intro w hSw; (try dsimp only at hSw); go_simp); try (with_reducible rfl))
  ((try simp only [List.getElem_toArray]); (try simp only [List.getElem_cons_succ]); (try simp only [List.getElem_cons_zero]); (try simp only [Act.put]); (try simp only [List.setIfInBounds_toArray]); (try simp only [List.set_cons_succ]); (try simp only [List.set_cons_zero]))
  refine wpAnyH_take (i := 23) (v := ?qvu18) rfl (by kernel_rfl) (by kernel_rfl) (by kernel_rfl) (fun _ _ _ h => h) (Or.inl ⟨by rfl, ?qyu18⟩) (by assumption) ?qru18; case qyu18 => ((intro w hSw; (try dsimp only at hSw); go_simp); try (with_reducible rfl))
  ((try simp only [List.getElem_toArray]); (try simp only [List.getElem_cons_succ]); (try simp only [List.getElem_cons_zero]); (try simp only [Act.put]); (try simp only [List.setIfInBounds_toArray]); (try simp only [List.set_cons_succ]); (try simp only [List.set_cons_zero]))
  refine wpAnyH_take (i := 24) (v := ?qvu19) rfl (by kernel_rfl) (by kernel_rfl) (by kernel_rfl) (fun _ _ _ h => h) (Or.inl ⟨by rfl, ?qyu19⟩) (by assumption) ?qru19; case qyu19 => ((intro w hSw; (try dsimp only at hSw); go_simp); try (with_reducible rfl))
  ((try simp only [List.getElem_toArray]); (try simp only [List.getElem_cons_succ]); (try simp only [List.getElem_cons_zero]); (try simp only [Act.put]); (try simp only [List.setIfInBounds_toArray]); (try simp only [List.set_cons_succ]); (try simp only [List.set_cons_zero]))
  refine wpAnyH_take (i := 25) (v := ?qvu20) rfl (by kernel_rfl) (by kernel_rfl) (by kernel_rfl) (fun _ _ _ h => h) (Or.inl ⟨by rfl, ?qyu20⟩) (by assumption) ?qru20; case qyu20 => ((intro w hSw; (try dsimp only at hSw); go_simp); try (with_reducible rfl))
  ((try simp only [List.getElem_toArray]); (try simp only [List.getElem_cons_succ]); (try simp only [List.getElem_cons_zero]); (try simp only [Act.put]); (try simp only [List.setIfInBounds_toArray]); (try simp only [List.set_cons_succ]); (try simp only [List.set_cons_zero]))
  refine wpAnyH_take (i := 26) (v := ?qvu21) rfl (by kernel_rfl) (by kernel_rfl) (by kernel_rfl) (fun _ _ _ h => h) (Or.inl ⟨by rfl, ?qyu21⟩) (by assumption) ?qru21; case qyu21 => ((intro w hSw; (try dsimp only at hSw); go_simp); try (with_reducible rfl))
  ((try simp only [List.getElem_toArray]); (try simp only [List.getElem_cons_succ]); (try simp only [List.getElem_cons_zero]); (try simp only [Act.put]); (try simp only [List.setIfInBounds_toArray]); (try simp only [List.set_cons_succ]); (try simp only [List.set_cons_zero]))
  refine wpAnyH_take (i := 27) (v := ?qvu22) rfl (by kernel_rfl) (by kernel_rfl) (by kernel_rfl) (fun _ _ _ h => h) (Or.inl ⟨by rfl, ?qyu22⟩) (by assumption) ?qru22; case qyu22 => ((intro w hSw; (try dsimp only at hSw); go_simp); try (with_reducible rfl))
  ((try simp only [List.getElem_toArray]); (try simp only [List.getElem_cons_succ]); (try simp only [List.getElem_cons_zero]); (try simp only [Act.put]); (try simp only [List.setIfInBounds_toArray]); (try simp only [List.set_cons_succ]); (try simp only [List.set_cons_zero]))
  refine wpAnyH_take (i := 28) (v := ?qvu23) rfl (by kernel_rfl) (by kernel_rfl) (by kernel_rfl) (fun _ _ _ h => h) (Or.inl ⟨by rfl, ?qyu23⟩) (by assumption) ?qru23; case qyu23 => ((intro w hSw; (try dsimp only at hSw); go_simp); try (with_reducible rfl))
  ((try simp only [List.getElem_toArray]); (try simp only [List.getElem_cons_succ]); (try simp only [List.getElem_cons_zero]); (try simp only [Act.put]); (try simp only [List.setIfInBounds_toArray]); (try simp only [List.set_cons_succ]); (try simp only [List.set_cons_zero]))
  refine wpAnyH_take (i := 30) (v := ?qvu24) rfl (by kernel_rfl) (by kernel_rfl) (by kernel_rfl) (fun _ _ _ h => h) (Or.inl ⟨by rfl, ?qyu24⟩) (by assumption) ?qru24; case qyu24 => ((intro w hSw; (try dsimp only at hSw); go_simp); try (with_reducible rfl))
  ((try simp only [List.getElem_toArray]); (try simp only [List.getElem_cons_succ]); (try simp only [List.getElem_cons_zero]); (try simp only [Act.put]); (try simp only [List.setIfInBounds_toArray]); (try simp only [List.set_cons_succ]); (try simp only [List.set_cons_zero]))
  refine wpAnyH_take (i := 31) (v := ?qvu25) rfl (by kernel_rfl) (by kernel_rfl) (by kernel_rfl) (fun _ _ _ h => h) (Or.inl ⟨by rfl, ?qyu25⟩) (by assumption) ?qru25; case qyu25 => ((intro w hSw; (try dsimp only at hSw); go_simp); try (with_reducible rfl))
  ((try simp only [List.getElem_toArray]); (try simp only [List.getElem_cons_succ]); (try simp only [List.getElem_cons_zero]); (try simp only [Act.put]); (try simp only [List.setIfInBounds_toArray]); (try simp only [List.set_cons_succ]); (try simp only [List.set_cons_zero]))
  refine wpAnyH_take (i := 32) (v := ?qvu26) rfl (by kernel_rfl) (by kernel_rfl) (by kernel_rfl) (fun _ _ _ h => h) (Or.inl ⟨by rfl, ?qyu26⟩) (by assumption) ?qru26; case qyu26 => ((intro w hSw; (try dsimp only at hSw); go_simp); try (with_reducible rfl))
  ((try simp only [List.getElem_toArray]); (try simp only [List.getElem_cons_succ]); (try simp only [List.getElem_cons_zero]); (try simp only [Act.put]); (try simp only [List.setIfInBounds_toArray]); (try simp only [List.set_cons_succ]); (try simp only [List.set_cons_zero]))
  refine wpAnyH_take (i := 33) (v := ?qvu27) rfl (by kernel_rfl) (by kernel_rfl) (by kernel_rfl) (fun _ _ _ h => h) (Or.inl ⟨by rfl, ?qyu27⟩) (by assumption) ?qru27; case qyu27 => ((intro w hSw; (try dsimp only at hSw); go_simp); try (with_reducible rfl))
  ((try simp only [List.getElem_toArray]); (try simp only [List.getElem_cons_succ]); (try simp only [List.getElem_cons_zero]); (try simp only [Act.put]); (try simp only [List.setIfInBounds_toArray]); (try simp only [List.set_cons_succ]); (try simp only [List.set_cons_zero]))
  refine wpAnyH_take (i := 34) (v := ?qvu28) rfl (by kernel_rfl) (by kernel_rfl) (by kernel_rfl) (fun _ _ _ h => h) (Or.inl ⟨by rfl, ?qyu28⟩) (by assumption) ?qru28; case qyu28 => ((intro w hSw; (try dsimp only at hSw); go_simp); try (with_reducible rfl))
  ((try simp only [List.getElem_toArray]); (try simp only [List.getElem_cons_succ]); (try simp only [List.getElem_cons_zero]); (try simp only [Act.put]); (try simp only [List.setIfInBounds_toArray]); (try simp only [List.set_cons_succ]); (try simp only [List.set_cons_zero]))
  refine wpAnyH_take (i := 35) (v := ?qvu29) rfl (by kernel_rfl) (by kernel_rfl) (by kernel_rfl) (fun _ _ _ h => h) (Or.inl ⟨by rfl, ?qyu29⟩) (by assumption) ?qru29; case qyu29 => ((intro w hSw; (try dsimp only at hSw); go_simp); try (with_reducible rfl))
  ((try simp only [List.getElem_toArray]); (try simp only [List.getElem_cons_succ]); (try simp only [List.getElem_cons_zero]); (try simp only [Act.put]); (try simp only [List.setIfInBounds_toArray]); (try simp only [List.set_cons_succ]); (try simp only [List.set_cons_zero]))
  refine wpAnyH_ready (rs := [6]) (by kernel_rfl) (by simp) ?_
  refine AllReadyH.cons rfl (fun K hK => ?_) AllReadyH.nil
  go_simp
  refine (G.load m (by omega) xk (c + 1) b0 (by omega) rfl (by omega)).mono ?_
  rintro e y1 ⟨rfl, G⟩
  refine hK.out _ _ G.h.c1 (fun hHeld => ?_)
  clear hK K
  ((try simp only [List.getElem_toArray]); (try simp only [List.getElem_cons_succ]); (try simp only [List.getElem_cons_zero]); (try simp only [Act.put]); (try simp only [List.setIfInBounds_toArray]); (try simp only [List.set_cons_succ]); (try simp only [List.set_cons_zero]))
  refine wpAnyH_take (i := 7) (v := ?qvu30) rfl (by kernel_rfl) (by kernel_rfl) (by kernel_rfl) (fun _ _ _ h => h) (Or.inl ⟨by rfl, ?qyu30⟩) (by assumption) ?qru30; case qyu30 => ((intro w hSw; (try dsimp only at hSw); go_simp); try (with_reducible rfl))
  ((try simp only [List.getElem_toArray]); (try simp only [List.getElem_cons_succ]); (try simp only [List.getElem_cons_zero]); (try simp only [Act.put]); (try simp only [List.setIfInBounds_toArray]); (try simp only [List.set_cons_succ]); (try simp only [List.set_cons_zero]))
  refine wpAnyH_ready (rs := [14]) (by kernel_rfl) (by simp) ?_
  refine AllReadyH.cons rfl (fun K hK => ?_) AllReadyH.nil
  go_simp
  refine (G.load (m + 1) (by omega) xv (c + 1 + 1) b1 (by omega) rfl (by omega)).mono ?_
  rintro e y2 ⟨rfl, G⟩
  refine hK.out _ _ G.h.c1 (fun hHeld => ?_)
  clear hK K
  ((try simp only [List.getElem_toArray]); (try simp only [List.getElem_cons_succ]); (try simp only [List.getElem_cons_zero]); (try simp only [Act.put]); (try simp only [List.setIfInBounds_toArray]); (try simp only [List.set_cons_succ]); (try simp only [List.set_cons_zero]))
  refine wpAnyH_take (i := 15) (v := ?qvu31) rfl (by kernel_rfl) (by kernel_rfl) (by kernel_rfl) (fun _ _ _ h => h) (Or.inl ⟨by rfl, ?qyu31⟩) (by assumption) ?qru31; case qyu31 => ((intro w hSw; (try dsimp only at hSw); go_simp); try (with_reducible rfl))
  ((try simp only [List.getElem_toArray]); (try simp only [List.getElem_cons_succ]); (try simp only [List.getElem_cons_zero]); (try simp only [Act.put]); (try simp only [List.setIfInBounds_toArray]); (try simp only [List.set_cons_succ]); (try simp only [List.set_cons_zero]))
  refine wpAnyH_ready (rs := [22]) (by kernel_rfl) (by simp) ?_
  refine AllReadyH.cons rfl (fun K hK => ?_) AllReadyH.nil
  go_simp
  refine (G.load (m + 2) (by omega) xb (c + 1 + 1 + 1) b2 (by omega) rfl (by omega)).mono ?_
  rintro e y3 ⟨rfl, G⟩
  refine hK.out _ _ G.h.c1 (fun hHeld => ?_)
  clear hK K
  ((try simp only [List.getElem_toArray]); (try simp only [List.getElem_cons_succ]); (try simp only [List.getElem_cons_zero]); (try simp only [Act.put]); (try simp only [List.setIfInBounds_toArray]); (try simp only [List.set_cons_succ]); (try simp only [List.set_cons_zero]))
  refine wpAnyH_ready (rs := [29]) (by kernel_rfl) (by simp) ?_
  refine AllReadyH.cons rfl (fun K hK => ?_) AllReadyH.nil
  go_simp
  refine (G.load (m + 3) (by omega) xe (c + 1 + 1 + 1 + 1) b3 (by omega) rfl (by omega)).mono ?_
  rintro e y4 ⟨rfl, G⟩
  refine hK.out _ _ G.h.c1 (fun hHeld => ?_)
  clear hK K
  ((try simp only [List.getElem_toArray]); (try simp only [List.getElem_cons_succ]); (try simp only [List.getElem_cons_zero]); (try simp only [Act.put]); (try simp only [List.setIfInBounds_toArray]); (try simp only [List.set_cons_succ]); (try simp only [List.set_cons_zero]))
  refine wpAnyH_ready (rs := [36]) (by kernel_rfl) (by simp) ?_
  refine AllReadyH.cons rfl (fun K hK => ?_) AllReadyH.nil
  go_simp
  refine (G.load (m + 4) (by omega) xn (c + 1 + 1 + 1 + 1 + 1) b4 (by omega) rfl (by omega)).mono ?_
  rintro e y5 ⟨rfl, G⟩
  refine hK.out _ _ G.h.c1 (fun hHeld => ?_)
  clear hK K
  ((try simp only [List.getElem_toArray]); (try simp only [List.getElem_cons_succ]); (try simp only [List.getElem_cons_zero]); (try simp only [Act.put]); (try simp only [List.setIfInBounds_toArray]); (try simp only [List.set_cons_succ]); (try simp only [List.set_cons_zero]))
  refine wpAnyH_take (i := 37) (v := ?qvu32) rfl (by kernel_rfl) (by kernel_rfl) (by kernel_rfl) (fun _ _ _ h => h) (Or.inl ⟨by rfl, ?qyu32⟩) (by assumption) ?qru32; case qyu32 => ((intro w hSw; (try dsimp only at hSw); go_simp); try (with_reducible rfl))
  ((try simp only [List.getElem_toArray]); (try simp only [List.getElem_cons_succ]); (try simp only [List.getElem_cons_zero]); (try simp only [Act.put]); (try simp only [List.setIfInBounds_toArray]); (try simp only [List.set_cons_succ]); (try simp only [List.set_cons_zero]))
  refine wpAnyH_ready (rs := [38]) (by kernel_rfl) (by simp) ?_
  refine AllReadyH.cons rfl (fun K hK => ?_) AllReadyH.nil
  go_simp
  have y0 : y5.cell? ⟨N, 0, none⟩ = some (.int .i64 0) := G.y 0
  have f1 : y5.cell? ⟨N, 1, none⟩ = some (.int .i64 0) := G.y 1
  have f2 : y5.cell? ⟨N, 2, none⟩ = some (.int .u64 0) := G.y 2
  have f3 : y5.cell? ⟨N, 3, none⟩ = some (.int .u64 0) := G.y 3
  have f4 : y5.cell? ⟨N, 4, none⟩ = some (.int .u64 0) := G.y 4
  have z0 := G.z 0
  have z1 := G.z 1
  have z2 := G.z 2
  have z3 := G.z 3
  have z4 := G.z 4
  have W5 := Lib.hid (five_set y5 N _ _ _ _ _ (.int .i64 xk) (.int .i64 xv) (.int .u64 xb) (.int .u64 xe) (.int .u64 xn) y0 f1 f2 f3 f4)
  go_simp
  obtain ⟨W, eW, u0, u1, u2, u3, u4, kW⟩ := W5.out
  rw [eW]
  refine hK.out _ _ (kW.cell G.h.c1 (by intro q; exact absurd q hNp)) (fun hHeld => ?_)
  clear hK K
  ((try simp only [List.getElem_toArray]); (try simp only [List.getElem_cons_succ]); (try simp only [List.getElem_cons_zero]); (try simp only [Act.put]); (try simp only [List.setIfInBounds_toArray]); (try simp only [List.set_cons_succ]); (try simp only [List.set_cons_zero]))
  refine wpAnyH_take (i := 39) (v := ?qvu33) rfl (by kernel_rfl) (by kernel_rfl) (by kernel_rfl) (fun _ _ _ h => h) (Or.inl ⟨by rfl, ?qyu33⟩) (by assumption) ?qru33; case qyu33 => ((intro w hSw; (try dsimp only at hSw); go_simp); try (with_reducible rfl))
  ((try simp only [List.getElem_toArray]); (try simp only [List.getElem_cons_succ]); (try simp only [List.getElem_cons_zero]); (try simp only [Act.put]); (try simp only [List.setIfInBounds_toArray]); (try simp only [List.set_cons_succ]); (try simp only [List.set_cons_zero]))
  refine wpAnyH_done (by kernel_rfl) ?_ _
  go_wp2
  exact bodyPost_ret (v := .tuple #[verV ⟨xk, xv, xb, xe, xn⟩, .bool true]) (by simp [results, Tryz.results54, go_sem, verV, u0, u1, u2, u3, u4]) rfl (VPost.of rfl (G.h.keep kW hNp hNs hNa hNq) hS (keep_fresh (N := N) ((k1.mono (by simp)).trans ((G.k.mono (fun j hj => .inl hj)).trans (kW.mono (fun j hj => .inr hj)))) (by omega)))
theorem vget_any (h : VAt w p S s) (ok : ROk s) (hc : s.c ≤ 4611686018427387904) (l : Int) (hl : U64 l) : Calls Tryz.prog 54 #[.pointer (some ⟨p, 0, none⟩), .int .u64 l] w (VPost (s.get l) p S s.tick w) := by
  unfold RS.get
  split
  · rename_i hd
    exact vget_yes h ok hc l hl hd
  · rename_i hd
    exact vget_no h ok l hl (by simpa using hd)
end
end Go.Proofs.YtmfpjnlplimkeaaGreat
/- The contracts of package rec as the laws want them: see RecV (what a Store is in memory), RecF, RecG, RecM, RecT. -/
/- A Store that a law walks with: what it is, how many calls it has seen at most, and that all that has turned is new; and the statement's helper awake. -/
namespace Go.Proofs.YtmfpjnlplimkeaaGreat
open Go.ChangeShapes Go.WideShapes Go.ChangeAt Go.RowKit
set_option linter.unusedVariables false

/-- Since W a Store has been made, in new blocks, that is now in state s behind at most k calls; nothing of W has turned. -/
structure Rec (W w : World) (p : Nat) (S : Nat → Prop) (s : RS) (k : Nat) : Prop where
  h : VAt w p S s
  ok : ROk s
  g : ∀ k, S k → W.heap.size ≤ k
  b : Below W.heap.size W w
  c : s.c ≤ 64 * k
section
variable {W w w' : World} {p : Nat} {S S' : Nat → Prop} {s s' : RS} {k : Nat}
theorem Rec.step (h : Rec W w p S s k) (ok : ROk s') (hp : VAt w' p S' s') (kk : Keep S w w') (g : ∀ k, S' k → S k ∨ w.heap.size ≤ k) (c : s'.c = s.c + 64) : Rec W w' p S' s' (k + 1) := by
  have bs := h.b.size
  have hc := h.c
  exact ⟨hp, ok, fun x hx => by rcases g x hx with y | y; exact h.g x y; omega, h.b.trans (kk.below bs h.g), by omega⟩
theorem Rec.quiet (h : Rec W w p S s k) (kk : Keep (fun _ => False) w w') : Rec W w' p S s k := ⟨h.h.keep kk (by simp), h.ok, h.g, h.b.trans (kk.below h.b.size (by simp)), h.c⟩
theorem Rec.more (h : Rec W w p S s k) {n : Nat} (hn : k ≤ n) : Rec W w p S s n := ⟨h.h, h.ok, h.g, h.b, by have := h.c; omega⟩
theorem Rec.cc (h : Rec W w p S s k) (hk : k ≤ 1000000) : s.c ≤ 4611686018427387904 := by have := h.c; omega
theorem v_make (h : Rec W w p S s k) (hk : k ≤ 1000000) (key val b e : Int) (hb : U64 b) (he : U64 e) (l f : Int) (s' : RS) (hs : s.make key val b e = (l, f, s')) :
    Calls Tryz.prog 8 #[.pointer (some ⟨p, 0, none⟩), .int .i64 key, .int .i64 val, .int .u64 b, .int .u64 e] w fun x w' => x = .returned (.tuple #[.int .u64 l, .int .i64 f]) ∧ ∃ S', Rec W w' p S' s' (k + 1) ∧ VKeep S S' w w' := by
  have ok := rOk_make h.ok key val b e hb he
  have cc := make_c s key val b e
  refine (vmake_any h.h h.ok (h.cc hk) key val b e hb he).mono ?_
  rw [hs] at ok cc ⊢
  rintro x w1 ⟨rfl, S1, h1, k1, g1⟩
  exact ⟨rfl, S1, h.step ok h1 k1 g1 cc, k1, g1⟩
theorem v_get (h : Rec W w p S s k) (hk : k ≤ 1000000) (l : Int) (hl : U64 l) (r : Value) (hs : s.get l = r) :
    Calls Tryz.prog 54 #[.pointer (some ⟨p, 0, none⟩), .int .u64 l] w fun x w' => x = .returned r ∧ ∃ S', Rec W w' p S' s.tick (k + 1) ∧ VKeep S S' w w' := by
  refine (vget_any h.h h.ok (h.cc hk) l hl).mono ?_
  rw [hs]
  rintro x w1 ⟨rfl, S1, h1, k1, g1⟩
  exact ⟨rfl, S1, h.step h.ok.tick h1 k1 g1 rfl, k1, g1⟩
theorem v_next (h : Rec W w p S s k) (hk : k ≤ 1000000) (l t : Int) (hl : U64 l) (ht : U64 t) (f : Int) (s' : RS) (hs : s.next l t = (f, s')) :
    Calls Tryz.prog 33 #[.pointer (some ⟨p, 0, none⟩), .int .u64 l, .int .u64 t] w fun x w' => x = .returned (.int .i64 f) ∧ ∃ S', Rec W w' p S' s' (k + 1) ∧ VKeep S S' w w' := by
  have ok := rOk_next h.ok l t ht
  have cc := next_c s l t
  refine (vnext_any h.h h.ok (h.cc hk) l t hl ht).mono ?_
  rw [hs] at ok cc ⊢
  rintro x w1 ⟨rfl, S1, h1, k1, g1⟩
  exact ⟨rfl, S1, h.step ok h1 k1 g1 cc, k1, g1⟩
end
theorem v_new (n : Nat) (w : World) (h0 : 1 ≤ n) (h1 : n ≤ 4096) : Calls Tryz.prog 5 #[.int .i64 n] w fun x w' => ∃ p S, x = .returned (.tuple #[.pointer (some ⟨p, 0, none⟩), .int .i64 0]) ∧ Rec w w' p S (RS.new n) 1 := by
  refine (vnew_ok n w h0 h1).mono ?_
  rintro x w1 ⟨p, S, rfl, h, g, b⟩
  exact ⟨p, S, rfl, h, rOk_new n h0 h1, g, b, by simp [RS.new]⟩
/-- A Store, and blocks V of the law's own, which no call of the Store turns. -/
structure RecV (W w : World) (p : Nat) (S : Nat → Prop) (s : RS) (k : Nat) (V : Nat → Prop) : Prop where
  r : Rec W w p S s k
  v : ∀ g, V g → ¬ S g ∧ g < w.heap.size
/-- The blocks V have not turned. -/
def VSame (V : Nat → Prop) (w w' : World) : Prop := ∀ g, V g → w'.heap[g]? = w.heap[g]?
theorem VSame.cell {V : Nat → Prop} {w w' : World} (h : VSame V w w') {a : Addr} (hv : V a.block) {x : Value} (hc : w.cell? a = some x) : w'.cell? a = some x := by
  rw [World.cell?_of_block (w := w) (h _ hv)]; exact hc
theorem VSame.frozen {V : Nat → Prop} {w w' : World} (h : VSame V w w') {a : Addr} (hv : V a.block) {x : Bool} (hc : w.frozen? a = x) : w'.frozen? a = x := by
  rw [World.frozen?_of_block (w := w) (h _ hv)]; exact hc
section
variable {W w w' : World} {p : Nat} {S S' : Nat → Prop} {s s' : RS} {k k' : Nat} {V : Nat → Prop}
theorem RecV.start (h : Rec W w p S s k) : RecV W w p S s k (fun _ => False) := ⟨h, fun g hg => hg.elim⟩
theorem RecV.step (h : RecV W w p S s k V) (hr : Rec W w' p S' s' k') (kk : VKeep S S' w w') : RecV W w' p S' s' k' V ∧ VSame V w w' :=
  ⟨⟨hr, fun g hg => ⟨fun x => by rcases kk.2 g x with y | y; exact (h.v g hg).1 y; have := (h.v g hg).2; omega, Nat.lt_of_lt_of_le (h.v g hg).2 kk.1.size⟩⟩, fun g hg => kk.1.block g (h.v g hg).2 (h.v g hg).1⟩
/-- The law's own blocks, T, have turned. -/
theorem RecV.own (h : RecV W w p S s k V) {T : Nat → Prop} (kk : Keep T w w') (hT : ∀ g, T g → ¬ S g ∧ W.heap.size ≤ g) : RecV W w' p S s k V :=
  ⟨⟨h.r.h.keep kk (fun g hs ht => (hT g ht).1 hs), h.r.ok, h.r.g, h.r.b.trans (kk.below h.r.b.size (fun g hg => (hT g hg).2)), h.r.c⟩, fun g hg => ⟨(h.v g hg).1, Nat.lt_of_lt_of_le (h.v g hg).2 kk.size⟩⟩
theorem RecV.quiet (h : RecV W w p S s k V) (kk : Keep (fun _ => False) w w') : RecV W w' p S s k V := h.own kk (fun g hg => hg.elim)
theorem VSame.quiet (h : RecV W w p S s k V) (kk : Keep (fun _ => False) w w') : VSame V w w' := fun g hg => kk.block g (h.v g hg).2 (by simp)
/-- New blocks join them. -/
theorem RecV.join (h : RecV W w p S s k V) {b : Nat} (kk : Keep (fun _ => False) w w') (h0 : w.heap.size ≤ b) (h1 : b < w'.heap.size) : RecV W w' p S s k (fun g => V g ∨ g = b) :=
  ⟨(h.quiet kk).r, fun g hg => by rcases hg with hg | rfl; exact (h.quiet kk).v g hg; exact ⟨fun x => by have := h.r.h.lt g x; omega, h1⟩⟩
end
end Go.Proofs.YtmfpjnlplimkeaaGreat
/- One version of a Store that lives: what each call answers of it and leaves; plain facts, no dump. -/
namespace Go.Proofs.YtmfpjnlplimkeaaGreat
open Go.ChangeShapes Go.WideShapes Go.ChangeAt Go.RowKit
set_option linter.unusedVariables false

/-- The link l is a version's that lives, and that is x. -/
structure One (s : RS) (l : Int) (x : Ver) : Prop where
  live : s.s.live l = true
  v : s.ver (slotOf l) = x
section
variable {s : RS} {l : Int} {x : Ver}
theorem One.tick (h : One s l x) : One s.tick l x := ⟨h.live, h.v⟩
theorem One.get (h : One s l x) : s.get l = .tuple #[verV x, .bool true] := by unfold RS.get; rw [if_pos h.live, h.v]
theorem One.put (h : One s l x) (ok : ROk s) (y : Ver) : One (s.put (slotOf l) y) l y :=
  ⟨h.live, by rw [RS.ver_put s _ _ _ (by rw [ok.l]; exact (slot_live h.live).1), if_pos rfl]⟩
theorem One.stop_yes (h : One s l x) (o n : Int) (e : x.e = o) : s.stop l o n = (true, s.put (slotOf l) { x with e := n }) := by
  unfold RS.stop; rw [h.v, if_pos ⟨h.live, e⟩]
theorem One.stop_no (h : One s l x) (o n : Int) (e : x.e ≠ o) : s.stop l o n = (false, s.tick) := by
  unfold RS.stop; rw [h.v, if_neg (fun z => e z.2)]
theorem One.begin_yes (h : One s l x) (o n : Int) (e : x.b = o) : s.begin l o n = (true, s.put (slotOf l) { x with b := n }) := by
  unfold RS.begin; rw [h.v, if_pos ⟨h.live, e⟩]
theorem One.begin_no (h : One s l x) (o n : Int) (e : x.b ≠ o) : s.begin l o n = (false, s.tick) := by
  unfold RS.begin; rw [h.v, if_neg (fun z => e z.2)]
end
/-- The first version of a new Store. -/
theorem make_first (n : Nat) (h0 : 1 ≤ n) (h1 : n ≤ 4096) (k v b e : Int) (k0 : 0 ≤ k) (k1 : k ≤ 63) (v0 : 0 ≤ v) (v1 : v ≤ 65535) : ∃ s, (RS.new n).make k v b e = (1, 0, s) ∧ One s 1 ⟨k, v, b, e, 0⟩ := by
  have ok := (rOk_new n h0 h1).p
  have ht : (RS.new n).s.top = some 0 := by
    simp only [RS.new, St.new, St.top, List.getLast?_nil, List.length_replicate]
    rw [if_pos (by omega)]; rfl
  obtain ⟨hi, _, _, e1, e2, _⟩ := ok_took ok ht
  have hg : (RS.new n).s.tag 0 = 0 := getD_rep n 0 0
  have hl : (RS.new n).s.link 0 = 1 := by unfold St.link; rw [hg]; decide
  refine ⟨⟨(RS.new n).s.took, (RS.new n).r.set 0 ⟨k, v, b, e, 0⟩, (RS.new n).c + 64⟩, ?_, ?_, ?_⟩
  · unfold RS.make
    rw [if_neg (by omega), ht]
    show ((RS.new n).s.link 0, _, _) = _
    rw [hl]
  · rw [live_iff]
    refine ⟨0, by rw [e1]; exact hi, ?_, ?_, by decide⟩
    · show ((RS.new n).s.took.taken).getD 0 false = true
      rw [e2, tk_set true (by rw [ok.tl]; exact hi), if_pos rfl]
    · rw [← hl]; simp only [St.link, St.tag, e1]
  · show ((RS.new n).r.set 0 _).getD (slotOf 1) _ = _
    rw [show slotOf 1 = 0 by decide, RS.ver_set (RS.new n) 0 0 _ (by simp [RS.new]; omega), if_pos rfl]
/-- A Store of n slots of which the first k were taken, and none given back. -/
structure Fill (s : RS) (n k : Nat) : Prop where
  gv : s.s.given = []
  fr : s.s.fresh = k
  tg : s.s.tags = List.replicate n 0
  tk : ∀ j, j < k → s.s.tk j = true
  ct : cnt s.s.taken = k
theorem fill_new (n : Nat) : Fill (RS.new n) n 0 := ⟨rfl, rfl, rfl, fun j hj => by omega, cnt_rep n⟩
section
variable {s : RS} {n k : Nat}
theorem Fill.len (h : Fill s n k) : s.s.tags.length = n := by rw [h.tg]; simp
theorem Fill.tag (h : Fill s n k) (j : Nat) : s.s.tag j = 0 := by unfold St.tag; rw [h.tg]; exact getD_rep n j 0
theorem Fill.link (h : Fill s n k) (j : Nat) : s.s.link j = (j : Int) + 1 := by unfold St.link linkI; rw [h.tag j]; omega
theorem Fill.tick (h : Fill s n k) : Fill s.tick n k := ⟨h.gv, h.fr, h.tg, h.tk, h.ct⟩
theorem Fill.put (h : Fill s n k) (i : Nat) (x : Ver) : Fill (s.put i x) n k := ⟨h.gv, h.fr, h.tg, h.tk, h.ct⟩
theorem Fill.live (h : Fill s n k) (ok : ROk s) (j : Nat) (hj : j < k) (hk : k ≤ n) : s.s.live ((j : Int) + 1) = true := by
  rw [← h.link j]
  exact live_link ok.p j (by rw [h.len]; omega) (h.tk j hj)
theorem Fill.make (h : Fill s n k) (ok : ROk s) (hk : k < n) (key v b e : Int) (k0 : 0 ≤ key) (k1 : key ≤ 63) (v0 : 0 ≤ v) (v1 : v ≤ 65535) :
    ∃ s', s.make key v b e = ((k : Int) + 1, 0, s') ∧ Fill s' n (k + 1) ∧ s'.ver k = ⟨key, v, b, e, 0⟩ ∧ ∀ j, j ≠ k → s'.ver j = s.ver j := by
  have hl := h.len
  have ht : s.s.top = some k := by
    simp only [St.top, h.gv, List.getLast?_nil, h.fr, hl]
    rw [if_pos (by omega)]; rfl
  obtain ⟨hi, hkf, _, e1, e2, _⟩ := ok_took ok.p ht
  have e3 : s.s.took = { s.s with taken := s.s.taken.set k true, fresh := (k : Int) + 1 } := by simp [St.took, h.gv, h.fr]
  have hkl : k < s.s.taken.length := by rw [ok.p.tl]; exact hi
  refine ⟨⟨s.s.took, s.r.set k ⟨key, v, b, e, 0⟩, s.c + 64⟩, ?_, ⟨?_, ?_, ?_, ?_, ?_⟩, ?_, ?_⟩
  · unfold RS.make
    rw [if_neg (by omega), ht]
    show (s.s.link k, _, _) = _
    rw [h.link k]
  · show s.s.took.given = []
    rw [e3]; exact h.gv
  · show s.s.took.fresh = _
    rw [e3]; simp
  · show s.s.took.tags = _
    rw [e1]; exact h.tg
  · intro j hj
    show s.s.took.taken.getD j false = true
    rw [e2, tk_set true hkl]
    split
    · rfl
    · exact h.tk j (by omega)
  · show cnt s.s.took.taken = _
    rw [e2, cnt_set _ _ hkl]
    have : s.s.taken.getD k false = false := hkf
    rw [this, h.ct]; simp
  · show (s.r.set k _).getD k _ = _
    rw [RS.ver_set s k k _ (by rw [ok.l]; exact hi), if_pos rfl]
  · intro j hj
    show (s.r.set k _).getD j _ = _
    rw [RS.ver_set s k j _ (by rw [ok.l]; exact hi), if_neg (fun e => hj e.symm)]
theorem Fill.full (h : Fill s n n) (key v b e : Int) (k0 : 0 ≤ key) (k1 : key ≤ 63) (v0 : 0 ≤ v) (v1 : v ≤ 65535) : s.make key v b e = (0, 15, s.tick) := by
  have ht : s.s.top = none := by
    simp only [St.top, h.gv, List.getLast?_nil, h.fr, h.len]
    rw [if_neg (by omega)]
  unfold RS.make
  rw [if_neg (by omega), ht]
/-- One of a full Store is freed, and another one made: it has the same slot and another link; the elder one is none. -/
theorem Fill.again (h : Fill s n n) (ok : ROk s) (j : Nat) (hj : j < n) (key v b e : Int) (k0 : 0 ≤ key) (k1 : key ≤ 63) (v0 : 0 ≤ v) (v1 : v ≤ 65535) :
    ∃ s1 s2, s.free ((j : Int) + 1) = (0, s1) ∧ s1.make key v b e = (131072 + ((j : Int) + 1), 0, s2) ∧ One s2 (131072 + ((j : Int) + 1)) ⟨key, v, b, e, 0⟩ ∧ s2.s.live ((j : Int) + 1) = false ∧ s2.used = n := by
  have hlen := h.len
  have n1 := ok.p.n1
  have hlv := h.live ok j hj (Nat.le_refl _)
  have sl : slotOf ((j : Int) + 1) = j := by rw [← h.link j]; exact slot_link s.s j (by omega)
  have hjt : j < s.s.taken.length := by rw [ok.p.tl, hlen]; exact hj
  have hjg : j < s.s.tags.length := by rw [hlen]; exact hj
  have g : s.s.gave j = { s.s with taken := s.s.taken.set j false, tags := s.s.tags.set j 1, given := [(j : Int)] } := by
    unfold St.gave
    rw [if_neg (by rw [h.tag j, ok.m]; omega), h.tag j, h.gv]; rfl
  have ok1 : Ok (s.s.gave j) := ok_gave ok.p hjg (h.tk j hj)
  have tp : (s.s.gave j).top = some j := by rw [g]; simp [St.top]
  have tt : (s.s.gave j).took = { s.s with taken := (s.s.taken.set j false).set j true, tags := s.s.tags.set j 1, given := [] } := by rw [g]; simp [St.took]
  have tag1 : (s.s.tags.set j 1).getD j 0 = 1 := by rw [tag_set _ hjg]; simp
  have lk : ∀ t : St, t.tags = s.s.tags.set j 1 → t.link j = 131072 + ((j : Int) + 1) := fun t ht => by
    unfold St.link St.tag linkI; rw [ht, tag1]; omega
  have fr : s.free ((j : Int) + 1) = (0, ⟨s.s.gave j, s.r, s.c + 64⟩) := by
    unfold RS.free; rw [if_pos hlv, sl]
  have lv : ∀ (l : Int) (m : Nat), l % 131072 = (m : Int) + 1 → slotOf l = m := fun l m hm => by unfold slotOf; omega
  refine ⟨⟨s.s.gave j, s.r, s.c + 64⟩, ⟨(s.s.gave j).took, s.r.set j ⟨key, v, b, e, 0⟩, s.c + 64 + 64⟩, fr, ?_, ⟨?_, ?_⟩, ?_, ?_⟩
  · unfold RS.make
    rw [if_neg (by omega)]
    show (match (s.s.gave j).top with | none => _ | some i => _) = _
    rw [tp]
    show ((s.s.gave j).link j, _, _) = _
    rw [lk _ (by rw [g])]
  · rw [live_iff]
    refine ⟨j, ?_, ?_, ?_, by omega⟩
    · show j < (s.s.gave j).took.tags.length
      rw [tt]; simpa using hjg
    · show (s.s.gave j).took.taken.getD j false = true
      rw [tt]
      simp [List.getD_eq_getElem?_getD, hjt]
    · show _ = (s.s.gave j).took.link j
      rw [lk _ (by rw [tt])]
  · show (s.r.set j _).getD (slotOf _) _ = _
    rw [lv _ j (by omega), RS.ver_set s j j _ (by rw [ok.l]; exact hjg), if_pos rfl]
  · cases hd : ((s.s.gave j).took).live ((j : Int) + 1) with
    | false => rfl
    | true =>
      obtain ⟨_, _, e2⟩ := slot_live hd
      rw [lv _ j (by omega), lk _ (by rw [tt])] at e2
      omega
  · show cnt (s.s.gave j).took.taken = _
    rw [tt]
    show cnt ((s.s.taken.set j false).set j true) = _
    have a1 : s.s.taken.getD j false = true := h.tk j hj
    rw [List.set_set, cnt_set _ _ hjt, a1, h.ct]; simp
end
theorem dead_begin {s : RS} {l : Int} (h : s.s.live l = false) (o n : Int) : s.begin l o n = (false, s.tick) := by unfold RS.begin; rw [if_neg (by simp [h])]
theorem dead_stop {s : RS} {l : Int} (h : s.s.live l = false) (o n : Int) : s.stop l o n = (false, s.tick) := by unfold RS.stop; rw [if_neg (by simp [h])]
theorem dead_set {s : RS} {l : Int} (h : s.s.live l = false) (v : Int) : s.set l v = (8, s.tick) := by unfold RS.set; rw [if_neg (by simp [h])]
theorem dead_next {s : RS} {l : Int} (h : s.s.live l = false) (t : Int) : s.next l t = (8, s.tick) := by unfold RS.next; rw [if_neg (by simp [h])]
theorem dead_free {s : RS} {l : Int} (h : s.s.live l = false) : s.free l = (8, s.tick) := by unfold RS.free; rw [if_neg (by simp [h])]
theorem dead_get {s : RS} {l : Int} (h : s.s.live l = false) : s.get l = .tuple #[verV ⟨0, 0, 0, 0, 0⟩, .bool false] := by unfold RS.get; rw [if_neg (by simp [h])]
/-- A Store, and a list of words of the call's own. -/
structure RecU (W w : World) (p : Nat) (S : Nat → Prop) (s : RS) (k : Nat) (v : Value) (zs : List Int) : Prop where
  r : Rec W w p S s k
  ow : OwnU W.heap.size w v zs
  dv : ∀ g, v.ownBlock = some g → ¬ S g
section
variable {W w w' : World} {p : Nat} {S S' : Nat → Prop} {s s' : RS} {k k' : Nat} {v : Value} {zs : List Int}
theorem RecU.start (h : Rec W w p S s k) : RecU W w p S s k (.slice none 0 0) [] := ⟨h, World.ownsRow_nil _ _ _ _, by simp [Value.ownBlock]⟩
theorem RecU.step (h : RecU W w p S s k v zs) (hr : Rec W w' p S' s' k') (kk : VKeep S S' w w') : RecU W w' p S' s' k' v zs :=
  ⟨hr, h.ow.keep kk.1 h.dv, fun g hg x => by rcases kk.2 g x with y | y; exact h.dv g hg y; have := h.ow.lt hg; omega⟩
theorem RecU.quiet (h : RecU W w p S s k v zs) (kk : Keep (fun _ => False) w w') : RecU W w' p S s k v zs := ⟨h.r.quiet kk, h.ow.keep kk (by simp), h.dv⟩
theorem RecU.more (h : RecU W w p S s k v zs) {n : Nat} (hn : k ≤ n) : RecU W w p S s n v zs := ⟨h.r.more hn, h.ow, h.dv⟩
theorem RecU.push (h : RecU W w p S s k v zs) {g c : Nat} {l : Int} (o : OwnU W.heap.size w' (.slice (some ⟨g, 0, none⟩) (zs.length + 1) c) (zs ++ [l])) (kk : Keep (fun j => v.ownBlock = some j) w w') (hg : v.ownBlock = some g ∨ w.heap.size ≤ g) : RecU W w' p S s k (.slice (some ⟨g, 0, none⟩) (zs.length + 1) c) (zs ++ [l]) := by
  have bs := h.r.b.size
  refine ⟨⟨h.r.h.keep kk (fun x hx y => h.dv x y hx), h.r.ok, h.r.g, h.r.b.trans (kk.below bs (fun x hx => (h.ow.lt hx).1)), h.r.c⟩, o, fun x hx y => ?_⟩
  cases hx
  rcases hg with z | z
  · exact h.dv _ z y
  · have : g < w.heap.size := h.r.h.lt _ y
    omega
end
/-- 1, 2, .. k. -/
def upTo (k : Nat) : List Int := (List.range k).map fun (j : Nat) => (j : Int) + 1
theorem upTo_len (k : Nat) : (upTo k).length = k := by simp [upTo]
theorem upTo_succ (k : Nat) : upTo (k + 1) = upTo k ++ [(k : Int) + 1] := by simp [upTo, List.range_succ]
theorem upTo_get (k j : Nat) (h : j < k) : (upTo k).getD j 0 = (j : Int) + 1 := by simp [upTo, List.getD_eq_getElem?_getD, h]
/-- A slice of the call's own that is not empty. -/
theorem own_at {B : Nat} {w : World} {v : Value} {k : Nat} (h : OwnU B w v (upTo k)) (hk : 0 < k) : ∃ g c, v = .slice (some ⟨g, 0, none⟩) k c := by
  obtain ⟨h1, h2⟩ := h
  rcases h2 with ⟨_, h3⟩ | ⟨g, c, _, hv, _⟩
  · rw [upTo_len] at h3; omega
  · exact ⟨g, c, by rw [hv, upTo_len]⟩
theorem gave_live_other (s : St) (i : Nat) (l : Int) (h : slotOf l ≠ i) : (s.gave i).live l = s.live l := by
  obtain ⟨g1, g2, _, g4⟩ := gave_parts s i
  have e1 : (s.gave i).tk (slotOf l) = s.tk (slotOf l) := by
    simp only [St.tk, g2, List.getD_eq_getElem?_getD, List.getElem?_set, Ne.symm h, if_false]
  have e2 : (s.gave i).link (slotOf l) = s.link (slotOf l) := by unfold St.link; rw [g4 _ h]
  unfold slotOf at e1 e2
  unfold St.live
  rw [g1, e1, e2]
theorem gave_live_self (s : St) (i : Nat) (l : Int) (h : slotOf l = i) : (s.gave i).live l = false := by
  obtain ⟨g1, g2, _, g4⟩ := gave_parts s i
  cases hl : (s.gave i).live l with
  | false => rfl
  | true =>
    obtain ⟨h1, h2, _⟩ := slot_live hl
    rw [h] at h1 h2
    have e : (s.taken.set i false).getD i false = false := by
      rw [List.getD_eq_getElem?_getD, List.getElem?_set]
      by_cases hi : i < s.taken.length <;> simp [hi]
    unfold St.tk at h2
    rw [g2, e] at h2
    cases h2
theorem used_len {s : RS} (ok : ROk s) : s.used = (s.links.length : Int) := by
  unfold RS.used RS.links
  rw [allTo_cnt s.s _ (by rw [ok.p.tl]; exact Nat.le_refl _), ← ok.p.tl, List.take_length]
/-- Of n versions in a row those of the first k are gone whose bit is set. -/
structure Gone (s : RS) (n k : Nat) (bit : Nat → Bool) (f : Nat → Ver) (u : Int) : Prop where
  live : ∀ j, j < n → s.s.live ((j : Int) + 1) = (decide (k ≤ j) || !bit j)
  ver : ∀ j, j < n → s.ver j = f j
  ct : cnt s.s.taken = u
  u0 : 0 ≤ u
  u1 : u ≤ n
section
variable {s : RS} {n k : Nat} {bit : Nat → Bool} {f : Nat → Ver} {u : Int}
theorem Gone.tick (h : Gone s n k bit f u) : Gone s.tick n k bit f u := ⟨h.live, h.ver, h.ct, h.u0, h.u1⟩
theorem Gone.start {m : Nat} (h : Fill s m n) (ok : ROk s) (hm : n ≤ m) (hv : ∀ j, j < n → s.ver j = f j) : Gone s n 0 bit f n :=
  ⟨fun j hj => by rw [h.live ok j hj hm]; simp, hv, h.ct, by omega, by omega⟩
theorem Gone.skip (h : Gone s n k bit f u) (hb : bit k = false) : Gone s n (k + 1) bit f u := by
  refine ⟨fun j hj => ?_, h.ver, h.ct, h.u0, h.u1⟩
  rw [h.live j hj]
  by_cases e : j = k
  · subst e; simp [hb]
  · congr 1; exact decide_eq_decide.2 (by omega)
theorem slotOf_succ (j : Nat) (h : j < 131071) : slotOf ((j : Int) + 1) = j := by unfold slotOf; omega
theorem Gone.free (h : Gone s n k bit f u) (ok : ROk s) (hk : k < n) (hn : n < 131071) (hb : bit k = true) :
    ∃ s', s.free ((k : Int) + 1) = (0, s') ∧ s'.s.live ((k : Int) + 1) = false ∧ Gone s' n (k + 1) bit f (u - 1) := by
  have hl : s.s.live ((k : Int) + 1) = true := by rw [h.live k hk]; simp
  have sk := slotOf_succ k (by omega)
  obtain ⟨h1, h2, _⟩ := slot_live hl
  rw [sk] at h1 h2
  have hkt : k < s.s.taken.length := by rw [ok.p.tl]; exact h1
  obtain ⟨g1, g2, _, _⟩ := gave_parts s.s k
  have dead := gave_live_self s.s k ((k : Int) + 1) sk
  have c1 : s.s.taken.getD k false = true := h2
  have c2 := cnt_set s.s.taken k hkt false
  rw [c1] at c2
  have c3 : cnt (s.s.taken.set k false) = u - 1 := by rw [c2, h.ct]; simp
  have c4 := cnt_nonneg (s.s.taken.set k false)
  refine ⟨⟨s.s.gave k, s.r, s.c + 64⟩, by unfold RS.free; rw [if_pos hl, sk], dead, ⟨fun j hj => ?_, h.ver, ?_, by omega, by have := h.u1; omega⟩⟩
  · by_cases e : j = k
    · subst e
      show (s.s.gave j).live _ = _
      rw [dead]; simp [hb]
    · show (s.s.gave k).live _ = _
      rw [gave_live_other _ _ _ (by rw [slotOf_succ j (by omega)]; exact e), h.live j hj]
      congr 1; exact decide_eq_decide.2 (by omega)
  · show cnt (s.s.gave k).taken = _
    rw [g2]; exact c3
theorem Gone.get_yes (h : Gone s n n bit f u) (j : Nat) (hj : j < n) (hn : n < 131071) (hb : bit j = false) : s.get ((j : Int) + 1) = .tuple #[verV (f j), .bool true] := by
  unfold RS.get
  rw [h.live j hj, if_pos (by simp [hb]), slotOf_succ j (by omega), h.ver j hj]
theorem Gone.get_no (h : Gone s n n bit f u) (j : Nat) (hj : j < n) (hb : bit j = true) : s.get ((j : Int) + 1) = .tuple #[verV ⟨0, 0, 0, 0, 0⟩, .bool false] :=
  dead_get (by rw [h.live j hj]; simp [hb]; omega)
end
end Go.Proofs.YtmfpjnlplimkeaaGreat
