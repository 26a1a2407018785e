/- Several texts, one behind the other: RmD, RmE, RmG. -/
import Derived.Test.YtkkjofefjepodaaLawModelPlaysZau
import Derived.Test.YtkkjofefjepodaaLawModelPlaysZaj
import Derived.Test.YtkkjofefjepodaaLawModelPlaysZab
/- The document's own Model, fourth part: one session otherwise, the versions otherwise; over. Conditions: at most 1000 versions. -/
namespace Go.Proofs.Ytkkjofefjepodaa
open Go.ChangeShapes Go.WideShapes Go.ChangeAt Go.RowKit
set_option linter.unusedVariables false
set_option linter.unusedSimpArgs false

def updV (f : Nat → Value) (i : Nat) (v : Value) : Nat → Value := fun j => if j = i then v else f j
theorem updV_self (f : Nat → Value) (i : Nat) (v : Value) : updV f i v i = v := if_pos rfl
theorem updV_ne (f : Nat → Value) {i j : Nat} (v : Value) (h : j ≠ i) : updV f i v j = f j := if_neg h
section
variable {w w' W : World} {m : Nat} {vv vv' : Value} {sw sr sw' sr' : Nat → Value} {x y : MoI} {T : Nat → Prop}
theorem RmAt.ses (h : RmAt w m vv sw sr x) {s : Nat} (hs : s < 8) (k : Keep T w W) (hT : ∀ g, T g → g = m ∨ (sw s).ownBlock = some g ∨ (sr s).ownBlock = some g)
  (far : ∀ i u, (i < 3 + s * 6 ∨ 3 + s * 6 + 6 ≤ i) → w.cell? ⟨m, i, none⟩ = some u → W.cell? ⟨m, i, none⟩ = some u) (fz : ∀ i, W.frozen? ⟨m, i, none⟩ = false) (t : TxI) (a b : Value)
  (t0 : W.cell? ⟨m, 3 + s * 6, none⟩ = some (.int .i64 t.id)) (t1 : W.cell? ⟨m, 3 + s * 6 + 1, none⟩ = some (.int .i64 t.level)) (t2 : W.cell? ⟨m, 3 + s * 6 + 2, none⟩ = some (.int .i64 t.ops)) (t3 : W.cell? ⟨m, 3 + s * 6 + 3, none⟩ = some (.int .u64 t.start))
  (t4 : W.cell? ⟨m, 3 + s * 6 + 4, none⟩ = some a) (t5 : W.cell? ⟨m, 3 + s * 6 + 5, none⟩ = some b) (ow : OwnN 0 W a t.wrote) (or' : OwnR W b t.reads)
  (da : ∀ g, a.ownBlock = some g → (sw s).ownBlock = some g ∨ w.heap.size ≤ g) (db : ∀ g, b.ownBlock = some g → (sr s).ownBlock = some g ∨ w.heap.size ≤ g) (dab : ∀ g, a.ownBlock = some g → b.ownBlock ≠ some g) :
  RmAt W m vv (updV sw s a) (updV sr s b) { x with s := putS x.s s t } := by
 have ml := h.mlt
 have vT : ∀ g, vv.ownBlock = some g → ¬ T g := fun g hg ht => by
  rcases hT g ht with e | e | e
  ·exact h.vm (e ▸ hg)
  ·exact h.vw s g hs hg e
  ·exact h.vr s g hs hg e
 have wT : ∀ i g, i < 8 → i ≠ s → (sw i).ownBlock = some g → ¬ T g := fun i g hi ne hg ht => by
  rcases hT g ht with e | e | e
  ·exact h.wm i hi (e ▸ hg)
  ·exact h.ww i s g hi hs ne hg e
  ·exact h.wr i s g hi hs hg e
 have rT : ∀ i g, i < 8 → i ≠ s → (sr i).ownBlock = some g → ¬ T g := fun i g hi ne hg ht => by
  rcases hT g ht with e | e | e
  ·exact h.rm i hi (e ▸ hg)
  ·exact h.wr s i g hs hi e hg
  ·exact h.rr i s g hi hs ne hg e
 have lw : ∀ i g, i < 8 → (sw i).ownBlock = some g → g < w.heap.size := fun i g hi hg => (OwnN.lt (h.ow i hi) hg).2
 have lr : ∀ i g, i < 8 → (sr i).ownBlock = some g → g < w.heap.size := fun i g hi hg => (h.or' i hi).lt hg
 have lv : ∀ g, vv.ownBlock = some g → g < w.heap.size := fun g hg => h.ov.lt hg
 have S : ∀ (P : Nat → TxI → Value → Value → Prop), P s t a b → (∀ i, i < 8 → i ≠ s → P i (x.s i) (sw i) (sr i)) → ∀ i, i < 8 → P i (putS x.s s t i) (updV sw s a i) (updV sr s b i) := fun P p1 p2 i hi => by
  by_cases e : i = s
  ·subst e; rw [putS_self, updV_self, updV_self]; exact p1
  ·rw [putS_ne _ _ e, updV_ne _ _ e, updV_ne _ _ e]; exact p2 i hi e
 have D : ∀ i, i ≠ s → ∀ j, j < 6 → (3 + i * 6 + j < 3 + s * 6 ∨ 3 + s * 6 + 6 ≤ 3 + i * 6 + j) := fun i ne j hj => by omega
 exact {
  c0 := far 0 _ (.inl (by omega)) h.c0, c1 := far 1 _ (.inl (by omega)) h.c1, c2 := far 2 _ (.inl (by omega)) h.c2
  s0 := S (fun i t a b => W.cell? ⟨m, 3 + i * 6, none⟩ = some (.int .i64 t.id)) t0 fun i hi ne => far _ _ (D i ne 0 (by omega)) (h.s0 i hi)
  s1 := S (fun i t a b => W.cell? ⟨m, 3 + i * 6 + 1, none⟩ = some (.int .i64 t.level)) t1 fun i hi ne => far _ _ (D i ne 1 (by omega)) (h.s1 i hi)
  s2 := S (fun i t a b => W.cell? ⟨m, 3 + i * 6 + 2, none⟩ = some (.int .i64 t.ops)) t2 fun i hi ne => far _ _ (D i ne 2 (by omega)) (h.s2 i hi)
  s3 := S (fun i t a b => W.cell? ⟨m, 3 + i * 6 + 3, none⟩ = some (.int .u64 t.start)) t3 fun i hi ne => far _ _ (D i ne 3 (by omega)) (h.s3 i hi)
  s4 := S (fun i t a b => W.cell? ⟨m, 3 + i * 6 + 4, none⟩ = some a) t4 fun i hi ne => far _ _ (D i ne 4 (by omega)) (h.s4 i hi)
  s5 := S (fun i t a b => W.cell? ⟨m, 3 + i * 6 + 5, none⟩ = some b) t5 fun i hi ne => far _ _ (D i ne 5 (by omega)) (h.s5 i hi)
  c51 := far 51 _ (.inr (by omega)) h.c51, c52 := far 52 _ (.inr (by omega)) h.c52
  fz := fz
  ov := h.ov.keep k vT
  ow := S (fun i t a b => OwnN 0 W a t.wrote) ow fun i hi ne => OwnN.keep (h.ow i hi) k (fun g hg => wT i g hi ne hg)
  or' := S (fun i t a b => OwnR W b t.reads) or' fun i hi ne => (h.or' i hi).keep k (fun g hg => rT i g hi ne hg)
  vm := h.vm
  wm := S (fun i t a b => a.ownBlock ≠ some m) (fun e => by rcases da m e with q | q; exact h.wm s hs q; omega) fun i hi ne => h.wm i hi
  rm := S (fun i t a b => b.ownBlock ≠ some m) (fun e => by rcases db m e with q | q; exact h.rm s hs q; omega) fun i hi ne => h.rm i hi
  vw := fun i g hi hg => S (fun i t a b => a.ownBlock ≠ some g) (fun e => by rcases da g e with q | q; exact h.vw s g hs hg q; have := lv g hg; omega) (fun i hi ne => h.vw i g hi hg) i hi
  vr := fun i g hi hg => S (fun i t a b => b.ownBlock ≠ some g) (fun e => by rcases db g e with q | q; exact h.vr s g hs hg q; have := lv g hg; omega) (fun i hi ne => h.vr i g hi hg) i hi
  ww := fun i j g hi hj ne e1 => by
   by_cases ei : i = s
   ·subst ei
    rw [updV_self] at e1
    rw [updV_ne _ _ (fun e => ne e.symm)]
    rcases da g e1 with q | q
    ·exact h.ww i j g hi hj ne q
    ·intro e; have := lw j g hj e; omega
   ·rw [updV_ne _ _ ei] at e1
    by_cases ej : j = s
    ·subst ej
     rw [updV_self]
     intro e
     rcases da g e with q | q
     ·exact h.ww i j g hi hj ne e1 q
     ·have := lw i g hi e1; omega
    ·rw [updV_ne _ _ ej]; exact h.ww i j g hi hj ne e1
  rr := fun i j g hi hj ne e1 => by
   by_cases ei : i = s
   ·subst ei
    rw [updV_self] at e1
    rw [updV_ne _ _ (fun e => ne e.symm)]
    rcases db g e1 with q | q
    ·exact h.rr i j g hi hj ne q
    ·intro e; have := lr j g hj e; omega
   ·rw [updV_ne _ _ ei] at e1
    by_cases ej : j = s
    ·subst ej
     rw [updV_self]
     intro e
     rcases db g e with q | q
     ·exact h.rr i j g hi hj ne e1 q
     ·have := lr i g hi e1; omega
    ·rw [updV_ne _ _ ej]; exact h.rr i j g hi hj ne e1
  wr := fun i j g hi hj e1 => by
   by_cases ei : i = s
   ·subst ei
    rw [updV_self] at e1
    by_cases ej : j = i
    ·subst ej; rw [updV_self]; exact dab g e1
    ·rw [updV_ne _ _ ej]
     rcases da g e1 with q | q
     ·exact h.wr i j g hi hj q
     ·intro e; have := lr j g hj e; omega
   ·rw [updV_ne _ _ ei] at e1
    by_cases ej : j = s
    ·subst ej
     rw [updV_self]
     intro e
     rcases db g e with q | q
     ·exact h.wr i j g hi hj e1 q
     ·have := lw i g hi e1; omega
    ·rw [updV_ne _ _ ej]; exact h.wr i j g hi hj e1 }
/-- The versions otherwise. -/
theorem RmAt.vs (h : RmAt w m vv sw sr x) (k : Keep T w W) (hT : ∀ g, T g → g = m ∨ vv.ownBlock = some g) (far : ∀ i u, i ≠ 2 → w.cell? ⟨m, i, none⟩ = some u → W.cell? ⟨m, i, none⟩ = some u) (c2 : W.cell? ⟨m, 2, none⟩ = some vv') (fz : ∀ i, W.frozen? ⟨m, i, none⟩ = false)
  (l : List VrI) (ov : OwnRv W vv' l) (dv : ∀ g, vv'.ownBlock = some g → vv.ownBlock = some g ∨ w.heap.size ≤ g) : RmAt W m vv' sw sr { x with v := l } := by
 have ml := h.mlt
 have wT : ∀ i g, i < 8 → (sw i).ownBlock = some g → ¬ T g := fun i g hi hg ht => by
  rcases hT g ht with e | e
  ·exact h.wm i hi (e ▸ hg)
  ·exact h.vw i g hi e hg
 have rT : ∀ i g, i < 8 → (sr i).ownBlock = some g → ¬ T g := fun i g hi hg ht => by
  rcases hT g ht with e | e
  ·exact h.rm i hi (e ▸ hg)
  ·exact h.vr i g hi e hg
 exact {
  c0 := far 0 _ (by omega) h.c0, c1 := far 1 _ (by omega) h.c1, c2 := c2
  s0 := fun i hi => far _ _ (by omega) (h.s0 i hi), s1 := fun i hi => far _ _ (by omega) (h.s1 i hi), s2 := fun i hi => far _ _ (by omega) (h.s2 i hi)
  s3 := fun i hi => far _ _ (by omega) (h.s3 i hi), s4 := fun i hi => far _ _ (by omega) (h.s4 i hi), s5 := fun i hi => far _ _ (by omega) (h.s5 i hi)
  c51 := far 51 _ (by omega) h.c51, c52 := far 52 _ (by omega) h.c52
  fz := fz, ov := ov
  ow := fun i hi => OwnN.keep (h.ow i hi) k (fun g hg => wT i g hi hg)
  or' := fun i hi => (h.or' i hi).keep k (fun g hg => rT i g hi hg)
  vm := fun e => by rcases dv m e with q | q; exact h.vm q; omega
  wm := h.wm, rm := h.rm
  vw := fun i g hi e e2 => by rcases dv g e with q | q; exact h.vw i g hi q e2; have := (OwnN.lt (h.ow i hi) e2).2; omega
  vr := fun i g hi e e2 => by rcases dv g e with q | q; exact h.vr i g hi q e2; have := (h.or' i hi).lt e2; omega
  ww := h.ww, rr := h.rr, wr := h.wr }
/-- One field of one version is written. -/
theorem RmAt.put {g n c : Nat} (h : RmAt w m (.slice (some ⟨g, 0, none⟩) n c) sw sr x) (i j : Nat) (hi : i < x.v.length) (hj : j < 7) (u : Value) (z : VrI) (hz : vrC z = (vrC x.v[i]).set j u) :
  RmAt (w.setCell ⟨g, i * 7 + j, none⟩ u) m (.slice (some ⟨g, 0, none⟩) n c) sw sr { x with v := x.v.set i z } := by
 have k := keep_one w ⟨g, i * 7 + j, none⟩ u
 have gm : g ≠ m := fun e => h.vm (by rw [e]; rfl)
 refine h.vs k (fun q e => .inr (by cases e; rfl)) (fun a u' _ hu => k.cell hu (fun e => gm e.symm)) (k.cell h.c2 (fun e => gm e.symm)) (fun a => (k.frozen (a := ⟨m, a, none⟩) h.mlt (fun e => gm e.symm)).trans (h.fz a)) _ ?_ (fun q e => .inl e)
 exact OwnM.set vrC_len h.ov i j hi hj u z hz
/-- The clock, and how many were made. -/
theorem RmAt.clock (h : RmAt w m vv sw sr x) (t : Int) : RmAt (w.setCell ⟨m, 51, none⟩ (.int .u64 t)) m vv sw sr { x with time := t } := by
 have k := keep_one w ⟨m, 51, none⟩ (.int .u64 t)
 have far : ∀ i u, i ≠ 51 → w.cell? ⟨m, i, none⟩ = some u → (w.setCell ⟨m, 51, none⟩ (.int .u64 t)).cell? ⟨m, i, none⟩ = some u := fun i u ne hu => by rw [World.cell?_setCell_other _ _ _ _ (by first | (simp; done) | (simp; omega))]; exact hu
 exact {
  c0 := far 0 _ (by omega) h.c0, c1 := far 1 _ (by omega) h.c1, c2 := far 2 _ (by omega) h.c2
  s0 := fun i hi => far _ _ (by omega) (h.s0 i hi), s1 := fun i hi => far _ _ (by omega) (h.s1 i hi), s2 := fun i hi => far _ _ (by omega) (h.s2 i hi)
  s3 := fun i hi => far _ _ (by omega) (h.s3 i hi), s4 := fun i hi => far _ _ (by omega) (h.s4 i hi), s5 := fun i hi => far _ _ (by omega) (h.s5 i hi)
  c51 := World.cell?_setCell_same _ _ _ h.c51, c52 := far 52 _ (by omega) h.c52
  fz := fun i => by rw [World.frozen?_setCell]; exact h.fz i
  ov := h.ov.keep k (fun g hg e => h.vm (by rw [hg]; exact congrArg some e))
  ow := fun i hi => OwnN.keep (h.ow i hi) k (fun g hg e => h.wm i hi (by rw [hg]; exact congrArg some e))
  or' := fun i hi => (h.or' i hi).keep k (fun g hg e => h.rm i hi (by rw [hg]; exact congrArg some e))
  vm := h.vm, wm := h.wm, rm := h.rm, vw := h.vw, vr := h.vr, ww := h.ww, rr := h.rr, wr := h.wr }
theorem Keep.onew {S T : Nat → Prop} {w a b : World} (k : Keep S w a) (h : Keep T a b) (hT : ∀ j, T j → S j ∨ w.heap.size ≤ j) : Keep S w b :=
 ⟨h.os.trans k.os, h.tape.trans k.tape, h.output.trans k.output, Nat.le_trans k.size h.size, fun j hj hn => (h.block j (Nat.lt_of_lt_of_le hj k.size) (fun y => by rcases hT j y with q | q; exact hn q; omega)).trans (k.block j hj hn)⟩
/-- What a call leaves. -/
def RmTo (w : World) (m : Nat) (vv : Value) (sw sr : Nat → Value) (y : MoI) (w' : World) : Prop :=
 ∃ vv' sw' sr', RmAt w' m vv' sw' sr' y ∧ Keep (FootR m vv sw sr) w w' ∧ ∀ g, FootR m vv' sw' sr' g → FootR m vv sw sr g ∨ w.heap.size ≤ g
theorem RmTo.trans (h : RmTo w m vv sw sr x w') (h2 : ∀ vv' sw' sr', RmAt w' m vv' sw' sr' x → RmTo w' m vv' sw' sr' y W) : RmTo w m vv sw sr y W := by
 obtain ⟨vv1, sw1, sr1, a1, a2, a3⟩ := h
 obtain ⟨vv2, sw2, sr2, b1, b2, b3⟩ := h2 _ _ _ a1
 have sz := a2.size
 refine ⟨vv2, sw2, sr2, b1, ⟨b2.os.trans a2.os, b2.tape.trans a2.tape, b2.output.trans a2.output, Nat.le_trans a2.size b2.size, fun k hk hn => ?_⟩, fun g hg => ?_⟩
 ·exact (b2.block k (Nat.lt_of_lt_of_le hk sz) (fun e => by rcases a3 k e with q | q; exact hn q; omega)).trans (a2.block k hk hn)
 ·rcases b3 g hg with q | q
  ·exact a3 g q
  ·right; omega
theorem RmTo.same (h : RmAt w' m vv sw sr x) (k : Keep (FootR m vv sw sr) w w') : RmTo w m vv sw sr x w' := ⟨vv, sw, sr, h, k, fun g hg => .inl hg⟩
/-- The world with a session's six cells written. -/
def sixW (w : World) (m s : Nat) (t : TxI) (a b : Value) : World :=
 (((((w.setCell ⟨m, 3 + s * 6, none⟩ (.int .i64 t.id)).setCell ⟨m, 3 + s * 6 + 1, none⟩ (.int .i64 t.level)).setCell ⟨m, 3 + s * 6 + 2, none⟩ (.int .i64 t.ops)).setCell ⟨m, 3 + s * 6 + 3, none⟩ (.int .u64 t.start)).setCell ⟨m, 3 + s * 6 + 4, none⟩ a).setCell ⟨m, 3 + s * 6 + 5, none⟩ b
theorem six_keep (w : World) (m s : Nat) (t : TxI) (a b : Value) : Keep (fun g => g = m) w (sixW w m s t a b) :=
 (((((((Keep.refl (fun g => g = m) w).setCell (p := ⟨m, 3 + s * 6, none⟩) rfl _).setCell (p := ⟨m, 3 + s * 6 + 1, none⟩) rfl _).setCell (p := ⟨m, 3 + s * 6 + 2, none⟩) rfl _).setCell (p := ⟨m, 3 + s * 6 + 3, none⟩) rfl _).setCell (p := ⟨m, 3 + s * 6 + 4, none⟩) rfl _).setCell (p := ⟨m, 3 + s * 6 + 5, none⟩) rfl _)
theorem RmAt.six (h : RmAt w m vv sw sr x) {s : Nat} (hs : s < 8) (t : TxI) (a b : Value) (ow : OwnN 0 w a t.wrote) (or' : OwnR w b t.reads) (am : a.ownBlock ≠ some m) (bm : b.ownBlock ≠ some m)
  (da : ∀ g, a.ownBlock = some g → (sw s).ownBlock = some g) (db : ∀ g, b.ownBlock = some g → (sr s).ownBlock = some g) (dab : ∀ g, a.ownBlock = some g → b.ownBlock ≠ some g) :
  RmAt (sixW w m s t a b) m vv (updV sw s a) (updV sr s b) { x with s := putS x.s s t } := by
 have k := six_keep w m s t a b
 refine h.ses hs k (fun g e => .inl e) (fun i u hi hu => ?_) (fun i => ?_) t a b ?_ ?_ ?_ ?_ ?_ ?_ (OwnN.keep ow k (fun g hg e => am (by rw [hg]; exact congrArg some e))) (or'.keep k (fun g hg e => bm (by rw [hg]; exact congrArg some e))) (fun g hg => .inl (da g hg)) (fun g hg => .inl (db g hg)) dab
 ·unfold sixW
  rw [World.cell?_setCell_other _ _ _ _ (by first | (simp; done) | (simp; omega)), World.cell?_setCell_other _ _ _ _ (by first | (simp; done) | (simp; omega)), World.cell?_setCell_other _ _ _ _ (by first | (simp; done) | (simp; omega)), World.cell?_setCell_other _ _ _ _ (by first | (simp; done) | (simp; omega)), World.cell?_setCell_other _ _ _ _ (by first | (simp; done) | (simp; omega)), World.cell?_setCell_other _ _ _ _ (by first | (simp; done) | (simp; omega))]
  exact hu
 ·unfold sixW
  simp only [World.frozen?_setCell]
  exact h.fz i
 ·unfold sixW
  rw [World.cell?_setCell_other _ _ _ _ (by first | (simp; done) | (simp; omega)), World.cell?_setCell_other _ _ _ _ (by first | (simp; done) | (simp; omega)), World.cell?_setCell_other _ _ _ _ (by first | (simp; done) | (simp; omega)), World.cell?_setCell_other _ _ _ _ (by first | (simp; done) | (simp; omega)), World.cell?_setCell_other _ _ _ _ (by first | (simp; done) | (simp; omega))]
  exact World.cell?_setCell_same _ _ _ (h.s0 s hs)
 ·unfold sixW
  rw [World.cell?_setCell_other _ _ _ _ (by first | (simp; done) | (simp; omega)), World.cell?_setCell_other _ _ _ _ (by first | (simp; done) | (simp; omega)), World.cell?_setCell_other _ _ _ _ (by first | (simp; done) | (simp; omega)), World.cell?_setCell_other _ _ _ _ (by first | (simp; done) | (simp; omega))]
  exact World.cell?_setCell_same _ _ _ (by rw [World.cell?_setCell_other _ _ _ _ (by first | (simp; done) | (simp; omega))]; exact h.s1 s hs)
 ·unfold sixW
  rw [World.cell?_setCell_other _ _ _ _ (by first | (simp; done) | (simp; omega)), World.cell?_setCell_other _ _ _ _ (by first | (simp; done) | (simp; omega)), World.cell?_setCell_other _ _ _ _ (by first | (simp; done) | (simp; omega))]
  exact World.cell?_setCell_same _ _ _ (by rw [World.cell?_setCell_other _ _ _ _ (by first | (simp; done) | (simp; omega)), World.cell?_setCell_other _ _ _ _ (by first | (simp; done) | (simp; omega))]; exact h.s2 s hs)
 ·unfold sixW
  rw [World.cell?_setCell_other _ _ _ _ (by first | (simp; done) | (simp; omega)), World.cell?_setCell_other _ _ _ _ (by first | (simp; done) | (simp; omega))]
  exact World.cell?_setCell_same _ _ _ (by rw [World.cell?_setCell_other _ _ _ _ (by first | (simp; done) | (simp; omega)), World.cell?_setCell_other _ _ _ _ (by first | (simp; done) | (simp; omega)), World.cell?_setCell_other _ _ _ _ (by first | (simp; done) | (simp; omega))]; exact h.s3 s hs)
 ·unfold sixW
  rw [World.cell?_setCell_other _ _ _ _ (by first | (simp; done) | (simp; omega))]
  exact World.cell?_setCell_same _ _ _ (by rw [World.cell?_setCell_other _ _ _ _ (by first | (simp; done) | (simp; omega)), World.cell?_setCell_other _ _ _ _ (by first | (simp; done) | (simp; omega)), World.cell?_setCell_other _ _ _ _ (by first | (simp; done) | (simp; omega)), World.cell?_setCell_other _ _ _ _ (by first | (simp; done) | (simp; omega))]; exact h.s4 s hs)
 ·unfold sixW
  exact World.cell?_setCell_same _ _ _ (by rw [World.cell?_setCell_other _ _ _ _ (by first | (simp; done) | (simp; omega)), World.cell?_setCell_other _ _ _ _ (by first | (simp; done) | (simp; omega)), World.cell?_setCell_other _ _ _ _ (by first | (simp; done) | (simp; omega)), World.cell?_setCell_other _ _ _ _ (by first | (simp; done) | (simp; omega)), World.cell?_setCell_other _ _ _ _ (by first | (simp; done) | (simp; omega))]; exact h.s5 s hs)
end
end Go.Proofs.Ytkkjofefjepodaa
/- The document's own Model, fifth part: over. Conditions: at most 1000 versions. -/
namespace Go.Proofs.Ytkkjofefjepodaa
open Go.ChangeShapes Go.WideShapes Go.ChangeAt Go.RowKit
set_option linter.unusedVariables false
set_option linter.unusedSimpArgs false

/-- The versions as far as over has come. -/
def goneTo (l : List VrI) (id' : Int) (k : Nat) : List VrI := (l.take k).map (goneV id') ++ l.drop k
theorem gone_len (l : List VrI) (id' : Int) (k : Nat) : (goneTo l id' k).length = l.length := by unfold goneTo; simp; omega
theorem gone_at {l : List VrI} {id' : Int} {k : Nat} {y : VrI} (h : l[k]? = some y) : (goneTo l id' k)[k]? = some y := by
 have lk := (List.getElem?_eq_some_iff.1 h).1
 unfold goneTo
 rw [List.getElem?_append_right (by simp; omega)]
 simp [Nat.min_eq_left (Nat.le_of_lt lk), h]
theorem gone_next {l : List VrI} {id' : Int} {k : Nat} {y : VrI} (h : l[k]? = some y) : (goneTo l id' k).set k (goneV id' y) = goneTo l id' (k + 1) := by
 obtain ⟨lk, e⟩ := List.getElem?_eq_some_iff.1 h
 unfold goneTo
 rw [List.set_append_right _ _ (by simp; omega)]
 simp only [List.length_map, List.length_take, Nat.min_eq_left (Nat.le_of_lt lk), Nat.sub_self]
 rw [List.take_add_one, h, List.drop_eq_getElem_cons lk, List.set_cons_zero]
 simp
theorem gone_all (l : List VrI) (id' : Int) : goneTo l id' l.length = l.map (goneV id') := by unfold goneTo; simp
section
variable {w w' W : World} {m : Nat} {vv vv' : Value} {sw sr sw' sr' : Nat → Value} {x y : MoI} {T : Nat → Prop}
theorem RmAt.at' {A : Option Addr} {n c : Nat} (h : RmAt w m (.slice A n c) sw sr x) (i : Nat) (y : VrI) (hy : x.v[i]? = some y) : ∃ g, A = some ⟨g, 0, none⟩ ∧ VAt7 w g i y := by
 obtain ⟨A0, c0, eA, _, hv⟩ := h.vers
 obtain ⟨g, eg, hg⟩ := hv i y hy
 cases eA
 exact ⟨g, eg, hg⟩
def ROv (w : World) (m : Nat) (vv : Value) (sw sr : Nat → Value) (x : MoI) (id' : Int) (k : Nat) (i : Value) (wr : World) : Prop := k ≤ x.v.length ∧ i = .int .i64 k ∧ RmAt wr m vv sw sr { x with v := goneTo x.v id' k } ∧ Keep (FootR m vv sw sr) w wr
set_option maxRecDepth 100000 in
set_option maxHeartbeats 2000000 in
theorem rover_any (h : RmAt w m vv sw sr x) (hl : x.v.length ≤ 100000) (s : Nat) (hs : s < 8) (e0 reason : Int) :
  Calls Try.prog 60 #[.pointer (some ⟨m, 0, none⟩), .int .i64 s, .int .i64 e0, .int .i64 reason] w fun e w' => e = .returned (reV ⟨e0, 0, [], 4, reason⟩ (.slice none 0 0)) ∧ RmTo w m vv sw sr (x.over s) w' := by
 obtain ⟨A, c, rfl, hc, hv⟩ := h.vers
 obtain ⟨n, en⟩ : ∃ n, x.v.length = n := ⟨_, rfl⟩
 have EN := Lib.hid en
 obtain ⟨W, eW, rb, kW⟩ := res_box w
 have fN : ¬ FootR m (.slice A x.v.length c) sw sr w.heap.size := fun q => by have := h.lt _ q; omega
 have hmw := h.mlt
 have h := h.same kW
 have hs2 : (s : Int) < 8 := by omega
 have s0 := h.s0 s hs
 obtain ⟨id', ei⟩ : ∃ id', (x.s s).id = id' := ⟨_, rfl⟩
 rw [ei] at s0
 have EI := Lib.hid ei
 rw [en] at hc hl h fN ⊢
 have RB := Lib.hid rb
 have EW := Lib.hid eW
 have H := Lib.hid h
 have hm := h.mlt
 obtain ⟨N, eN⟩ : ∃ N, w.heap.size = N := ⟨_, rfl⟩
 have ES := Lib.hid eN
 rw [eN] at RB fN hmw
 have FN := Lib.hid fN
 have hNW : N < W.heap.size := lt_of_cell (a := ⟨N, 0, none⟩) RB.out.r0
 have c2 := h.c2
 clear en hv ei rb h fN
 unfold reV
 go_enter Try.func60, Try.ntmps60
 go_wp2
 go_loopw [10] (fun i wr => ∃ k : Nat, ROv W m (.slice A n c) sw sr x id' k i wr) (fun i _ => n - (intOf i).toNat)
 case atStart => exact ⟨0, Nat.zero_le _, rfl, by simpa [goneTo] using H.out, Keep.refl _ _⟩
 case round =>
  obtain ⟨k, hk, rfl, hr, k1⟩ := hrel
  rw [EN.out] at hk
  have wk : IntKind.i64.wrap ((k : Int) + 1) = (k : Int) + 1 := IntWalk.i64_in _ (by omega)
  have HR := Lib.hid hr
  have c2 := hr.c2
  have gl := gone_len x.v id' k
  clear hr s0
  by_cases hlt : k < n
  ·obtain ⟨y, hy⟩ : ∃ y, x.v[k]? = some y := ⟨_, List.getElem?_eq_getElem (by rw [EN.out]; exact hlt)⟩
   have hg := gone_at (id' := id') hy
   obtain ⟨g, eg, a0, a1, a2, a3, a4, a5, a6⟩ := HR.out.at' k y hg
   subst eg
   obtain ⟨lg, eg⟩ := List.getElem?_eq_some_iff.1 hg
   have gn := gone_next (id' := id') hy
   have f3 := OwnM.free (HR.out.ov) (k * 7 + 3)
   have f6 := OwnM.free (HR.out.ov) (k * 7 + 6)
   have gm : g ≠ m := fun e => HR.out.vm (by rw [e]; rfl)
   have GG := Lib.hid (show FootR m (.slice (some ⟨g, 0, none⟩) n c) sw sr g from .inr (.inl rfl))
   have lk' : k < (goneTo x.v id' k).length := by rw [gl]; rw [EN.out]; exact hlt
   have gk : (goneTo x.v id' k)[k] = y := eg
   have NEXT := Lib.hid fun (wz : World) (hz : RmAt wz m (.slice (some ⟨g, 0, none⟩) n c) sw sr { x with v := (goneTo x.v id' k).set k (goneV id' y) }) (kz : Keep (fun j => j = g) wr wz) =>
    (show ROv W m (.slice (some ⟨g, 0, none⟩) n c) sw sr x id' (k + 1) (.int .i64 ((k : Int) + 1)) wz from ⟨by rw [EN.out]; omega, by simp, gn ▸ hz, k1.trans (kz.mono (fun j e => by rw [e]; exact GG.out))⟩)
   clear hg hy gl gn a0 a1 a4 a5
   obtain ⟨yk, yv, yb, ye, ya, yo, yd⟩ := y
   by_cases h1 : ye = id'
   ·have d1 : (ye == id') = true := by simpa using h1
    have P1 := HR.out.put k 3 lk' (by omega) (.int .i64 0) ⟨yk, yv, yb, 0, ya, yo, yd⟩ (by rw [gk]; rfl)
    have K1 := keep_one wr ⟨g, k * 7 + 3, none⟩ (.int .i64 0)
    by_cases h2 : yb = id'
    ·have d2 : (yb == id') = true := by simpa using h2
     have P2 := P1.put k 6 (by simpa using lk') (by omega) (.bool true) ⟨yk, yv, yb, 0, ya, yo, true⟩ (by simp [vrC])
     have K2 := keep_one (wr.setCell ⟨g, k * 7 + 3, none⟩ (.int .i64 0)) ⟨g, k * 7 + 6, none⟩ (.bool true)
     have F := Lib.hid (NEXT.out _ (by simpa [goneV, h1, h2] using P2) (K1.trans K2))
     clear h1 h2 P1 P2 K1 K2 gk lk'
     go_wp2
     exact ⟨⟨k + 1, F.out⟩, by simp [intOf]; omega⟩
    ·have d2 : (yb == id') = false := by simpa using h2
     have F := Lib.hid (NEXT.out _ (by simpa [goneV, h1, h2] using P1) K1)
     clear h1 h2 P1 K1 gk lk'
     go_wp2
     exact ⟨⟨k + 1, F.out⟩, by simp [intOf]; omega⟩
   ·have d1 : (ye == id') = false := by simpa using h1
    by_cases h2 : yb = id'
    ·have d2 : (yb == id') = true := by simpa using h2
     have P1 := HR.out.put k 6 lk' (by omega) (.bool true) ⟨yk, yv, yb, ye, ya, yo, true⟩ (by rw [gk]; rfl)
     have K1 := keep_one wr ⟨g, k * 7 + 6, none⟩ (.bool true)
     have F := Lib.hid (NEXT.out _ (by simpa [goneV, h1, h2] using P1) K1)
     clear h1 h2 P1 K1 gk lk'
     go_wp2
     exact ⟨⟨k + 1, F.out⟩, by simp [intOf]; omega⟩
    ·have d2 : (yb == id') = false := by simpa using h2
     have F := Lib.hid (NEXT.out wr (by
      have e : goneV id' ⟨yk, yv, yb, ye, ya, yo, yd⟩ = (goneTo x.v id' k)[k] := by rw [gk]; simp [goneV, h1, h2]
      rw [e, List.set_getElem_self]; exact HR.out) (Keep.refl _ _))
     clear h1 h2 gk lk'
     go_wp2
     exact ⟨⟨k + 1, F.out⟩, by simp [intOf]; omega⟩
  ·obtain rfl : k = n := by omega
   have ga : goneTo x.v id' k = x.v.map (goneV id') := by rw [← EN.out]; exact gone_all _ _
   have hr := HR.out
   rw [ga] at hr
   have P := hr.six hs tx0 (.slice none 0 0) (.slice none 0 0) (World.ownsRow_nil _ _ _ _) OwnM.nil (by simp [Value.ownBlock]) (by simp [Value.ownBlock]) (by simp [Value.ownBlock]) (by simp [Value.ownBlock]) (by simp [Value.ownBlock])
   have s0 := hr.s0 s hs
   have s1 := hr.s1 s hs
   have s2 := hr.s2 s hs
   have s3 := hr.s3 s hs
   have s4 := hr.s4 s hs
   have s5 := hr.s5 s hs
   have fz := hr.fz
   have rb := RB.out.keep k1 FN.out
   obtain ⟨q0, q1, q2, q3, q4, q5⟩ := rb
   have PP := Lib.hid P
   have FE := Lib.hid (show ∀ g, FootR m (.slice A k c) (updV sw s (.slice none 0 0)) (updV sr s (.slice none 0 0)) g → FootR m (.slice A k c) sw sr g from fun g hg => by
    rcases hg with q | q | ⟨i, hi, q⟩
    ·exact .inl q
    ·exact .inr (.inl q)
    ·by_cases e : i = s
     ·subst e; rw [updV_self, updV_self] at q; rcases q with q | q <;> cases q
     ·rw [updV_ne _ _ e, updV_ne _ _ e] at q; exact .inr (.inr ⟨i, hi, q⟩))
   have FT := Lib.hid (show ∀ g, FootR m (.slice A k c) (updV sw s (.slice none 0 0)) (updV sr s (.slice none 0 0)) g → ¬ g = N from fun g hg e => FN.out (e ▸ FE.out g hg))
   have KW : Keep (FootR m (.slice A k c) sw sr) w (sixW wr m s tx0 (.slice none 0 0) (.slice none 0 0)) := ((kW.mono (fun _ e => e.elim)).trans k1).trans ((six_keep wr m s tx0 (.slice none 0 0) (.slice none 0 0)).mono (fun g e => .inl e))
   have hNm : N ≠ m := by omega
   clear hr P ga k1 HR RB H EW
   have R6 := Lib.hid ((⟨q0, q1, q2, q3, q4, q5⟩ : ResAt wr N _ _ _ _ _).keep (six_keep wr m s tx0 (.slice none 0 0) (.slice none 0 0)) (by exact hNm))
   have fin : x.over s = { x with v := x.v.map (goneV id'), s := putS x.s s tx0 } := by unfold MoI.over; rw [EI.out]
   have FI := Lib.hid fin
   have KK := Lib.hid KW
   clear fin KW
   go_wp2_with fail
   obtain ⟨W7, eW⟩ : ∃ W7, ((((((sixW wr m s tx0 (.slice none 0 0) (.slice none 0 0)).setCell ⟨N, 0, none⟩ (.int .i64 e0)).setCell ⟨N, 1, none⟩ (.int .i64 0)).setCell ⟨N, 2, none⟩ (.slice none 0 0)).setCell ⟨N, 3, none⟩ (.int .i64 4)).setCell ⟨N, 4, none⟩ (.int .i64 reason)) = W7 := ⟨_, rfl⟩
   obtain ⟨⟨v0, v1, v2, v3, v4, _⟩, k7⟩ := res_set R6.out _ _ _ _ _ eW
   change bodyPost _ _ _ _ _ ((((((sixW wr m s tx0 (.slice none 0 0) (.slice none 0 0)).setCell ⟨N, 0, none⟩ (.int .i64 e0)).setCell ⟨N, 1, none⟩ (.int .i64 0)).setCell ⟨N, 2, none⟩ (.slice none 0 0)).setCell ⟨N, 3, none⟩ (.int .i64 4)).setCell ⟨N, 4, none⟩ (.int .i64 reason))
   rw [eW]
   refine bodyPost_ret (v := .agg #[.int .i64 e0, .int .i64 0, .slice none 0 0, .int .i64 4, .int .i64 reason]) (by simp [results, Try.results60, go_sem, v0, v1, v2, v3, v4]) rfl ⟨rfl, ?_⟩
   have P7 := PP.out.keep k7 FT.out
   rw [FI.out]
   exact ⟨_, _, _, P7, KK.out.onew k7 (fun j e => .inr (by cases e; exact Nat.le_of_eq ES.out)), fun g hg => .inl (FE.out g hg)⟩
end
end Go.Proofs.Ytkkjofefjepodaa
/- The document's own Model, sixth part: commit. Conditions: what a Model always keeps (Few). -/
namespace Go.Proofs.Ytkkjofefjepodaa
open Go.ChangeShapes Go.WideShapes Go.ChangeAt Go.RowKit
set_option linter.unusedVariables false
set_option linter.unusedSimpArgs false

/-- What a Model always keeps, as far as walks want it. -/
structure Few (x : MoI) : Prop where
 v : x.v.length ≤ 1000
 w : ∀ i, i < 8 → (x.s i).wrote.length ≤ 1000
 r : ∀ i, i < 8 → (x.s i).reads.length ≤ 1000 ∧ ∀ r ∈ (x.s i).reads, 0 ≤ r.lo ∧ r.lo ≤ 63 ∧ r.hi ≤ 63
 t : 0 ≤ x.time ∧ x.time ≤ x.limit ∧ x.limit ≤ 1099511627776
/-- The versions as far as a commit has come. -/
def doneTo (l : List VrI) (id' t : Int) (k : Nat) : List VrI := (l.take k).map (doneV id' t) ++ l.drop k
theorem done_len (l : List VrI) (id' t : Int) (k : Nat) : (doneTo l id' t k).length = l.length := by unfold doneTo; simp; omega
theorem done_at {l : List VrI} {id' t : Int} {k : Nat} {y : VrI} (h : l[k]? = some y) : (doneTo l id' t k)[k]? = some y := by
 have lk := (List.getElem?_eq_some_iff.1 h).1
 unfold doneTo
 rw [List.getElem?_append_right (by simp; omega)]
 simp [Nat.min_eq_left (Nat.le_of_lt lk), h]
theorem done_next {l : List VrI} {id' t : Int} {k : Nat} {y : VrI} (h : l[k]? = some y) : (doneTo l id' t k).set k (doneV id' t y) = doneTo l id' t (k + 1) := by
 obtain ⟨lk, e⟩ := List.getElem?_eq_some_iff.1 h
 unfold doneTo
 rw [List.set_append_right _ _ (by simp; omega)]
 simp only [List.length_map, List.length_take, Nat.min_eq_left (Nat.le_of_lt lk), Nat.sub_self]
 rw [List.take_add_one, h, List.drop_eq_getElem_cons lk, List.set_cons_zero]
 simp
theorem done_all (l : List VrI) (id' t : Int) : doneTo l id' t l.length = l.map (doneV id' t) := by unfold doneTo; simp
section
variable {w w' W : World} {m : Nat} {vv vv' : Value} {sw sr sw' sr' : Nat → Value} {x y : MoI} {T : Nat → Prop}
/-- What a call with a result answers and leaves. -/
def DidR (w : World) (m : Nat) (vv : Value) (sw sr : Nat → Value) (r : ReI) (y : MoI) (e : Ending) (w' : World) : Prop := e = .returned (reV r (.slice none 0 0)) ∧ RmTo w m vv sw sr y w'
theorem RmTo.front (h : RmTo w' m vv sw sr y W) (k : Keep (fun _ => False) w w') : RmTo w m vv sw sr y W := by
 obtain ⟨a, b, c, h1, h2, h3⟩ := h
 exact ⟨a, b, c, h1, (k.mono (fun _ e => e.elim)).trans h2, fun g hg => by
  rcases h3 g hg with q | q
  ·exact .inl q
  ·right; have := k.size; omega⟩
/-- Behind the writing of a result's box. -/
theorem RmTo.fin {w1 : World} (h : RmTo w1 m vv sw sr y w') (k0 : Keep (fun _ => False) w w1) {N : Nat} (hN1 : w.heap.size ≤ N) (hN2 : N < w1.heap.size) (fN : ¬ FootR m vv sw sr N) (k : Keep (fun j => j = N) w' W) : RmTo w m vv sw sr y W := by
 obtain ⟨a, b, c, h1, h2, h3⟩ := h
 refine ⟨a, b, c, h1.keep k (fun g hg e => ?_), (((k0.mono (fun _ e => e.elim)).trans h2)).onew k (fun j e => .inr (by rw [e]; exact hN1)), fun g hg => ?_⟩
 ·rcases h3 g hg with q | q
  ·exact fN (e ▸ q)
  ·omega
 ·rcases h3 g hg with q | q
  ·exact .inl q
  ·right; have := k0.size; omega
theorem RmTo.keeps (h : RmTo w m vv sw sr y w') : Keep (FootR m vv sw sr) w w' := by obtain ⟨_, _, _, _, h2, _⟩ := h; exact h2
set_option maxRecDepth 100000 in
set_option maxHeartbeats 2000000 in
theorem rcommit_late (h : RmAt w m vv sw sr x) (f : Few x) (s : Nat) (hs : s < 8) (hlate : x.limit ≤ x.time) :
  Calls Try.prog 61 #[.pointer (some ⟨m, 0, none⟩), .int .i64 s] w (DidR w m vv sw sr (MoI.bad 6) (x.over s)) := by
 obtain ⟨W, eW, rb, kW⟩ := res_box w
 have fN : ¬ FootR m vv sw sr w.heap.size := fun q => by have := h.lt _ q; omega
 have hmw := h.mlt
 have H := Lib.hid (h.same kW)
 have kd := (Keep.refl (fun _ => False) W).drew
 have ho := rover_any (H.out.same kd) (Nat.le_trans f.v (by omega)) s hs 14 6
 have c51 := H.out.c51
 have c1 := H.out.c1
 have d1 : decide (x.limit ≤ x.time) = true := decide_eq_true hlate
 have RB := Lib.hid (rb.keep kd id)
 have FN := Lib.hid fN
 have EW := True.intro
 obtain ⟨N, eN⟩ : ∃ N, w.heap.size = N := ⟨_, rfl⟩
 have ES := Lib.hid eN
 rw [eN] at RB FN hmw
 have hNW : N < W.heap.size := lt_of_cell (a := ⟨N, 0, none⟩) RB.out.r0
 clear h rb fN EW f
 unfold DidR
 go_enter Try.func61, Try.ntmps61
 go_wp2_with fail
 refine wp_region_held_drew (S := fun w' => w'.cell? ⟨m, 51, none⟩ = some (.int .u64 x.time) ∧ w'.cell? ⟨m, 1, none⟩ = some (.int .u64 x.limit)) (by kernel_rfl) ⟨c51, c1⟩ (fun hHeld => ?_)
 refine tk 0 (v := ?qvu195) ?qyu195 ?qru195; case qyu195 => ((intro w hSw; (try dsimp only at hSw); go_simp); try (with_reducible rfl))
 (try simp only [tA, tS, tZ, Act.put, uA, uS, uZ])
 refine tk 1 (v := ?qvu196) ?qyu196 ?qru196; case qyu196 => ((intro w hSw; (try dsimp only at hSw); go_simp); try (with_reducible rfl))
 (try simp only [tA, tS, tZ, Act.put, uA, uS, uZ])
 refine tk 2 (v := ?qvu197) ?qyu197 ?qru197; case qyu197 => ((intro w hSw; (try dsimp only at hSw); go_simp); try (with_reducible rfl))
 (try simp only [tA, tS, tZ, Act.put, uA, uS, uZ])
 refine tk 3 (v := ?qvu198) ?qyu198 ?qru198; case qyu198 => ((intro w hSw; (try dsimp only at hSw); go_simp); try (with_reducible rfl))
 (try simp only [tA, tS, tZ, Act.put, uA, uS, uZ])
 refine tk 4 (v := ?qvu199) ?qyu199 ?qru199; case qyu199 => ((intro w hSw; (try dsimp only at hSw); go_simp); try (with_reducible rfl))
 (try simp only [tA, tS, tZ, Act.put, uA, uS, uZ])
 refine tk 5 (v := ?qvu200) ?qyu200 ?qru200; case qyu200 => ((intro w hSw; (try dsimp only at hSw); go_simp); try (with_reducible rfl))
 (try simp only [tA, tS, tZ, Act.put, uA, uS, uZ])
 refine tk 6 (v := ?qvu201) ?qyu201 ?qru201; case qyu201 => ((intro w hSw; (try dsimp only at hSw); go_simp); try (with_reducible rfl))
 (try simp only [tA, tS, tZ, Act.put, uA, uS, uZ])
 refine tk 7 (v := ?qvu202) ?qyu202 ?qru202; case qyu202 => ((intro w hSw; (try dsimp only at hSw); go_simp); try (with_reducible rfl))
 (try simp only [tA, tS, tZ, Act.put, uA, uS, uZ])
 refine tk 8 (v := ?qvu203) ?qyu203 ?qru203; case qyu203 => ((intro w hSw; (try dsimp only at hSw); go_simp); try (with_reducible rfl))
 (try simp only [tA, tS, tZ, Act.put, uA, uS, uZ])
 refine tk 9 (v := ?qvu204) ?qyu204 ?qru204; case qyu204 => ((intro w hSw; (try dsimp only at hSw); go_simp); try (with_reducible rfl))
 (try simp only [tA, tS, tZ, Act.put, uA, uS, uZ])
 refine wpAnyH_done (by kernel_rfl) ?_ _
 go_wp2_with fail
 refine ho.mono ?_
 rintro e wa ⟨rfl, hto⟩
 have R6 := Lib.hid (RB.out.keep hto.keeps FN.out)
 obtain ⟨q0, q1, q2, q3, q4, q5⟩ := R6.out
 have TO := Lib.hid hto
 have KD := Lib.hid (kW.trans kd)
 unfold reV
 clear hto kW kd ho H RB
 go_wp2
 obtain ⟨W7, eW7⟩ : ∃ W7, (((((wa.setCell ⟨N, 0, none⟩ (.int .i64 14)).setCell ⟨N, 1, none⟩ (.int .i64 0)).setCell ⟨N, 2, none⟩ (.slice none 0 0)).setCell ⟨N, 3, none⟩ (.int .i64 4)).setCell ⟨N, 4, none⟩ (.int .i64 6)) = W7 := ⟨_, rfl⟩
 obtain ⟨⟨v0, v1, v2, v3, v4, _⟩, k7⟩ := res_set R6.out _ _ _ _ _ eW7
 rw [eW7]
 refine bodyPost_ret (v := .agg #[.int .i64 14, .int .i64 0, .slice none 0 0, .int .i64 4, .int .i64 6]) (by simp [results, Try.results61, go_sem, v0, v1, v2, v3, v4]) rfl ⟨rfl, ?_⟩
 exact TO.out.fin KD.out (Nat.le_of_eq ES.out) hNW FN.out k7
theorem RmTo.front2 (h : RmTo w' m vv' sw' sr' y W) (k : Keep (FootR m vv sw sr) w w') (hf : ∀ g, FootR m vv' sw' sr' g → FootR m vv sw sr g) : RmTo w m vv sw sr y W := by
 obtain ⟨a, b, c, h1, h2, h3⟩ := h
 exact ⟨a, b, c, h1, k.trans (h2.mono hf), fun g hg => by
  rcases h3 g hg with q | q
  ·exact .inl (hf g q)
  ·right; have := k.size; omega⟩
theorem own_n (w : World) (v : Value) (l : List Int) (o : OwnN 0 w v l) : ∃ A c, v = .slice A l.length c := by obtain ⟨A, c, e, _⟩ := OwnN.shapeN o; exact ⟨A, c, e⟩
theorem own_r (w : World) (v : Value) (l : List RdI) (o : OwnR w v l) : ∃ A c, v = .slice A l.length c := by
 rcases o.form with ⟨h1, h2⟩ | ⟨g, c, h1, _⟩
 ·exact ⟨none, 0, by rw [h1, h2]; rfl⟩
 ·exact ⟨_, c, h1⟩
set_option maxRecDepth 100000 in
set_option maxHeartbeats 4000000 in
theorem rcommit_bad (h : RmAt w m vv sw sr x) (f : Few x) (s : Nat) (hs : s < 8) (hin : ¬ x.limit ≤ x.time) (hlv : (x.s s).level ≠ 1) (hh : ({ x with time := x.time + 1 } : MoI).holds (x.s s) = false) :
  Calls Try.prog 61 #[.pointer (some ⟨m, 0, none⟩), .int .i64 s] w (DidR w m vv sw sr (MoI.bad 3) (({ x with time := x.time + 1 } : MoI).over s)) := by
 obtain ⟨W, eW, rb, kW⟩ := res_box w
 have fN : ¬ FootR m vv sw sr w.heap.size := fun q => by have := h.lt _ q; omega
 have hmw := h.mlt
 have H := Lib.hid (h.same kW)
 have kd := (Keep.refl (fun _ => False) W).drew
 have c51 := H.out.c51
 have c1 := H.out.c1
 have fz51 := H.out.fz 51
 have fz51d : W.drew.frozen? ⟨m, 51, none⟩ = false := fz51
 have c51d : W.drew.cell? ⟨m, 51, none⟩ = some (.int .u64 x.time) := c51
 have d1 : decide (x.limit ≤ x.time) = false := decide_eq_false (by omega)
 obtain ⟨ft0, ft1, ft2⟩ := f.t
 obtain ⟨tm, etm⟩ : ∃ tm, x.time + 1 = tm := ⟨_, rfl⟩
 have wt : IntKind.u64.wrap (x.time + 1) = tm := by rw [IntKind.wrap_u64, ← etm]; omega
 have H1 := (H.out.same kd).clock tm
 obtain ⟨Wt, eWt⟩ : ∃ Wt, W.drew.setCell ⟨m, 51, none⟩ (.int .u64 tm) = Wt := ⟨_, rfl⟩
 have kt := keep_one W.drew ⟨m, 51, none⟩ (.int .u64 tm)
 rw [eWt] at H1 kt
 obtain ⟨x1, ex1⟩ : ∃ x1, ({ x with time := tm } : MoI) = x1 := ⟨_, rfl⟩
 rw [ex1] at H1
 have f1v : x1.v = x.v := by rw [← ex1]
 have f1s : x1.s = x.s := by rw [← ex1]
 have f1t : x1.time = tm := by rw [← ex1]
 have H1h := Lib.hid H1
 have s0 := H1.s0 s hs
 have s1 := H1.s1 s hs
 have s2 := H1.s2 s hs
 have s3 := H1.s3 s hs
 have s4 := H1.s4 s hs
 have s5 := H1.s5 s hs
 obtain ⟨A4, c4, e4⟩ := own_n _ _ _ (H1.ow s hs)
 obtain ⟨A5, c5, e5⟩ := own_r _ _ _ (H1.or' s hs)
 rw [f1s] at s0 s1 s2 s3 e4 e5
 obtain ⟨W2, eW2, tb, k2⟩ := tx_box Wt (x.s s) (sw s) (sr s)
 have H2 := Lib.hid (H1.same k2)
 have OR5 := Lib.hid ((H1.or' s hs).keep k2 (by simp))
 have TB := Lib.hid tb
 obtain ⟨t, et⟩ : ∃ t, x.s s = t := ⟨_, rfl⟩
 rw [et] at s0 s1 s2 s3 e4 e5 eW2 TB
 have ET := Lib.hid et
 have E4 := Lib.hid e4
 have E5 := Lib.hid e5
 rw [e4] at s4 eW2 TB
 rw [e5] at s5 eW2 TB
 obtain ⟨n4, en4⟩ : ∃ n, t.wrote.length = n := ⟨_, rfl⟩
 obtain ⟨n5, en5⟩ : ∃ n, t.reads.length = n := ⟨_, rfl⟩
 have EN4 := Lib.hid en4
 have EN5 := Lib.hid en5
 rw [en4] at s4 eW2 TB
 rw [en5] at s5 eW2 TB
 have RB := Lib.hid ((rb.keep kd id).keep (kt.trans (k2.mono (fun _ e => e.elim))) (fun e => by have e : w.heap.size = m := e; omega))
 have FN := Lib.hid fN
 have KT : Keep (FootR m vv sw sr) W Wt := (kd.mono (fun _ e => e.elim)).trans (kt.mono (fun g e => .inl e))
 have KT := Lib.hid KT
 have f1s0 := Lib.hid f1s
 obtain ⟨N, eN⟩ : ∃ N, w.heap.size = N := ⟨_, rfl⟩
 have ES := Lib.hid eN
 rw [eN] at RB FN hmw
 have hNW : N < W.heap.size := by rw [← eW, World.size_alloc, eN]; exact Nat.lt_succ_self _
 have KW := Lib.hid kW
 have FV := Lib.hid f.v
 have FR := Lib.hid (f.r s hs)
 obtain ⟨M, eM⟩ : ∃ M, Wt.heap.size = M := ⟨_, rfl⟩
 have EM := Lib.hid eM
 rw [eM] at TB
 obtain ⟨b0, b1, b2, b3, b4, b5⟩ := TB.out
 have dlv : (t.level != 1) = true := by rw [← et]; simpa using hlv
 have HH : x1.holds t = false := by rw [← ex1, ← etm, ← et]; exact hh
 have fin : ({ x with time := x.time + 1 } : MoI) = x1 := by rw [etm]; exact ex1
 rw [fin]
 clear fin hh hlv
 clear h rb fN f H1 tb et e4 e5 en4 en5 kW etm ft0 ft1 ft2 f1s
 unfold DidR
 go_enter Try.func61, Try.ntmps61
 go_wp2_with fail
 refine wp_region_held_drew (S := fun w' => w'.cell? ⟨m, 51, none⟩ = some (.int .u64 x.time) ∧ w'.cell? ⟨m, 1, none⟩ = some (.int .u64 x.limit)) (by kernel_rfl) ⟨c51, c1⟩ (fun hHeld => ?_)
 refine tk 0 (v := ?qvu205) ?qyu205 ?qru205; case qyu205 => ((intro w hSw; (try dsimp only at hSw); go_simp); try (with_reducible rfl))
 (try simp only [tA, tS, tZ, Act.put, uA, uS, uZ])
 refine tk 1 (v := ?qvu206) ?qyu206 ?qru206; case qyu206 => ((intro w hSw; (try dsimp only at hSw); go_simp); try (with_reducible rfl))
 (try simp only [tA, tS, tZ, Act.put, uA, uS, uZ])
 refine tk 2 (v := ?qvu207) ?qyu207 ?qru207; case qyu207 => ((intro w hSw; (try dsimp only at hSw); go_simp); try (with_reducible rfl))
 (try simp only [tA, tS, tZ, Act.put, uA, uS, uZ])
 refine tk 3 (v := ?qvu208) ?qyu208 ?qru208; case qyu208 => ((intro w hSw; (try dsimp only at hSw); go_simp); try (with_reducible rfl))
 (try simp only [tA, tS, tZ, Act.put, uA, uS, uZ])
 refine tk 4 (v := ?qvu209) ?qyu209 ?qru209; case qyu209 => ((intro w hSw; (try dsimp only at hSw); go_simp); try (with_reducible rfl))
 (try simp only [tA, tS, tZ, Act.put, uA, uS, uZ])
 refine tk 5 (v := ?qvu210) ?qyu210 ?qru210; case qyu210 => ((intro w hSw; (try dsimp only at hSw); go_simp); try (with_reducible rfl))
 (try simp only [tA, tS, tZ, Act.put, uA, uS, uZ])
 refine tk 6 (v := ?qvu211) ?qyu211 ?qru211; case qyu211 => ((intro w hSw; (try dsimp only at hSw); go_simp); try (with_reducible rfl))
 (try simp only [tA, tS, tZ, Act.put, uA, uS, uZ])
 refine tk 7 (v := ?qvu212) ?qyu212 ?qru212; case qyu212 => ((intro w hSw; (try dsimp only at hSw); go_simp); try (with_reducible rfl))
 (try simp only [tA, tS, tZ, Act.put, uA, uS, uZ])
 refine tk 8 (v := ?qvu213) ?qyu213 ?qru213; case qyu213 => ((intro w hSw; (try dsimp only at hSw); go_simp); try (with_reducible rfl))
 (try simp only [tA, tS, tZ, Act.put, uA, uS, uZ])
 refine tk 9 (v := ?qvu214) ?qyu214 ?qru214; case qyu214 => ((intro w hSw; (try dsimp only at hSw); go_simp); try (with_reducible rfl))
 (try simp only [tA, tS, tZ, Act.put, uA, uS, uZ])
 refine wpAnyH_done (by kernel_rfl) ?_ _
 have hh := rholds_any H2.out (by rw [f1v]; exact Nat.le_trans FV.out (by omega)) (x.s s) (sw s) (sr s) (by rw [f1s0.out] at OR5; exact OR5.out) FR.out.2 FR.out.1
 rw [ET.out, HH, E4.out, E5.out, EN4.out, EN5.out] at hh
 unfold txV at hh
 have HO := Lib.hid (fun (wx : World) (k : Keep (fun _ => False) W2 wx) => rover_any (H2.out.same k) (by rw [f1v]; exact Nat.le_trans FV.out (by omega)) s hs 14 3)
 go_wp2_with fail
 refine hh.mono ?_
 rintro e w3 ⟨rfl, k3⟩
 go_wp2_with fail
 refine (HO.out w3 k3).mono ?_
 rintro e wa ⟨rfl, hto⟩
 have R6 := Lib.hid ((RB.out.keep k3 id).keep hto.keeps FN.out)
 obtain ⟨q0, q1, q2, q3, q4, q5⟩ := R6.out
 have TO := Lib.hid hto
 unfold reV
 clear hto hh HO
 go_wp2
 (obtain ⟨W7, eW7⟩ : ∃ W7, (((((wa.setCell ⟨N, 0, none⟩ (.int .i64 14)).setCell ⟨N, 1, none⟩ (.int .i64 0)).setCell ⟨N, 2, none⟩ (.slice none 0 0)).setCell ⟨N, 3, none⟩ (.int .i64 4)).setCell ⟨N, 4, none⟩ (.int .i64 3)) = W7 := ⟨_, rfl⟩; obtain ⟨⟨v0, v1, v2, v3, v4, _⟩, k7⟩ := res_set R6.out _ _ _ _ _ eW7; rw [eW7]; refine bodyPost_ret (v := .agg #[.int .i64 14, .int .i64 0, .slice none 0 0, .int .i64 4, .int .i64 3]) (by simp [results, Try.results61, go_sem, v0, v1, v2, v3, v4]) rfl ⟨rfl, ?_⟩)
 exact (TO.out.front2 (KT.out.trans ((k2.trans k3).mono (fun _ e => e.elim))) (fun g hg => hg)).fin KW.out (Nat.le_of_eq ES.out) hNW FN.out k7
def RDo (w : World) (m : Nat) (vv : Value) (sw sr : Nat → Value) (x : MoI) (id' t : Int) (k : Nat) (i : Value) (wr : World) : Prop := k ≤ x.v.length ∧ i = .int .i64 k ∧ RmAt wr m vv sw sr { x with v := doneTo x.v id' t k } ∧ Keep (FootR m vv sw sr) w wr
set_option maxRecDepth 100000 in
set_option maxHeartbeats 8000000 in
theorem rcommit_good (h : RmAt w m vv sw sr x) (f : Few x) (s : Nat) (hs : s < 8) (hin : ¬ x.limit ≤ x.time) (hok : (x.s s).level = 1 ∨ ({ x with time := x.time + 1 } : MoI).holds (x.s s) = true) :
  Calls Try.prog 61 #[.pointer (some ⟨m, 0, none⟩), .int .i64 s] w (DidR w m vv sw sr ⟨0, 0, [], 3, 0⟩ { x with time := x.time + 1, v := x.v.map (doneV (x.s s).id (x.time + 1)), s := putS x.s s tx0 }) := by
 obtain ⟨A, c, rfl, hc, hv⟩ := h.vers
 obtain ⟨n, en⟩ : ∃ n, x.v.length = n := ⟨_, rfl⟩
 have EN := Lib.hid en
 rw [en] at hc h ⊢
 clear hv en
 obtain ⟨W, eW, rb, kW⟩ := res_box w
 have fN : ¬ FootR m (.slice A n c) sw sr w.heap.size := fun q => by have := h.lt _ q; omega
 have hmw := h.mlt
 have H := Lib.hid (h.same kW)
 have kd := (Keep.refl (fun _ => False) W).drew
 have c51 := H.out.c51
 have c1 := H.out.c1
 have fz51 := H.out.fz 51
 have fz51d : W.drew.frozen? ⟨m, 51, none⟩ = false := fz51
 have c51d : W.drew.cell? ⟨m, 51, none⟩ = some (.int .u64 x.time) := c51
 have d1 : decide (x.limit ≤ x.time) = false := decide_eq_false (by omega)
 obtain ⟨ft0, ft1, ft2⟩ := f.t
 obtain ⟨tm, etm⟩ : ∃ tm, x.time + 1 = tm := ⟨_, rfl⟩
 have wt : IntKind.u64.wrap (x.time + 1) = tm := by rw [IntKind.wrap_u64, ← etm]; omega
 have H1 := (H.out.same kd).clock tm
 obtain ⟨Wt, eWt⟩ : ∃ Wt, W.drew.setCell ⟨m, 51, none⟩ (.int .u64 tm) = Wt := ⟨_, rfl⟩
 have kt := keep_one W.drew ⟨m, 51, none⟩ (.int .u64 tm)
 rw [eWt] at H1 kt
 obtain ⟨x1, ex1⟩ : ∃ x1, ({ x with time := tm } : MoI) = x1 := ⟨_, rfl⟩
 rw [ex1] at H1
 have f1v : x1.v = x.v := by rw [← ex1]
 have f1s : x1.s = x.s := by rw [← ex1]
 have f1t : x1.time = tm := by rw [← ex1]
 have H1h := Lib.hid H1
 have s0 := H1.s0 s hs
 have s1 := H1.s1 s hs
 have s2 := H1.s2 s hs
 have s3 := H1.s3 s hs
 have s4 := H1.s4 s hs
 have s5 := H1.s5 s hs
 obtain ⟨A4, c4, e4⟩ := own_n _ _ _ (H1.ow s hs)
 obtain ⟨A5, c5, e5⟩ := own_r _ _ _ (H1.or' s hs)
 rw [f1s] at s0 s1 s2 s3 e4 e5
 obtain ⟨W2, eW2, tb, k2⟩ := tx_box Wt (x.s s) (sw s) (sr s)
 have H2 := Lib.hid (H1.same k2)
 have OR5 := Lib.hid ((H1.or' s hs).keep k2 (by simp))
 have TB := Lib.hid tb
 obtain ⟨t, et⟩ : ∃ t, x.s s = t := ⟨_, rfl⟩
 rw [et] at s0 s1 s2 s3 e4 e5 eW2 TB
 have ET := Lib.hid et
 have E4 := Lib.hid e4
 have E5 := Lib.hid e5
 rw [e4] at s4 eW2 TB
 rw [e5] at s5 eW2 TB
 obtain ⟨n4, en4⟩ : ∃ n, t.wrote.length = n := ⟨_, rfl⟩
 obtain ⟨n5, en5⟩ : ∃ n, t.reads.length = n := ⟨_, rfl⟩
 have EN4 := Lib.hid en4
 have EN5 := Lib.hid en5
 rw [en4] at s4 eW2 TB
 rw [en5] at s5 eW2 TB
 have RB := Lib.hid ((rb.keep kd id).keep (kt.trans (k2.mono (fun _ e => e.elim))) (fun e => by have e : w.heap.size = m := e; omega))
 have FN := Lib.hid fN
 have KT : Keep (FootR m (.slice A n c) sw sr) W Wt := (kd.mono (fun _ e => e.elim)).trans (kt.mono (fun g e => .inl e))
 have KT := Lib.hid KT
 have f1s0 := Lib.hid f1s
 obtain ⟨N, eN⟩ : ∃ N, w.heap.size = N := ⟨_, rfl⟩
 have ES := Lib.hid eN
 rw [eN] at RB FN hmw
 have hNW : N < W.heap.size := by rw [← eW, World.size_alloc, eN]; exact Nat.lt_succ_self _
 have KW := Lib.hid kW
 have FV := Lib.hid f.v
 have FR := Lib.hid (f.r s hs)
 obtain ⟨M, eM⟩ : ∃ M, Wt.heap.size = M := ⟨_, rfl⟩
 have EM := Lib.hid eM
 rw [eM] at TB
 obtain ⟨b0, b1, b2, b3, b4, b5⟩ := TB.out
 have fin : ({ x with time := x.time + 1, v := x.v.map (doneV (x.s s).id (x.time + 1)), s := putS x.s s tx0 } : MoI) = { x1 with v := x1.v.map (doneV t.id tm), s := putS x1.s s tx0 } := by rw [etm, et, ← ex1]
 rw [fin]
 have hok : t.level = 1 ∨ x1.holds t = true := by rw [← et, ← ex1, ← etm]; exact hok
 have FM := Lib.hid (show ¬ FootR m (.slice A n c) sw sr M from fun q => by have := H1.lt _ q; omega)
 have K2 := Lib.hid (KT.out.trans (k2.mono (fun _ e => e.elim)))
 have nn : n ≤ 1000 := by rw [← EN.out]; exact f.v
 clear fin
 clear h rb fN f H1 tb et e4 e5 en4 en5 kW etm ft0 ft1 ft2 f1s
 unfold DidR
 go_enter Try.func61, Try.ntmps61
 go_wp2_with fail
 refine wp_region_held_drew (S := fun w' => w'.cell? ⟨m, 51, none⟩ = some (.int .u64 x.time) ∧ w'.cell? ⟨m, 1, none⟩ = some (.int .u64 x.limit)) (by kernel_rfl) ⟨c51, c1⟩ (fun hHeld => ?_)
 refine tk 0 (v := ?qvu215) ?qyu215 ?qru215; case qyu215 => ((intro w hSw; (try dsimp only at hSw); go_simp); try (with_reducible rfl))
 (try simp only [tA, tS, tZ, Act.put, uA, uS, uZ])
 refine tk 1 (v := ?qvu216) ?qyu216 ?qru216; case qyu216 => ((intro w hSw; (try dsimp only at hSw); go_simp); try (with_reducible rfl))
 (try simp only [tA, tS, tZ, Act.put, uA, uS, uZ])
 refine tk 2 (v := ?qvu217) ?qyu217 ?qru217; case qyu217 => ((intro w hSw; (try dsimp only at hSw); go_simp); try (with_reducible rfl))
 (try simp only [tA, tS, tZ, Act.put, uA, uS, uZ])
 refine tk 3 (v := ?qvu218) ?qyu218 ?qru218; case qyu218 => ((intro w hSw; (try dsimp only at hSw); go_simp); try (with_reducible rfl))
 (try simp only [tA, tS, tZ, Act.put, uA, uS, uZ])
 refine tk 4 (v := ?qvu219) ?qyu219 ?qru219; case qyu219 => ((intro w hSw; (try dsimp only at hSw); go_simp); try (with_reducible rfl))
 (try simp only [tA, tS, tZ, Act.put, uA, uS, uZ])
 refine tk 5 (v := ?qvu220) ?qyu220 ?qru220; case qyu220 => ((intro w hSw; (try dsimp only at hSw); go_simp); try (with_reducible rfl))
 (try simp only [tA, tS, tZ, Act.put, uA, uS, uZ])
 refine tk 6 (v := ?qvu221) ?qyu221 ?qru221; case qyu221 => ((intro w hSw; (try dsimp only at hSw); go_simp); try (with_reducible rfl))
 (try simp only [tA, tS, tZ, Act.put, uA, uS, uZ])
 refine tk 7 (v := ?qvu222) ?qyu222 ?qru222; case qyu222 => ((intro w hSw; (try dsimp only at hSw); go_simp); try (with_reducible rfl))
 (try simp only [tA, tS, tZ, Act.put, uA, uS, uZ])
 refine tk 8 (v := ?qvu223) ?qyu223 ?qru223; case qyu223 => ((intro w hSw; (try dsimp only at hSw); go_simp); try (with_reducible rfl))
 (try simp only [tA, tS, tZ, Act.put, uA, uS, uZ])
 refine tk 9 (v := ?qvu224) ?qyu224 ?qru224; case qyu224 => ((intro w hSw; (try dsimp only at hSw); go_simp); try (with_reducible rfl))
 (try simp only [tA, tS, tZ, Act.put, uA, uS, uZ])
 refine wpAnyH_done (by kernel_rfl) ?_ _
 by_cases hl1 : t.level = 1
 ·have dlv : (t.level != 1) = false := by simpa using hl1
  have HL := H2
  have KL := K2
  have RBL := RB
  have cidL := Lib.hid b0
  clear hok hl1
  go_wp2
  go_loopw [6, 7] (fun i _ wr => ∃ k : Nat, RDo W2 m (.slice A n c) sw sr x1 t.id tm k i wr) (fun i _ _ => n - (intOf i).toNat)
  case atStart => exact ⟨0, Nat.zero_le _, rfl, by simpa [doneTo] using HL.out, Keep.refl _ _⟩
  case round =>
   obtain ⟨k, hk, rfl, hr, kr⟩ := hrel
   rw [f1v, EN.out] at hk
   have wk : IntKind.i64.wrap ((k : Int) + 1) = (k : Int) + 1 := IntWalk.i64_in _ (by omega)
   have KX := KL.out.trans kr
   have HR0 := Lib.hid hr
   have HR := Lib.hid (hr.same (Keep.refl _ wr).drew)
   have c2 := hr.c2
   have gl := done_len x1.v t.id tm k
   have cid := kr.cell (cidL.out) FM.out
   clear hr
   by_cases hlt : k < n
   ·obtain ⟨y, hy⟩ : ∃ y, x1.v[k]? = some y := ⟨_, List.getElem?_eq_getElem (by rw [f1v, EN.out]; exact hlt)⟩
    have hg := done_at (id' := t.id) (t := tm) hy
    obtain ⟨g, eg, a0, a1, a2, a3, a4, a5, a6⟩ := HR0.out.at' k y hg
    subst eg
    obtain ⟨lg, eg⟩ := List.getElem?_eq_some_iff.1 hg
    have gn := done_next (id' := t.id) (t := tm) hy
    have gF : FootR m (.slice (some ⟨g, 0, none⟩) n c) sw sr g := .inr (.inl rfl)
    have gM : g ≠ M := fun e => FM.out (e ▸ gF)
    have GG := Lib.hid gF
    have lk' : k < (doneTo x1.v t.id tm k).length := by rw [gl, f1v, EN.out]; exact hlt
    have gk : (doneTo x1.v t.id tm k)[k] = y := eg
    have NEXT := Lib.hid fun (wz : World) (hz : RmAt wz m (.slice (some ⟨g, 0, none⟩) n c) sw sr { x1 with v := (doneTo x1.v t.id tm k).set k (doneV t.id tm y) }) (kz : Keep (fun j => j = g) wr wz) =>
     (show RDo W2 m (.slice (some ⟨g, 0, none⟩) n c) sw sr x1 t.id tm (k + 1) (.int .i64 ((k : Int) + 1)) wz from ⟨by rw [f1v, EN.out]; omega, by simp, gn ▸ hz, kr.trans (kz.mono (fun j e => by rw [e]; exact GG.out))⟩)
    obtain ⟨yk, yv, yb, ye, ya, yo, yd⟩ := y
    have KD1 : Keep (fun j => j = g) wr wr.drew := (Keep.refl _ _).drew
    clear hy gl gn gF
    by_cases h1 : yb = t.id
    ·have d1 : (yb == t.id) = true := by simpa using h1
     have P1 := HR0.out.put k 2 lk' (by omega) (.int .i64 0) ⟨yk, yv, 0, ye, ya, yo, yd⟩ (by rw [gk]; rfl)
     have P2 := P1.put k 4 (by simpa using lk') (by omega) (.int .u64 tm) ⟨yk, yv, 0, ye, tm, yo, yd⟩ (by simp [vrC])
     have KB := (keep_one wr ⟨g, k * 7 + 2, none⟩ (.int .i64 0)).trans (keep_one (wr.setCell ⟨g, k * 7 + 2, none⟩ (.int .i64 0)) ⟨g, k * 7 + 4, none⟩ (.int .u64 tm))
     obtain ⟨wb, eb⟩ : ∃ wb, (wr.setCell ⟨g, k * 7 + 2, none⟩ (.int .i64 0)).setCell ⟨g, k * 7 + 4, none⟩ (.int .u64 tm) = wb := ⟨_, rfl⟩
     have gf2 := OwnM.free (HR0.out.ov) (k * 7 + 2)
     have gf4 := OwnM.free (HR0.out.ov) (k * 7 + 4)
     have ct1 := HR0.out.c51
     rw [eb] at P2 KB
     go_wp2_with fail
     refine wp_region_held_drew (S := fun w' => w'.cell? ⟨g, k * 7 + 2, none⟩ = some (.int .i64 yb) ∧ w'.cell? ⟨M, 0, none⟩ = some (.int .i64 t.id)) (by kernel_rfl) ⟨a2, cid⟩ (fun hHeld => ?_)
     refine tk 0 (v := ?qvu225) ?qyu225 ?qru225; case qyu225 => ((intro w hSw; (try dsimp only at hSw); go_simp); try (with_reducible rfl))
     (try simp only [tA, tS, tZ, Act.put, uA, uS, uZ])
     refine tk 1 (v := ?qvu226) ?qyu226 ?qru226; case qyu226 => ((intro w hSw; (try dsimp only at hSw); go_simp); try (with_reducible rfl))
     (try simp only [tA, tS, tZ, Act.put, uA, uS, uZ])
     refine tk 2 (v := ?qvu227) ?qyu227 ?qru227; case qyu227 => ((intro w hSw; (try dsimp only at hSw); go_simp); try (with_reducible rfl))
     (try simp only [tA, tS, tZ, Act.put, uA, uS, uZ])
     refine tk 3 (v := ?qvu228) ?qyu228 ?qru228; case qyu228 => ((intro w hSw; (try dsimp only at hSw); go_simp); try (with_reducible rfl))
     (try simp only [tA, tS, tZ, Act.put, uA, uS, uZ])
     refine tk 4 (v := ?qvu229) ?qyu229 ?qru229; case qyu229 => ((intro w hSw; (try dsimp only at hSw); go_simp); try (with_reducible rfl))
     (try simp only [tA, tS, tZ, Act.put, uA, uS, uZ])
     refine tk 5 (v := ?qvu230) ?qyu230 ?qru230; case qyu230 => ((intro w hSw; (try dsimp only at hSw); go_simp); try (with_reducible rfl))
     (try simp only [tA, tS, tZ, Act.put, uA, uS, uZ])
     refine tk 6 (v := ?qvu231) ?qyu231 ?qru231; case qyu231 => ((intro w hSw; (try dsimp only at hSw); go_simp); try (with_reducible rfl))
     (try simp only [tA, tS, tZ, Act.put, uA, uS, uZ])
     refine wpAnyH_done (by kernel_rfl) ?_ _
     have cid : wb.cell? ⟨M, 0, none⟩ = some (.int .i64 t.id) := KB.cell cid (fun e => gM e.symm)
     have cidB : wb.cell? ⟨M, 0, none⟩ = some (.int .i64 t.id) := cid
     obtain ⟨g1, eg1, q0, q1, q2, q3, q4, q5, q6⟩ := P2.at' k ⟨yk, yv, 0, ye, tm, yo, yd⟩ (List.getElem?_set_self (by simpa using lk'))
     cases eg1
     have hf3 := OwnM.free (P2.ov) (k * 7 + 3)
     have hf5 := OwnM.free (P2.ov) (k * 7 + 5)
     have ct2 := P2.c51
     by_cases h2 : ye = t.id
     ·have d2 : (ye == t.id) = true := by simpa using h2
      have P3 := P2.put k 3 (by simpa using lk') (by omega) (.int .i64 0) ⟨yk, yv, 0, 0, tm, yo, yd⟩ (by simp [vrC])
      have P4 := P3.put k 5 (by simpa using lk') (by omega) (.int .u64 tm) ⟨yk, yv, 0, 0, tm, tm, yd⟩ (by simp [vrC])
      have K4 := (keep_one wb ⟨g, k * 7 + 3, none⟩ (.int .i64 0)).trans (keep_one (wb.setCell ⟨g, k * 7 + 3, none⟩ (.int .i64 0)) ⟨g, k * 7 + 5, none⟩ (.int .u64 tm))
      obtain ⟨wc, ec⟩ : ∃ wc, (wb.setCell ⟨g, k * 7 + 3, none⟩ (.int .i64 0)).setCell ⟨g, k * 7 + 5, none⟩ (.int .u64 tm) = wc := ⟨_, rfl⟩
      rw [ec] at P4 K4
      have F := Lib.hid (fun (wz : World) (kz : Keep (fun _ => False) wc wz) => NEXT.out wz (RmAt.same (by simpa [doneV, h1, h2] using P4) kz) ((KB.trans K4).trans (kz.mono (fun _ e => e.elim))))
      clear h1 h2 P3 P4 K4 gk lk'
      go_wp2_with fail
      refine wp_region_held_drew (S := fun w' => w'.cell? ⟨g, k * 7 + 3, none⟩ = some (.int .i64 ye) ∧ w'.cell? ⟨M, 0, none⟩ = some (.int .i64 t.id)) (by kernel_rfl) ⟨q3, cidB⟩ (fun hHeld => ?_)
      refine tk 0 (v := ?qvu232) ?qyu232 ?qru232; case qyu232 => ((intro w hSw; (try dsimp only at hSw); go_simp); try (with_reducible rfl))
      (try simp only [tA, tS, tZ, Act.put, uA, uS, uZ])
      refine tk 1 (v := ?qvu233) ?qyu233 ?qru233; case qyu233 => ((intro w hSw; (try dsimp only at hSw); go_simp); try (with_reducible rfl))
      (try simp only [tA, tS, tZ, Act.put, uA, uS, uZ])
      refine tk 2 (v := ?qvu234) ?qyu234 ?qru234; case qyu234 => ((intro w hSw; (try dsimp only at hSw); go_simp); try (with_reducible rfl))
      (try simp only [tA, tS, tZ, Act.put, uA, uS, uZ])
      refine tk 3 (v := ?qvu235) ?qyu235 ?qru235; case qyu235 => ((intro w hSw; (try dsimp only at hSw); go_simp); try (with_reducible rfl))
      (try simp only [tA, tS, tZ, Act.put, uA, uS, uZ])
      refine tk 4 (v := ?qvu236) ?qyu236 ?qru236; case qyu236 => ((intro w hSw; (try dsimp only at hSw); go_simp); try (with_reducible rfl))
      (try simp only [tA, tS, tZ, Act.put, uA, uS, uZ])
      refine tk 5 (v := ?qvu237) ?qyu237 ?qru237; case qyu237 => ((intro w hSw; (try dsimp only at hSw); go_simp); try (with_reducible rfl))
      (try simp only [tA, tS, tZ, Act.put, uA, uS, uZ])
      refine tk 6 (v := ?qvu238) ?qyu238 ?qru238; case qyu238 => ((intro w hSw; (try dsimp only at hSw); go_simp); try (with_reducible rfl))
      (try simp only [tA, tS, tZ, Act.put, uA, uS, uZ])
      refine wpAnyH_done (by kernel_rfl) ?_ _
      go_wp2
      exact ⟨⟨k + 1, F.out _ (((Keep.refl _ _).drew).drew)⟩, by simp [intOf]; omega⟩
     ·have d2 : (ye == t.id) = false := by simpa using h2
      have F := Lib.hid (fun (wz : World) (kz : Keep (fun _ => False) wb wz) => NEXT.out wz (RmAt.same (by simpa [doneV, h1, h2] using P2) kz) (KB.trans (kz.mono (fun _ e => e.elim))))
      clear h1 h2 gk lk'
      go_wp2_with fail
      refine wp_region_held_drew (S := fun w' => w'.cell? ⟨g, k * 7 + 3, none⟩ = some (.int .i64 ye) ∧ w'.cell? ⟨M, 0, none⟩ = some (.int .i64 t.id)) (by kernel_rfl) ⟨q3, cidB⟩ (fun hHeld => ?_)
      refine tk 0 (v := ?qvu239) ?qyu239 ?qru239; case qyu239 => ((intro w hSw; (try dsimp only at hSw); go_simp); try (with_reducible rfl))
      (try simp only [tA, tS, tZ, Act.put, uA, uS, uZ])
      refine tk 1 (v := ?qvu240) ?qyu240 ?qru240; case qyu240 => ((intro w hSw; (try dsimp only at hSw); go_simp); try (with_reducible rfl))
      (try simp only [tA, tS, tZ, Act.put, uA, uS, uZ])
      refine tk 2 (v := ?qvu241) ?qyu241 ?qru241; case qyu241 => ((intro w hSw; (try dsimp only at hSw); go_simp); try (with_reducible rfl))
      (try simp only [tA, tS, tZ, Act.put, uA, uS, uZ])
      refine tk 3 (v := ?qvu242) ?qyu242 ?qru242; case qyu242 => ((intro w hSw; (try dsimp only at hSw); go_simp); try (with_reducible rfl))
      (try simp only [tA, tS, tZ, Act.put, uA, uS, uZ])
      refine tk 4 (v := ?qvu243) ?qyu243 ?qru243; case qyu243 => ((intro w hSw; (try dsimp only at hSw); go_simp); try (with_reducible rfl))
      (try simp only [tA, tS, tZ, Act.put, uA, uS, uZ])
      refine tk 5 (v := ?qvu244) ?qyu244 ?qru244; case qyu244 => ((intro w hSw; (try dsimp only at hSw); go_simp); try (with_reducible rfl))
      (try simp only [tA, tS, tZ, Act.put, uA, uS, uZ])
      refine tk 6 (v := ?qvu245) ?qyu245 ?qru245; case qyu245 => ((intro w hSw; (try dsimp only at hSw); go_simp); try (with_reducible rfl))
      (try simp only [tA, tS, tZ, Act.put, uA, uS, uZ])
      refine wpAnyH_done (by kernel_rfl) ?_ _
      go_wp2
      exact ⟨⟨k + 1, F.out _ (((Keep.refl _ _).drew).drew)⟩, by simp [intOf]; omega⟩
    ·have d1 : (yb == t.id) = false := by simpa using h1
     have KB : Keep (fun j => j = g) wr wr := Keep.refl _ _
     have cidB := cid
     go_wp2_with fail
     refine wp_region_held_drew (S := fun w' => w'.cell? ⟨g, k * 7 + 2, none⟩ = some (.int .i64 yb) ∧ w'.cell? ⟨M, 0, none⟩ = some (.int .i64 t.id)) (by kernel_rfl) ⟨a2, cid⟩ (fun hHeld => ?_)
     refine tk 0 (v := ?qvu246) ?qyu246 ?qru246; case qyu246 => ((intro w hSw; (try dsimp only at hSw); go_simp); try (with_reducible rfl))
     (try simp only [tA, tS, tZ, Act.put, uA, uS, uZ])
     refine tk 1 (v := ?qvu247) ?qyu247 ?qru247; case qyu247 => ((intro w hSw; (try dsimp only at hSw); go_simp); try (with_reducible rfl))
     (try simp only [tA, tS, tZ, Act.put, uA, uS, uZ])
     refine tk 2 (v := ?qvu248) ?qyu248 ?qru248; case qyu248 => ((intro w hSw; (try dsimp only at hSw); go_simp); try (with_reducible rfl))
     (try simp only [tA, tS, tZ, Act.put, uA, uS, uZ])
     refine tk 3 (v := ?qvu249) ?qyu249 ?qru249; case qyu249 => ((intro w hSw; (try dsimp only at hSw); go_simp); try (with_reducible rfl))
     (try simp only [tA, tS, tZ, Act.put, uA, uS, uZ])
     refine tk 4 (v := ?qvu250) ?qyu250 ?qru250; case qyu250 => ((intro w hSw; (try dsimp only at hSw); go_simp); try (with_reducible rfl))
     (try simp only [tA, tS, tZ, Act.put, uA, uS, uZ])
     refine tk 5 (v := ?qvu251) ?qyu251 ?qru251; case qyu251 => ((intro w hSw; (try dsimp only at hSw); go_simp); try (with_reducible rfl))
     (try simp only [tA, tS, tZ, Act.put, uA, uS, uZ])
     refine tk 6 (v := ?qvu252) ?qyu252 ?qru252; case qyu252 => ((intro w hSw; (try dsimp only at hSw); go_simp); try (with_reducible rfl))
     (try simp only [tA, tS, tZ, Act.put, uA, uS, uZ])
     refine wpAnyH_done (by kernel_rfl) ?_ _
     obtain ⟨g1, eg1, q0, q1, q2, q3, q4, q5, q6⟩ := HR0.out.at' k ⟨yk, yv, yb, ye, ya, yo, yd⟩ (by rw [List.getElem?_eq_getElem lk', gk])
     cases eg1
     have hf3 := OwnM.free (HR0.out.ov) (k * 7 + 3)
     have hf5 := OwnM.free (HR0.out.ov) (k * 7 + 5)
     have ct2 := HR0.out.c51
     by_cases h2 : ye = t.id
     ·have d2 : (ye == t.id) = true := by simpa using h2
      have P3 := HR0.out.put k 3 lk' (by omega) (.int .i64 0) ⟨yk, yv, yb, 0, ya, yo, yd⟩ (by rw [gk]; rfl)
      have P4 := P3.put k 5 (by simpa using lk') (by omega) (.int .u64 tm) ⟨yk, yv, yb, 0, ya, tm, yd⟩ (by simp [vrC])
      have K4 := (keep_one wr ⟨g, k * 7 + 3, none⟩ (.int .i64 0)).trans (keep_one (wr.setCell ⟨g, k * 7 + 3, none⟩ (.int .i64 0)) ⟨g, k * 7 + 5, none⟩ (.int .u64 tm))
      obtain ⟨wc, ec⟩ : ∃ wc, (wr.setCell ⟨g, k * 7 + 3, none⟩ (.int .i64 0)).setCell ⟨g, k * 7 + 5, none⟩ (.int .u64 tm) = wc := ⟨_, rfl⟩
      rw [ec] at P4 K4
      have F := Lib.hid (fun (wz : World) (kz : Keep (fun _ => False) wc wz) => NEXT.out wz (RmAt.same (by simpa [doneV, h1, h2] using P4) kz) ((KB.trans K4).trans (kz.mono (fun _ e => e.elim))))
      clear h1 h2 P3 P4 K4 gk lk'
      go_wp2_with fail
      refine wp_region_held_drew (S := fun w' => w'.cell? ⟨g, k * 7 + 3, none⟩ = some (.int .i64 ye) ∧ w'.cell? ⟨M, 0, none⟩ = some (.int .i64 t.id)) (by kernel_rfl) ⟨q3, cidB⟩ (fun hHeld => ?_)
      refine tk 0 (v := ?qvu253) ?qyu253 ?qru253; case qyu253 => ((intro w hSw; (try dsimp only at hSw); go_simp); try (with_reducible rfl))
      (try simp only [tA, tS, tZ, Act.put, uA, uS, uZ])
      refine tk 1 (v := ?qvu254) ?qyu254 ?qru254; case qyu254 => ((intro w hSw; (try dsimp only at hSw); go_simp); try (with_reducible rfl))
      (try simp only [tA, tS, tZ, Act.put, uA, uS, uZ])
      refine tk 2 (v := ?qvu255) ?qyu255 ?qru255; case qyu255 => ((intro w hSw; (try dsimp only at hSw); go_simp); try (with_reducible rfl))
      (try simp only [tA, tS, tZ, Act.put, uA, uS, uZ])
      refine tk 3 (v := ?qvu256) ?qyu256 ?qru256; case qyu256 => ((intro w hSw; (try dsimp only at hSw); go_simp); try (with_reducible rfl))
      (try simp only [tA, tS, tZ, Act.put, uA, uS, uZ])
      refine tk 4 (v := ?qvu257) ?qyu257 ?qru257; case qyu257 => ((intro w hSw; (try dsimp only at hSw); go_simp); try (with_reducible rfl))
      (try simp only [tA, tS, tZ, Act.put, uA, uS, uZ])
      refine tk 5 (v := ?qvu258) ?qyu258 ?qru258; case qyu258 => ((intro w hSw; (try dsimp only at hSw); go_simp); try (with_reducible rfl))
      (try simp only [tA, tS, tZ, Act.put, uA, uS, uZ])
      refine tk 6 (v := ?qvu259) ?qyu259 ?qru259; case qyu259 => ((intro w hSw; (try dsimp only at hSw); go_simp); try (with_reducible rfl))
      (try simp only [tA, tS, tZ, Act.put, uA, uS, uZ])
      refine wpAnyH_done (by kernel_rfl) ?_ _
      go_wp2
      exact ⟨⟨k + 1, F.out _ (((Keep.refl _ _).drew).drew)⟩, by simp [intOf]; omega⟩
     ·have d2 : (ye == t.id) = false := by simpa using h2
      have F := Lib.hid (fun (wz : World) (kz : Keep (fun _ => False) wr wz) => NEXT.out wz (RmAt.same (by have e : doneV t.id tm ⟨yk, yv, yb, ye, ya, yo, yd⟩ = (doneTo x1.v t.id tm k)[k] := (by rw [gk]; simp [doneV, h1, h2]); rw [e, List.set_getElem_self]; exact HR0.out) kz) (KB.trans (kz.mono (fun _ e => e.elim))))
      clear h1 h2 gk lk'
      go_wp2_with fail
      refine wp_region_held_drew (S := fun w' => w'.cell? ⟨g, k * 7 + 3, none⟩ = some (.int .i64 ye) ∧ w'.cell? ⟨M, 0, none⟩ = some (.int .i64 t.id)) (by kernel_rfl) ⟨q3, cidB⟩ (fun hHeld => ?_)
      refine tk 0 (v := ?qvu260) ?qyu260 ?qru260; case qyu260 => ((intro w hSw; (try dsimp only at hSw); go_simp); try (with_reducible rfl))
      (try simp only [tA, tS, tZ, Act.put, uA, uS, uZ])
      refine tk 1 (v := ?qvu261) ?qyu261 ?qru261; case qyu261 => ((intro w hSw; (try dsimp only at hSw); go_simp); try (with_reducible rfl))
      (try simp only [tA, tS, tZ, Act.put, uA, uS, uZ])
      refine tk 2 (v := ?qvu262) ?qyu262 ?qru262; case qyu262 => ((intro w hSw; (try dsimp only at hSw); go_simp); try (with_reducible rfl))
      (try simp only [tA, tS, tZ, Act.put, uA, uS, uZ])
      refine tk 3 (v := ?qvu263) ?qyu263 ?qru263; case qyu263 => ((intro w hSw; (try dsimp only at hSw); go_simp); try (with_reducible rfl))
      (try simp only [tA, tS, tZ, Act.put, uA, uS, uZ])
      refine tk 4 (v := ?qvu264) ?qyu264 ?qru264; case qyu264 => ((intro w hSw; (try dsimp only at hSw); go_simp); try (with_reducible rfl))
      (try simp only [tA, tS, tZ, Act.put, uA, uS, uZ])
      refine tk 5 (v := ?qvu265) ?qyu265 ?qru265; case qyu265 => ((intro w hSw; (try dsimp only at hSw); go_simp); try (with_reducible rfl))
      (try simp only [tA, tS, tZ, Act.put, uA, uS, uZ])
      refine tk 6 (v := ?qvu266) ?qyu266 ?qru266; case qyu266 => ((intro w hSw; (try dsimp only at hSw); go_simp); try (with_reducible rfl))
      (try simp only [tA, tS, tZ, Act.put, uA, uS, uZ])
      refine wpAnyH_done (by kernel_rfl) ?_ _
      go_wp2
      exact ⟨⟨k + 1, F.out _ (((Keep.refl _ _).drew).drew)⟩, by simp [intOf]; omega⟩
   ·obtain rfl : k = n := by omega
    have ga : doneTo x1.v t.id tm k = x1.v.map (doneV t.id tm) := by rw [← EN.out, ← f1v]; exact done_all _ _ _
    have hr := HR0.out
    rw [ga] at hr
    have P := hr.six hs tx0 (.slice none 0 0) (.slice none 0 0) (World.ownsRow_nil _ _ _ _) OwnM.nil (by simp [Value.ownBlock]) (by simp [Value.ownBlock]) (by simp [Value.ownBlock]) (by simp [Value.ownBlock]) (by simp [Value.ownBlock])
    have s0 := hr.s0 s hs
    have s1 := hr.s1 s hs
    have s2 := hr.s2 s hs
    have s3 := hr.s3 s hs
    have s4 := hr.s4 s hs
    have s5 := hr.s5 s hs
    have fz := hr.fz
    have rb := RBL.out.keep kr FN.out
    have R6 := Lib.hid (rb.keep (six_keep wr m s tx0 (.slice none 0 0) (.slice none 0 0)) (by omega))
    obtain ⟨q0, q1, q2, q3, q4, q5⟩ := rb
    have FE := Lib.hid (show ∀ g, FootR m (.slice A k c) (updV sw s (.slice none 0 0)) (updV sr s (.slice none 0 0)) g → FootR m (.slice A k c) sw sr g from fun g hg => by
     rcases hg with q | q | ⟨i, hi, q⟩
     ·exact .inl q
     ·exact .inr (.inl q)
     ·by_cases e : i = s
      ·subst e; rw [updV_self, updV_self] at q; rcases q with q | q <;> cases q
      ·rw [updV_ne _ _ e, updV_ne _ _ e] at q; exact .inr (.inr ⟨i, hi, q⟩))
    have KK := Lib.hid (show Keep (FootR m (.slice A k c) sw sr) w (sixW wr m s tx0 (.slice none 0 0) (.slice none 0 0)) from (KW.out.mono (fun _ e => e.elim)).trans (KX.trans ((six_keep wr m s tx0 (.slice none 0 0) (.slice none 0 0)).mono (fun g e => .inl e))))
    have hNm : N ≠ m := by omega
    have PP := Lib.hid P
    clear hr P ga HR HR0 KX kr
    go_wp2_with fail
    obtain ⟨W7, eW7⟩ : ∃ W7, ((((((sixW wr m s tx0 (.slice none 0 0) (.slice none 0 0)).setCell ⟨N, 0, none⟩ (.int .i64 0)).setCell ⟨N, 1, none⟩ (.int .i64 0)).setCell ⟨N, 2, none⟩ (.slice none 0 0)).setCell ⟨N, 3, none⟩ (.int .i64 3)).setCell ⟨N, 4, none⟩ (.int .i64 0)) = W7 := ⟨_, rfl⟩
    obtain ⟨⟨v0, v1, v2, v3, v4, _⟩, k7⟩ := res_set R6.out _ _ _ _ _ eW7
    change bodyPost _ _ _ _ _ ((((((sixW wr m s tx0 (.slice none 0 0) (.slice none 0 0)).setCell ⟨N, 0, none⟩ (.int .i64 0)).setCell ⟨N, 1, none⟩ (.int .i64 0)).setCell ⟨N, 2, none⟩ (.slice none 0 0)).setCell ⟨N, 3, none⟩ (.int .i64 3)).setCell ⟨N, 4, none⟩ (.int .i64 0))
    rw [eW7]
    refine bodyPost_ret (v := .agg #[.int .i64 0, .int .i64 0, .slice none 0 0, .int .i64 3, .int .i64 0]) (by simp [results, Try.results61, go_sem, v0, v1, v2, v3, v4]) rfl ⟨rfl, ?_⟩
    have PQ := PP.out.keep k7 (fun g hg e => FN.out (e ▸ FE.out g hg))
    rw [f1v, f1t] at PQ
    exact ⟨_, _, _, PQ, KK.out.onew k7 (fun j e => .inr (by cases e; exact Nat.le_of_eq ES.out)), fun g hg => .inl (FE.out g hg)⟩
 ·have dlv : (t.level != 1) = true := by simpa using hl1
  have HH : x1.holds t = true := hok.resolve_left hl1
  have hh := rholds_any H2.out (by rw [f1v]; exact Nat.le_trans FV.out (by omega)) (x.s s) (sw s) (sr s) (by rw [f1s0.out] at OR5; exact OR5.out) FR.out.2 FR.out.1
  rw [ET.out, HH, E4.out, E5.out, EN4.out, EN5.out] at hh
  unfold txV at hh
  clear hok hl1
  go_wp2_with fail
  refine hh.mono ?_
  rintro e w3 ⟨rfl, k3⟩
  have HL := Lib.hid (H2.out.same k3)
  have KL := Lib.hid (K2.out.trans (k3.mono (fun _ e => e.elim)))
  have RBL := Lib.hid (RB.out.keep k3 id)
  have cidL := Lib.hid (k3.cell b0 id)
  clear hh k3
  go_wp2
  go_loopw [6, 7] (fun i _ wr => ∃ k : Nat, RDo w3 m (.slice A n c) sw sr x1 t.id tm k i wr) (fun i _ _ => n - (intOf i).toNat)
  case atStart => exact ⟨0, Nat.zero_le _, rfl, by simpa [doneTo] using HL.out, Keep.refl _ _⟩
  case round =>
   obtain ⟨k, hk, rfl, hr, kr⟩ := hrel
   rw [f1v, EN.out] at hk
   have wk : IntKind.i64.wrap ((k : Int) + 1) = (k : Int) + 1 := IntWalk.i64_in _ (by omega)
   have KX := KL.out.trans kr
   have HR0 := Lib.hid hr
   have HR := Lib.hid (hr.same (Keep.refl _ wr).drew)
   have c2 := hr.c2
   have gl := done_len x1.v t.id tm k
   have cid := kr.cell (cidL.out) FM.out
   clear hr
   by_cases hlt : k < n
   ·obtain ⟨y, hy⟩ : ∃ y, x1.v[k]? = some y := ⟨_, List.getElem?_eq_getElem (by rw [f1v, EN.out]; exact hlt)⟩
    have hg := done_at (id' := t.id) (t := tm) hy
    obtain ⟨g, eg, a0, a1, a2, a3, a4, a5, a6⟩ := HR0.out.at' k y hg
    subst eg
    obtain ⟨lg, eg⟩ := List.getElem?_eq_some_iff.1 hg
    have gn := done_next (id' := t.id) (t := tm) hy
    have gF : FootR m (.slice (some ⟨g, 0, none⟩) n c) sw sr g := .inr (.inl rfl)
    have gM : g ≠ M := fun e => FM.out (e ▸ gF)
    have GG := Lib.hid gF
    have lk' : k < (doneTo x1.v t.id tm k).length := by rw [gl, f1v, EN.out]; exact hlt
    have gk : (doneTo x1.v t.id tm k)[k] = y := eg
    have NEXT := Lib.hid fun (wz : World) (hz : RmAt wz m (.slice (some ⟨g, 0, none⟩) n c) sw sr { x1 with v := (doneTo x1.v t.id tm k).set k (doneV t.id tm y) }) (kz : Keep (fun j => j = g) wr wz) =>
     (show RDo w3 m (.slice (some ⟨g, 0, none⟩) n c) sw sr x1 t.id tm (k + 1) (.int .i64 ((k : Int) + 1)) wz from ⟨by rw [f1v, EN.out]; omega, by simp, gn ▸ hz, kr.trans (kz.mono (fun j e => by rw [e]; exact GG.out))⟩)
    obtain ⟨yk, yv, yb, ye, ya, yo, yd⟩ := y
    have KD1 : Keep (fun j => j = g) wr wr.drew := (Keep.refl _ _).drew
    clear hy gl gn gF
    by_cases h1 : yb = t.id
    ·have d1 : (yb == t.id) = true := by simpa using h1
     have P1 := HR0.out.put k 2 lk' (by omega) (.int .i64 0) ⟨yk, yv, 0, ye, ya, yo, yd⟩ (by rw [gk]; rfl)
     have P2 := P1.put k 4 (by simpa using lk') (by omega) (.int .u64 tm) ⟨yk, yv, 0, ye, tm, yo, yd⟩ (by simp [vrC])
     have KB := (keep_one wr ⟨g, k * 7 + 2, none⟩ (.int .i64 0)).trans (keep_one (wr.setCell ⟨g, k * 7 + 2, none⟩ (.int .i64 0)) ⟨g, k * 7 + 4, none⟩ (.int .u64 tm))
     obtain ⟨wb, eb⟩ : ∃ wb, (wr.setCell ⟨g, k * 7 + 2, none⟩ (.int .i64 0)).setCell ⟨g, k * 7 + 4, none⟩ (.int .u64 tm) = wb := ⟨_, rfl⟩
     have gf2 := OwnM.free (HR0.out.ov) (k * 7 + 2)
     have gf4 := OwnM.free (HR0.out.ov) (k * 7 + 4)
     have ct1 := HR0.out.c51
     rw [eb] at P2 KB
     go_wp2_with fail
     refine wp_region_held_drew (S := fun w' => w'.cell? ⟨g, k * 7 + 2, none⟩ = some (.int .i64 yb) ∧ w'.cell? ⟨M, 0, none⟩ = some (.int .i64 t.id)) (by kernel_rfl) ⟨a2, cid⟩ (fun hHeld => ?_)
     refine tk 0 (v := ?qvu267) ?qyu267 ?qru267; case qyu267 => ((intro w hSw; (try dsimp only at hSw); go_simp); try (with_reducible rfl))
     (try simp only [tA, tS, tZ, Act.put, uA, uS, uZ])
     refine tk 1 (v := ?qvu268) ?qyu268 ?qru268; case qyu268 => ((intro w hSw; (try dsimp only at hSw); go_simp); try (with_reducible rfl))
     (try simp only [tA, tS, tZ, Act.put, uA, uS, uZ])
     refine tk 2 (v := ?qvu269) ?qyu269 ?qru269; case qyu269 => ((intro w hSw; (try dsimp only at hSw); go_simp); try (with_reducible rfl))
     (try simp only [tA, tS, tZ, Act.put, uA, uS, uZ])
     refine tk 3 (v := ?qvu270) ?qyu270 ?qru270; case qyu270 => ((intro w hSw; (try dsimp only at hSw); go_simp); try (with_reducible rfl))
     (try simp only [tA, tS, tZ, Act.put, uA, uS, uZ])
     refine tk 4 (v := ?qvu271) ?qyu271 ?qru271; case qyu271 => ((intro w hSw; (try dsimp only at hSw); go_simp); try (with_reducible rfl))
     (try simp only [tA, tS, tZ, Act.put, uA, uS, uZ])
     refine tk 5 (v := ?qvu272) ?qyu272 ?qru272; case qyu272 => ((intro w hSw; (try dsimp only at hSw); go_simp); try (with_reducible rfl))
     (try simp only [tA, tS, tZ, Act.put, uA, uS, uZ])
     refine tk 6 (v := ?qvu273) ?qyu273 ?qru273; case qyu273 => ((intro w hSw; (try dsimp only at hSw); go_simp); try (with_reducible rfl))
     (try simp only [tA, tS, tZ, Act.put, uA, uS, uZ])
     refine wpAnyH_done (by kernel_rfl) ?_ _
     have cid : wb.cell? ⟨M, 0, none⟩ = some (.int .i64 t.id) := KB.cell cid (fun e => gM e.symm)
     have cidB : wb.cell? ⟨M, 0, none⟩ = some (.int .i64 t.id) := cid
     obtain ⟨g1, eg1, q0, q1, q2, q3, q4, q5, q6⟩ := P2.at' k ⟨yk, yv, 0, ye, tm, yo, yd⟩ (List.getElem?_set_self (by simpa using lk'))
     cases eg1
     have hf3 := OwnM.free (P2.ov) (k * 7 + 3)
     have hf5 := OwnM.free (P2.ov) (k * 7 + 5)
     have ct2 := P2.c51
     by_cases h2 : ye = t.id
     ·have d2 : (ye == t.id) = true := by simpa using h2
      have P3 := P2.put k 3 (by simpa using lk') (by omega) (.int .i64 0) ⟨yk, yv, 0, 0, tm, yo, yd⟩ (by simp [vrC])
      have P4 := P3.put k 5 (by simpa using lk') (by omega) (.int .u64 tm) ⟨yk, yv, 0, 0, tm, tm, yd⟩ (by simp [vrC])
      have K4 := (keep_one wb ⟨g, k * 7 + 3, none⟩ (.int .i64 0)).trans (keep_one (wb.setCell ⟨g, k * 7 + 3, none⟩ (.int .i64 0)) ⟨g, k * 7 + 5, none⟩ (.int .u64 tm))
      obtain ⟨wc, ec⟩ : ∃ wc, (wb.setCell ⟨g, k * 7 + 3, none⟩ (.int .i64 0)).setCell ⟨g, k * 7 + 5, none⟩ (.int .u64 tm) = wc := ⟨_, rfl⟩
      rw [ec] at P4 K4
      have F := Lib.hid (fun (wz : World) (kz : Keep (fun _ => False) wc wz) => NEXT.out wz (RmAt.same (by simpa [doneV, h1, h2] using P4) kz) ((KB.trans K4).trans (kz.mono (fun _ e => e.elim))))
      clear h1 h2 P3 P4 K4 gk lk'
      go_wp2_with fail
      refine wp_region_held_drew (S := fun w' => w'.cell? ⟨g, k * 7 + 3, none⟩ = some (.int .i64 ye) ∧ w'.cell? ⟨M, 0, none⟩ = some (.int .i64 t.id)) (by kernel_rfl) ⟨q3, cidB⟩ (fun hHeld => ?_)
      refine tk 0 (v := ?qvu274) ?qyu274 ?qru274; case qyu274 => ((intro w hSw; (try dsimp only at hSw); go_simp); try (with_reducible rfl))
      (try simp only [tA, tS, tZ, Act.put, uA, uS, uZ])
      refine tk 1 (v := ?qvu275) ?qyu275 ?qru275; case qyu275 => ((intro w hSw; (try dsimp only at hSw); go_simp); try (with_reducible rfl))
      (try simp only [tA, tS, tZ, Act.put, uA, uS, uZ])
      refine tk 2 (v := ?qvu276) ?qyu276 ?qru276; case qyu276 => ((intro w hSw; (try dsimp only at hSw); go_simp); try (with_reducible rfl))
      (try simp only [tA, tS, tZ, Act.put, uA, uS, uZ])
      refine tk 3 (v := ?qvu277) ?qyu277 ?qru277; case qyu277 => ((intro w hSw; (try dsimp only at hSw); go_simp); try (with_reducible rfl))
      (try simp only [tA, tS, tZ, Act.put, uA, uS, uZ])
      refine tk 4 (v := ?qvu278) ?qyu278 ?qru278; case qyu278 => ((intro w hSw; (try dsimp only at hSw); go_simp); try (with_reducible rfl))
      (try simp only [tA, tS, tZ, Act.put, uA, uS, uZ])
      refine tk 5 (v := ?qvu279) ?qyu279 ?qru279; case qyu279 => ((intro w hSw; (try dsimp only at hSw); go_simp); try (with_reducible rfl))
      (try simp only [tA, tS, tZ, Act.put, uA, uS, uZ])
      refine tk 6 (v := ?qvu280) ?qyu280 ?qru280; case qyu280 => ((intro w hSw; (try dsimp only at hSw); go_simp); try (with_reducible rfl))
      (try simp only [tA, tS, tZ, Act.put, uA, uS, uZ])
      refine wpAnyH_done (by kernel_rfl) ?_ _
      go_wp2
      exact ⟨⟨k + 1, F.out _ (((Keep.refl _ _).drew).drew)⟩, by simp [intOf]; omega⟩
     ·have d2 : (ye == t.id) = false := by simpa using h2
      have F := Lib.hid (fun (wz : World) (kz : Keep (fun _ => False) wb wz) => NEXT.out wz (RmAt.same (by simpa [doneV, h1, h2] using P2) kz) (KB.trans (kz.mono (fun _ e => e.elim))))
      clear h1 h2 gk lk'
      go_wp2_with fail
      refine wp_region_held_drew (S := fun w' => w'.cell? ⟨g, k * 7 + 3, none⟩ = some (.int .i64 ye) ∧ w'.cell? ⟨M, 0, none⟩ = some (.int .i64 t.id)) (by kernel_rfl) ⟨q3, cidB⟩ (fun hHeld => ?_)
      refine tk 0 (v := ?qvu281) ?qyu281 ?qru281; case qyu281 => ((intro w hSw; (try dsimp only at hSw); go_simp); try (with_reducible rfl))
      (try simp only [tA, tS, tZ, Act.put, uA, uS, uZ])
      refine tk 1 (v := ?qvu282) ?qyu282 ?qru282; case qyu282 => ((intro w hSw; (try dsimp only at hSw); go_simp); try (with_reducible rfl))
      (try simp only [tA, tS, tZ, Act.put, uA, uS, uZ])
      refine tk 2 (v := ?qvu283) ?qyu283 ?qru283; case qyu283 => ((intro w hSw; (try dsimp only at hSw); go_simp); try (with_reducible rfl))
      (try simp only [tA, tS, tZ, Act.put, uA, uS, uZ])
      refine tk 3 (v := ?qvu284) ?qyu284 ?qru284; case qyu284 => ((intro w hSw; (try dsimp only at hSw); go_simp); try (with_reducible rfl))
      (try simp only [tA, tS, tZ, Act.put, uA, uS, uZ])
      refine tk 4 (v := ?qvu285) ?qyu285 ?qru285; case qyu285 => ((intro w hSw; (try dsimp only at hSw); go_simp); try (with_reducible rfl))
      (try simp only [tA, tS, tZ, Act.put, uA, uS, uZ])
      refine tk 5 (v := ?qvu286) ?qyu286 ?qru286; case qyu286 => ((intro w hSw; (try dsimp only at hSw); go_simp); try (with_reducible rfl))
      (try simp only [tA, tS, tZ, Act.put, uA, uS, uZ])
      refine tk 6 (v := ?qvu287) ?qyu287 ?qru287; case qyu287 => ((intro w hSw; (try dsimp only at hSw); go_simp); try (with_reducible rfl))
      (try simp only [tA, tS, tZ, Act.put, uA, uS, uZ])
      refine wpAnyH_done (by kernel_rfl) ?_ _
      go_wp2
      exact ⟨⟨k + 1, F.out _ (((Keep.refl _ _).drew).drew)⟩, by simp [intOf]; omega⟩
    ·have d1 : (yb == t.id) = false := by simpa using h1
     have KB : Keep (fun j => j = g) wr wr := Keep.refl _ _
     have cidB := cid
     go_wp2_with fail
     refine wp_region_held_drew (S := fun w' => w'.cell? ⟨g, k * 7 + 2, none⟩ = some (.int .i64 yb) ∧ w'.cell? ⟨M, 0, none⟩ = some (.int .i64 t.id)) (by kernel_rfl) ⟨a2, cid⟩ (fun hHeld => ?_)
     refine tk 0 (v := ?qvu288) ?qyu288 ?qru288; case qyu288 => ((intro w hSw; (try dsimp only at hSw); go_simp); try (with_reducible rfl))
     (try simp only [tA, tS, tZ, Act.put, uA, uS, uZ])
     refine tk 1 (v := ?qvu289) ?qyu289 ?qru289; case qyu289 => ((intro w hSw; (try dsimp only at hSw); go_simp); try (with_reducible rfl))
     (try simp only [tA, tS, tZ, Act.put, uA, uS, uZ])
     refine tk 2 (v := ?qvu290) ?qyu290 ?qru290; case qyu290 => ((intro w hSw; (try dsimp only at hSw); go_simp); try (with_reducible rfl))
     (try simp only [tA, tS, tZ, Act.put, uA, uS, uZ])
     refine tk 3 (v := ?qvu291) ?qyu291 ?qru291; case qyu291 => ((intro w hSw; (try dsimp only at hSw); go_simp); try (with_reducible rfl))
     (try simp only [tA, tS, tZ, Act.put, uA, uS, uZ])
     refine tk 4 (v := ?qvu292) ?qyu292 ?qru292; case qyu292 => ((intro w hSw; (try dsimp only at hSw); go_simp); try (with_reducible rfl))
     (try simp only [tA, tS, tZ, Act.put, uA, uS, uZ])
     refine tk 5 (v := ?qvu293) ?qyu293 ?qru293; case qyu293 => ((intro w hSw; (try dsimp only at hSw); go_simp); try (with_reducible rfl))
     (try simp only [tA, tS, tZ, Act.put, uA, uS, uZ])
     refine tk 6 (v := ?qvu294) ?qyu294 ?qru294; case qyu294 => ((intro w hSw; (try dsimp only at hSw); go_simp); try (with_reducible rfl))
     (try simp only [tA, tS, tZ, Act.put, uA, uS, uZ])
     refine wpAnyH_done (by kernel_rfl) ?_ _
     obtain ⟨g1, eg1, q0, q1, q2, q3, q4, q5, q6⟩ := HR0.out.at' k ⟨yk, yv, yb, ye, ya, yo, yd⟩ (by rw [List.getElem?_eq_getElem lk', gk])
     cases eg1
     have hf3 := OwnM.free (HR0.out.ov) (k * 7 + 3)
     have hf5 := OwnM.free (HR0.out.ov) (k * 7 + 5)
     have ct2 := HR0.out.c51
     by_cases h2 : ye = t.id
     ·have d2 : (ye == t.id) = true := by simpa using h2
      have P3 := HR0.out.put k 3 lk' (by omega) (.int .i64 0) ⟨yk, yv, yb, 0, ya, yo, yd⟩ (by rw [gk]; rfl)
      have P4 := P3.put k 5 (by simpa using lk') (by omega) (.int .u64 tm) ⟨yk, yv, yb, 0, ya, tm, yd⟩ (by simp [vrC])
      have K4 := (keep_one wr ⟨g, k * 7 + 3, none⟩ (.int .i64 0)).trans (keep_one (wr.setCell ⟨g, k * 7 + 3, none⟩ (.int .i64 0)) ⟨g, k * 7 + 5, none⟩ (.int .u64 tm))
      obtain ⟨wc, ec⟩ : ∃ wc, (wr.setCell ⟨g, k * 7 + 3, none⟩ (.int .i64 0)).setCell ⟨g, k * 7 + 5, none⟩ (.int .u64 tm) = wc := ⟨_, rfl⟩
      rw [ec] at P4 K4
      have F := Lib.hid (fun (wz : World) (kz : Keep (fun _ => False) wc wz) => NEXT.out wz (RmAt.same (by simpa [doneV, h1, h2] using P4) kz) ((KB.trans K4).trans (kz.mono (fun _ e => e.elim))))
      clear h1 h2 P3 P4 K4 gk lk'
      go_wp2_with fail
      refine wp_region_held_drew (S := fun w' => w'.cell? ⟨g, k * 7 + 3, none⟩ = some (.int .i64 ye) ∧ w'.cell? ⟨M, 0, none⟩ = some (.int .i64 t.id)) (by kernel_rfl) ⟨q3, cidB⟩ (fun hHeld => ?_)
      refine tk 0 (v := ?qvu295) ?qyu295 ?qru295; case qyu295 => ((intro w hSw; (try dsimp only at hSw); go_simp); try (with_reducible rfl))
      (try simp only [tA, tS, tZ, Act.put, uA, uS, uZ])
      refine tk 1 (v := ?qvu296) ?qyu296 ?qru296; case qyu296 => ((intro w hSw; (try dsimp only at hSw); go_simp); try (with_reducible rfl))
      (try simp only [tA, tS, tZ, Act.put, uA, uS, uZ])
      refine tk 2 (v := ?qvu297) ?qyu297 ?qru297; case qyu297 => ((intro w hSw; (try dsimp only at hSw); go_simp); try (with_reducible rfl))
      (try simp only [tA, tS, tZ, Act.put, uA, uS, uZ])
      refine tk 3 (v := ?qvu298) ?qyu298 ?qru298; case qyu298 => ((intro w hSw; (try dsimp only at hSw); go_simp); try (with_reducible rfl))
      (try simp only [tA, tS, tZ, Act.put, uA, uS, uZ])
      refine tk 4 (v := ?qvu299) ?qyu299 ?qru299; case qyu299 => ((intro w hSw; (try dsimp only at hSw); go_simp); try (with_reducible rfl))
      (try simp only [tA, tS, tZ, Act.put, uA, uS, uZ])
      refine tk 5 (v := ?qvu300) ?qyu300 ?qru300; case qyu300 => ((intro w hSw; (try dsimp only at hSw); go_simp); try (with_reducible rfl))
      (try simp only [tA, tS, tZ, Act.put, uA, uS, uZ])
      refine tk 6 (v := ?qvu301) ?qyu301 ?qru301; case qyu301 => ((intro w hSw; (try dsimp only at hSw); go_simp); try (with_reducible rfl))
      (try simp only [tA, tS, tZ, Act.put, uA, uS, uZ])
      refine wpAnyH_done (by kernel_rfl) ?_ _
      go_wp2
      exact ⟨⟨k + 1, F.out _ (((Keep.refl _ _).drew).drew)⟩, by simp [intOf]; omega⟩
     ·have d2 : (ye == t.id) = false := by simpa using h2
      have F := Lib.hid (fun (wz : World) (kz : Keep (fun _ => False) wr wz) => NEXT.out wz (RmAt.same (by have e : doneV t.id tm ⟨yk, yv, yb, ye, ya, yo, yd⟩ = (doneTo x1.v t.id tm k)[k] := (by rw [gk]; simp [doneV, h1, h2]); rw [e, List.set_getElem_self]; exact HR0.out) kz) (KB.trans (kz.mono (fun _ e => e.elim))))
      clear h1 h2 gk lk'
      go_wp2_with fail
      refine wp_region_held_drew (S := fun w' => w'.cell? ⟨g, k * 7 + 3, none⟩ = some (.int .i64 ye) ∧ w'.cell? ⟨M, 0, none⟩ = some (.int .i64 t.id)) (by kernel_rfl) ⟨q3, cidB⟩ (fun hHeld => ?_)
      refine tk 0 (v := ?qvu302) ?qyu302 ?qru302; case qyu302 => ((intro w hSw; (try dsimp only at hSw); go_simp); try (with_reducible rfl))
      (try simp only [tA, tS, tZ, Act.put, uA, uS, uZ])
      refine tk 1 (v := ?qvu303) ?qyu303 ?qru303; case qyu303 => ((intro w hSw; (try dsimp only at hSw); go_simp); try (with_reducible rfl))
      (try simp only [tA, tS, tZ, Act.put, uA, uS, uZ])
      refine tk 2 (v := ?qvu304) ?qyu304 ?qru304; case qyu304 => ((intro w hSw; (try dsimp only at hSw); go_simp); try (with_reducible rfl))
      (try simp only [tA, tS, tZ, Act.put, uA, uS, uZ])
      refine tk 3 (v := ?qvu305) ?qyu305 ?qru305; case qyu305 => ((intro w hSw; (try dsimp only at hSw); go_simp); try (with_reducible rfl))
      (try simp only [tA, tS, tZ, Act.put, uA, uS, uZ])
      refine tk 4 (v := ?qvu306) ?qyu306 ?qru306; case qyu306 => ((intro w hSw; (try dsimp only at hSw); go_simp); try (with_reducible rfl))
      (try simp only [tA, tS, tZ, Act.put, uA, uS, uZ])
      refine tk 5 (v := ?qvu307) ?qyu307 ?qru307; case qyu307 => ((intro w hSw; (try dsimp only at hSw); go_simp); try (with_reducible rfl))
      (try simp only [tA, tS, tZ, Act.put, uA, uS, uZ])
      refine tk 6 (v := ?qvu308) ?qyu308 ?qru308; case qyu308 => ((intro w hSw; (try dsimp only at hSw); go_simp); try (with_reducible rfl))
      (try simp only [tA, tS, tZ, Act.put, uA, uS, uZ])
      refine wpAnyH_done (by kernel_rfl) ?_ _
      go_wp2
      exact ⟨⟨k + 1, F.out _ (((Keep.refl _ _).drew).drew)⟩, by simp [intOf]; omega⟩
   ·obtain rfl : k = n := by omega
    have ga : doneTo x1.v t.id tm k = x1.v.map (doneV t.id tm) := by rw [← EN.out, ← f1v]; exact done_all _ _ _
    have hr := HR0.out
    rw [ga] at hr
    have P := hr.six hs tx0 (.slice none 0 0) (.slice none 0 0) (World.ownsRow_nil _ _ _ _) OwnM.nil (by simp [Value.ownBlock]) (by simp [Value.ownBlock]) (by simp [Value.ownBlock]) (by simp [Value.ownBlock]) (by simp [Value.ownBlock])
    have s0 := hr.s0 s hs
    have s1 := hr.s1 s hs
    have s2 := hr.s2 s hs
    have s3 := hr.s3 s hs
    have s4 := hr.s4 s hs
    have s5 := hr.s5 s hs
    have fz := hr.fz
    have rb := RBL.out.keep kr FN.out
    have R6 := Lib.hid (rb.keep (six_keep wr m s tx0 (.slice none 0 0) (.slice none 0 0)) (by omega))
    obtain ⟨q0, q1, q2, q3, q4, q5⟩ := rb
    have FE := Lib.hid (show ∀ g, FootR m (.slice A k c) (updV sw s (.slice none 0 0)) (updV sr s (.slice none 0 0)) g → FootR m (.slice A k c) sw sr g from fun g hg => by
     rcases hg with q | q | ⟨i, hi, q⟩
     ·exact .inl q
     ·exact .inr (.inl q)
     ·by_cases e : i = s
      ·subst e; rw [updV_self, updV_self] at q; rcases q with q | q <;> cases q
      ·rw [updV_ne _ _ e, updV_ne _ _ e] at q; exact .inr (.inr ⟨i, hi, q⟩))
    have KK := Lib.hid (show Keep (FootR m (.slice A k c) sw sr) w (sixW wr m s tx0 (.slice none 0 0) (.slice none 0 0)) from (KW.out.mono (fun _ e => e.elim)).trans (KX.trans ((six_keep wr m s tx0 (.slice none 0 0) (.slice none 0 0)).mono (fun g e => .inl e))))
    have hNm : N ≠ m := by omega
    have PP := Lib.hid P
    clear hr P ga HR HR0 KX kr
    go_wp2_with fail
    obtain ⟨W7, eW7⟩ : ∃ W7, ((((((sixW wr m s tx0 (.slice none 0 0) (.slice none 0 0)).setCell ⟨N, 0, none⟩ (.int .i64 0)).setCell ⟨N, 1, none⟩ (.int .i64 0)).setCell ⟨N, 2, none⟩ (.slice none 0 0)).setCell ⟨N, 3, none⟩ (.int .i64 3)).setCell ⟨N, 4, none⟩ (.int .i64 0)) = W7 := ⟨_, rfl⟩
    obtain ⟨⟨v0, v1, v2, v3, v4, _⟩, k7⟩ := res_set R6.out _ _ _ _ _ eW7
    change bodyPost _ _ _ _ _ ((((((sixW wr m s tx0 (.slice none 0 0) (.slice none 0 0)).setCell ⟨N, 0, none⟩ (.int .i64 0)).setCell ⟨N, 1, none⟩ (.int .i64 0)).setCell ⟨N, 2, none⟩ (.slice none 0 0)).setCell ⟨N, 3, none⟩ (.int .i64 3)).setCell ⟨N, 4, none⟩ (.int .i64 0))
    rw [eW7]
    refine bodyPost_ret (v := .agg #[.int .i64 0, .int .i64 0, .slice none 0 0, .int .i64 3, .int .i64 0]) (by simp [results, Try.results61, go_sem, v0, v1, v2, v3, v4]) rfl ⟨rfl, ?_⟩
    have PQ := PP.out.keep k7 (fun g hg e => FN.out (e ▸ FE.out g hg))
    rw [f1v, f1t] at PQ
    exact ⟨_, _, _, PQ, KK.out.onew k7 (fun j e => .inr (by cases e; exact Nat.le_of_eq ES.out)), fun g hg => .inl (FE.out g hg)⟩
end
end Go.Proofs.Ytkkjofefjepodaa
