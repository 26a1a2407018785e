/- For HashPlays: an Index, a block of bools, a block of ints, three lists of ints of the law's own, and an op in a block of its own, side by side (o tells whose a block is); what each call, store and append leaves as it was. No condition but those of the Index. -/
import Derived.Test.YtmfpjnlplimkeaaGreatLawHashPlaysZap
namespace Go.Proofs.YtmfpjnlplimkeaaGreat
open Go.ChangeShapes Go.WideShapes Go.ChangeAt Go.RowKit
set_option linter.unusedVariables false

structure All10 (W w : World) (o : Nat → Nat) (x p n : Nat) (S : Nat → Prop) (s : RS) (h : HS) (D : Nat → Nat → Prop) (k : Nat) (b9 : Nat) (f9 : Nat → Bool) (b10 : Nat) (f10 : Nat → Int) (v1 : Value) (z1 : List Int) (v2 : Value) (z2 : List Int) (v3 : Value) (z3 : List Int) (ob : Nat) (cs : List Value) : Prop where
  r : Hsh W w x p n S s h D k
  oS : ∀ g, S g → o g = 1
  t9 : Bits64 w b9 f9
  o9 : o b9 = 2
  g9 : W.heap.size ≤ b9
  t10 : Ints64 w b10 f10
  o10 : o b10 = 3
  g10 : W.heap.size ≤ b10
  a1 : OwnN W.heap.size w v1 z1
  p1 : ∀ g, v1.ownBlock = some g → o g = 4
  a2 : OwnN W.heap.size w v2 z2
  p2 : ∀ g, v2.ownBlock = some g → o g = 5
  a3 : OwnN W.heap.size w v3 z3
  p3 : ∀ g, v3.ownBlock = some g → o g = 6
  co : ∀ i u, cs[i]? = some u → w.cell? ⟨ob, i, none⟩ = some u
  oo : cs = [] ∨ (o ob = 7 ∧ ob < w.heap.size)
/-- New blocks are j's. -/
def grow (o : Nat → Nat) (m j : Nat) : Nat → Nat := fun g => if g < m then o g else j
theorem grow_old {o : Nat → Nat} {m j g : Nat} (h : g < m) : grow o m j g = o g := if_pos h
theorem grow_new {o : Nat → Nat} {m j g : Nat} (h : m ≤ g) : grow o m j g = j := if_neg (by omega)
def turn3 (o : Nat → Nat) : Nat → Nat := fun g => if o g = 4 then 6 else if o g = 5 then 4 else if o g = 6 then 5 else o g
section
variable {W w w' : World} {o : Nat → Nat} {x p n : Nat} {S S' : Nat → Prop} {s s' : RS} {h h' : HS} {D D' : Nat → Nat → Prop} {k k' b9 b10 : Nat} {f9 f9' : Nat → Bool} {f10 f10' : Nat → Int} {v1 v2 v3 v' : Value} {z1 z2 z3 z' : List Int} {ob ob' : Nat} {cs cs' : List Value}
theorem All10.rot (a : All10 W w o x p n S s h D k b9 f9 b10 f10 v1 z1 v2 z2 v3 z3 ob cs) : All10 W w (turn3 o) x p n S s h D k b9 f9 b10 f10 v2 z2 v3 z3 v1 z1 ob cs :=
  ⟨a.r, fun g hg => by unfold turn3; rw [a.oS g hg]; rfl, a.t9, by unfold turn3; rw [a.o9]; rfl, a.g9, a.t10, by unfold turn3; rw [a.o10]; rfl, a.g10, a.a2, fun g hg => by unfold turn3; rw [a.p2 g hg]; rfl, a.a3, fun g hg => by unfold turn3; rw [a.p3 g hg]; rfl, a.a1, fun g hg => by unfold turn3; rw [a.p1 g hg]; rfl, a.co, a.oo.imp_right (fun e => ⟨by unfold turn3; rw [e.1]; rfl, e.2⟩)⟩
theorem All10.step (a : All10 W w o x p n S s h D k b9 f9 b10 f10 v1 z1 v2 z2 v3 z3 ob cs) (hr : Hsh W w' x p n S' s' h' D' k') (kk0 : VKeep S S' w w') : All10 W w' (grow o w.heap.size 1) x p n S' s' h' D' k' b9 f9 b10 f10 v1 z1 v2 z2 v3 z3 ob cs := by
  obtain ⟨kk, gg⟩ := kk0
  have hT : ∀ g, S g → o g = 1 := a.oS
  refine ⟨hr, fun g hg => ?_, a.t9.keep kk (fun t => by have := hT _ t; have := a.o9; omega), (grow_old a.t9.lt).trans a.o9, a.g9, a.t10.keep kk (fun t => by have := hT _ t; have := a.o10; omega), (grow_old a.t10.lt).trans a.o10, a.g10, OwnN.keep a.a1 kk (fun g hg t => by have := hT g t; have := a.p1 g hg; omega), fun g hg => (grow_old (OwnN.lt a.a1 hg).2).trans (a.p1 g hg), OwnN.keep a.a2 kk (fun g hg t => by have := hT g t; have := a.p2 g hg; omega), fun g hg => (grow_old (OwnN.lt a.a2 hg).2).trans (a.p2 g hg), OwnN.keep a.a3 kk (fun g hg t => by have := hT g t; have := a.p3 g hg; omega), fun g hg => (grow_old (OwnN.lt a.a3 hg).2).trans (a.p3 g hg), (fun i u hu => by rcases a.oo with e | ⟨e, _⟩; (rw [e] at hu; simp at hu); exact kk.cell (a.co i u hu) (fun t => by have : o ob = _ := hT _ t; omega)), (a.oo.imp_right (fun e => ⟨(grow_old e.2).trans e.1, Nat.lt_of_lt_of_le e.2 kk.size⟩))⟩
  rcases gg g hg with y | y
  · exact (grow_old (a.r.lt g y)).trans (a.oS g y)
  · exact grow_new y
/-- Nothing that was there has turned; new blocks are the law's. -/
theorem All10.quiet (a : All10 W w o x p n S s h D k b9 f9 b10 f10 v1 z1 v2 z2 v3 z3 ob cs) (kk : Keep (fun _ => False) w w') : All10 W w' (grow o w.heap.size 7) x p n S s h D k b9 f9 b10 f10 v1 z1 v2 z2 v3 z3 ob cs :=
  ⟨a.r.quiet kk, fun g hg => (grow_old (a.r.lt g hg)).trans (a.oS g hg), a.t9.keep kk (by simp), (grow_old a.t9.lt).trans a.o9, a.g9, a.t10.keep kk (by simp), (grow_old a.t10.lt).trans a.o10, a.g10, OwnN.keep a.a1 kk (by simp), fun g hg => (grow_old (OwnN.lt a.a1 hg).2).trans (a.p1 g hg), OwnN.keep a.a2 kk (by simp), fun g hg => (grow_old (OwnN.lt a.a2 hg).2).trans (a.p2 g hg), OwnN.keep a.a3 kk (by simp), fun g hg => (grow_old (OwnN.lt a.a3 hg).2).trans (a.p3 g hg), fun i u hu => kk.cell (a.co i u hu) (by simp), (a.oo.imp_right (fun e => ⟨(grow_old e.2).trans e.1, Nat.lt_of_lt_of_le e.2 kk.size⟩))⟩
/-- An op is laid in a new block. -/
theorem All10.op (a : All10 W w o x p n S s h D k b9 f9 b10 f10 v1 z1 v2 z2 v3 z3 ob cs) (kk : Keep (fun _ => False) w w') (hb : w.heap.size ≤ ob') (hb2 : ob' < w'.heap.size) (hc : ∀ i u, cs'[i]? = some u → w'.cell? ⟨ob', i, none⟩ = some u) : All10 W w' (grow o w.heap.size 7) x p n S s h D k b9 f9 b10 f10 v1 z1 v2 z2 v3 z3 ob' cs' :=
  have q := a.quiet kk
  ⟨q.r, q.oS, q.t9, q.o9, q.g9, q.t10, q.o10, q.g10, q.a1, q.p1, q.a2, q.p2, q.a3, q.p3, hc, .inr ⟨grow_new hb, hb2⟩⟩
theorem All10.noop (a : All10 W w o x p n S s h D k b9 f9 b10 f10 v1 z1 v2 z2 v3 z3 ob cs) : All10 W w o x p n S s h D k b9 f9 b10 f10 v1 z1 v2 z2 v3 z3 ob [] := ⟨a.r, a.oS, a.t9, a.o9, a.g9, a.t10, a.o10, a.g10, a.a1, a.p1, a.a2, a.p2, a.a3, a.p3, fun i u hu => by simp at hu, .inl rfl⟩
theorem All10.up (a : All10 W w o x p n S s h D k b9 f9 b10 f10 v1 z1 v2 z2 v3 z3 ob cs) {m : Nat} (hk : k ≤ m) : All10 W w o x p n S s h D m b9 f9 b10 f10 v1 z1 v2 z2 v3 z3 ob cs := ⟨a.r.up hk, a.oS, a.t9, a.o9, a.g9, a.t10, a.o10, a.g10, a.a1, a.p1, a.a2, a.p2, a.a3, a.p3, a.co, a.oo⟩
theorem All10.fewer (a : All10 W w o x p n S s h D k b9 f9 b10 f10 v1 z1 v2 z2 v3 z3 ob cs) (hd : ∀ q key, D' q key → D q key) : All10 W w o x p n S s h D' k b9 f9 b10 f10 v1 z1 v2 z2 v3 z3 ob cs := ⟨a.r.fewer hd, a.oS, a.t9, a.o9, a.g9, a.t10, a.o10, a.g10, a.a1, a.p1, a.a2, a.p2, a.a3, a.p3, a.co, a.oo⟩
/-- The first list is forgotten. -/
theorem All10.nil1 (a : All10 W w o x p n S s h D k b9 f9 b10 f10 v1 z1 v2 z2 v3 z3 ob cs) : All10 W w o x p n S s h D k b9 f9 b10 f10 (.slice none 0 0) [] v2 z2 v3 z3 ob cs := ⟨a.r, a.oS, a.t9, a.o9, a.g9, a.t10, a.o10, a.g10, World.ownsRow_nil _ _ _ _, by simp [Value.ownBlock], a.a2, a.p2, a.a3, a.p3, a.co, a.oo⟩
theorem All10.set9 (a : All10 W w o x p n S s h D k b9 f9 b10 f10 v1 z1 v2 z2 v3 z3 ob cs) (i : Nat) (hi : i < 64) (y : Bool) (e : ∀ j, (if j = i then y else f9 j) = f9' j) : All10 W (w.setCell ⟨b9, i, none⟩ (.bool y)) o x p n S s h D k b9 f9' b10 f10 v1 z1 v2 z2 v3 z3 ob cs := by
  have t := a.t9.set i hi y
  rw [show (fun j => if j = i then y else f9 j) = f9' from funext e] at t
  have kk := keep_one w ⟨b9, i, none⟩ (.bool y)
  have hT : ∀ g, g = b9 → o g = 2 := fun g hg => by rw [hg]; exact a.o9
  exact ⟨a.r.own kk (fun g hg => by have hg : g = b9 := hg; subst hg; exact ⟨fun hS => by have := a.oS _ hS; have := a.o9; omega, a.g9⟩), a.oS, t, a.o9, a.g9, a.t10.keep kk (fun t => by have := hT _ t; have := a.o10; omega), a.o10, a.g10, OwnN.keep a.a1 kk (fun g hg t => by have := hT g t; have := a.p1 g hg; omega), a.p1, OwnN.keep a.a2 kk (fun g hg t => by have := hT g t; have := a.p2 g hg; omega), a.p2, OwnN.keep a.a3 kk (fun g hg t => by have := hT g t; have := a.p3 g hg; omega), a.p3, (fun i u hu => by rcases a.oo with e | ⟨e, _⟩; (rw [e] at hu; simp at hu); exact kk.cell (a.co i u hu) (fun t => by have : o ob = _ := hT _ t; omega)), a.oo.imp_right (fun e => ⟨e.1, Nat.lt_of_lt_of_le e.2 kk.size⟩)⟩
theorem All10.set10 (a : All10 W w o x p n S s h D k b9 f9 b10 f10 v1 z1 v2 z2 v3 z3 ob cs) (i : Nat) (hi : i < 64) (y : Int) (e : ∀ j, (if j = i then y else f10 j) = f10' j) : All10 W (w.setCell ⟨b10, i, none⟩ (.int .i64 y)) o x p n S s h D k b9 f9 b10 f10' v1 z1 v2 z2 v3 z3 ob cs := by
  have t := a.t10.set i hi y
  rw [show (fun j => if j = i then y else f10 j) = f10' from funext e] at t
  have kk := keep_one w ⟨b10, i, none⟩ (.int .i64 y)
  have hT : ∀ g, g = b10 → o g = 3 := fun g hg => by rw [hg]; exact a.o10
  exact ⟨a.r.own kk (fun g hg => by have hg : g = b10 := hg; subst hg; exact ⟨fun hS => by have := a.oS _ hS; have := a.o10; omega, a.g10⟩), a.oS, a.t9.keep kk (fun t => by have := hT _ t; have := a.o9; omega), a.o9, a.g9, t, a.o10, a.g10, OwnN.keep a.a1 kk (fun g hg t => by have := hT g t; have := a.p1 g hg; omega), a.p1, OwnN.keep a.a2 kk (fun g hg t => by have := hT g t; have := a.p2 g hg; omega), a.p2, OwnN.keep a.a3 kk (fun g hg t => by have := hT g t; have := a.p3 g hg; omega), a.p3, (fun i u hu => by rcases a.oo with e | ⟨e, _⟩; (rw [e] at hu; simp at hu); exact kk.cell (a.co i u hu) (fun t => by have : o ob = _ := hT _ t; omega)), a.oo.imp_right (fun e => ⟨e.1, Nat.lt_of_lt_of_le e.2 kk.size⟩)⟩
/-- 'l = append(l, y)' of the first list. -/
theorem All10.push (a : All10 W w o x p n S s h D k b9 f9 b10 f10 v1 z1 v2 z2 v3 z3 ob cs) {g c : Nat} {y : Int} (ow : OwnN W.heap.size w' (.slice (some ⟨g, 0, none⟩) (z1.length + 1) c) (z1 ++ [y])) (kk : Keep (fun j => v1.ownBlock = some j) w w') (hg : v1.ownBlock = some g ∨ w.heap.size ≤ g) : All10 W w' (grow o w.heap.size 4) x p n S s h D k b9 f9 b10 f10 (.slice (some ⟨g, 0, none⟩) (z1.length + 1) c) (z1 ++ [y]) v2 z2 v3 z3 ob cs := by
  have hT : ∀ g, v1.ownBlock = some g → o g = 4 := a.p1
  refine ⟨a.r.own kk (fun g hg => ⟨fun hS => by have := a.oS _ hS; have := a.p1 g hg; omega, (OwnN.lt a.a1 hg).1⟩), fun g hg => (grow_old (a.r.lt g hg)).trans (a.oS g hg), a.t9.keep kk (fun t => by have := hT _ t; have := a.o9; omega), (grow_old a.t9.lt).trans a.o9, a.g9, a.t10.keep kk (fun t => by have := hT _ t; have := a.o10; omega), (grow_old a.t10.lt).trans a.o10, a.g10, ow, fun x hx => ?_, OwnN.keep a.a2 kk (fun g hg t => by have := hT g t; have := a.p2 g hg; omega), fun g hg => (grow_old (OwnN.lt a.a2 hg).2).trans (a.p2 g hg), OwnN.keep a.a3 kk (fun g hg t => by have := hT g t; have := a.p3 g hg; omega), fun g hg => (grow_old (OwnN.lt a.a3 hg).2).trans (a.p3 g hg), (fun i u hu => by rcases a.oo with e | ⟨e, _⟩; (rw [e] at hu; simp at hu); exact kk.cell (a.co i u hu) (fun t => by have : o ob = _ := hT _ t; omega)), (a.oo.imp_right (fun e => ⟨(grow_old e.2).trans e.1, Nat.lt_of_lt_of_le e.2 kk.size⟩))⟩
  have : g = x := by simpa [Value.ownBlock] using hx
  subst this
  rcases hg with z | z
  · exact (grow_old (OwnN.lt a.a1 z).2).trans (a.p1 g z)
  · exact grow_new z
/-- Another list of the call's own, behind a call that has made it: new blocks only. -/
theorem All10.stepV (a : All10 W w o x p n S s h D k b9 f9 b10 f10 v1 z1 v2 z2 v3 z3 ob cs) (hr : Hsh W w' x p n S' s' h' D' k') (kk0 : VKeep S S' w w') : All10 W w' (grow o w.heap.size 1) x p n S' s' h' D' k' b9 f9 b10 f10 v1 z1 v2 z2 v3 z3 ob cs := a.step hr kk0
end
theorem own_n_lower {w : World} {B B' : Nat} {v : Value} {zs : List Int} (o : OwnN B' w v zs) (hB : B ≤ B') : OwnN B w v zs := by
  obtain ⟨h1, h2⟩ := o
  refine ⟨h1, ?_⟩
  rcases h2 with h2 | ⟨g, c, cur, hv, hg, r⟩
  · exact .inl h2
  · exact .inr ⟨g, c, cur, hv, Nat.le_trans hB hg, r⟩
end Go.Proofs.YtmfpjnlplimkeaaGreat
