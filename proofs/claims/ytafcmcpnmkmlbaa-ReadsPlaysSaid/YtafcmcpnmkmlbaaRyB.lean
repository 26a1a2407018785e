/- For ReadsPlays: a set of reads, three lists of the law's own (keys, links, ranges), and an op in a block of its own, side by side (o tells whose a block is); what each call and append leaves as it was. No condition but those of the set. -/
import Derived.Test.YtafcmcpnmkmlbaaRdD
import Derived.Test.YtafcmcpnmkmlbaaOwnM
namespace Go.Proofs.Ytafcmcpnmkmlbaa
open Go.ChangeShapes Go.WideShapes Go.ChangeAt Go.RowKit
set_option linter.unusedVariables false

/-- A range that the law keeps: with the slice that came in, and what it reads as. -/
structure ScV where
  lo : Int
  hi : Int
  v : Value
  z : List Int
def ScV.sc (x : ScV) : ScI := ⟨x.lo, x.hi, x.z⟩
def scC (x : ScV) : List Value := [.int .i64 x.lo, .int .i64 x.hi, x.v]
abbrev OwnSv (B : Nat) (w : World) (v : Value) (zs : List ScV) : Prop := w.ownsRow B 43 3 v zs.length (zs.flatMap scC)
theorem OwnSv.keep {B : Nat} {w w' : World} {v : Value} {zs : List ScV} {S : Nat → Prop} (h : OwnSv B w v zs) (k : Keep S w w') (hn : ∀ g, v.ownBlock = some g → ¬ S g) : OwnSv B w' v zs := by
  obtain ⟨h1, h2⟩ := id h
  refine ⟨h1, ?_⟩
  rcases h2 with h2 | ⟨g, c, cur, hv, hg, hh, r⟩
  · exact .inl h2
  · subst hv
    exact .inr ⟨g, c, cur, rfl, hg, by rw [k.block g (lt_of_block hh) (hn g rfl)]; exact hh, r⟩
theorem OwnSv.lt {B : Nat} {w : World} {v : Value} {zs : List ScV} (h : OwnSv B w v zs) {g : Nat} (hg : v.ownBlock = some g) : B ≤ g ∧ g < w.heap.size := World.ownsRow.lt h g hg
theorem OwnSv.shape {B : Nat} {w : World} {v : Value} {zs : List ScV} (h : OwnSv B w v zs) : ∃ A c, v = .slice A zs.length c ∧ (A = none → zs = []) ∧ ∀ ad, A = some ad → ∃ g, ad = ⟨g, 0, none⟩ := by
  obtain ⟨h1, h2⟩ := id h
  rcases h2 with ⟨h3, h4⟩ | ⟨g, c, cur, hv, _⟩
  · exact ⟨none, 0, by rw [h4]; exact h3, fun _ => List.length_eq_zero_iff.1 h4, fun ad h => by cases h⟩
  · exact ⟨some ⟨g, 0, none⟩, c, hv, fun h => (by cases h), fun ad h => by cases h; exact ⟨g, rfl⟩⟩
theorem OwnSv.cells {B g n c : Nat} {w : World} {zs : List ScV} (h : OwnSv B w (.slice (some ⟨g, 0, none⟩) n c) zs) (i : Nat) (x : ScV) (hx : zs[i]? = some x) : w.cell? ⟨g, i * 3, none⟩ = some (.int .i64 x.lo) ∧ w.cell? ⟨g, i * 3 + 1, none⟩ = some (.int .i64 x.hi) ∧ w.cell? ⟨g, i * 3 + 2, none⟩ = some x.v := by
  have o : OwnM 3 scC 43 w (.slice (some ⟨g, 0, none⟩) n c) zs := OwnM.of_base h rfl rfl
  obtain ⟨hi, ex⟩ := List.getElem?_eq_some_iff.1 hx
  have hf : ∀ x, (scC x).length = 3 := fun x => rfl
  have c0 := OwnM.cell hf o i 0 hi (by omega)
  have c1 := OwnM.cell hf o i 1 hi (by omega)
  have c2 := OwnM.cell hf o i 2 hi (by omega)
  rw [ex] at c0 c1 c2
  exact ⟨c0, c1, c2⟩
theorem info_scan : (Try.prog.info? 43).map (fun i => (i.zero, i.size, i.bytes)) = some (some (.agg #[.int .i64 0, .int .i64 0, .slice none 0 0]), 3, 40) := by kernel_rfl
theorem scan_lies (w : World) (y : ScV) : ∀ j u, (scC y)[j]? = some u → (w.alloc (.cells #[.int .i64 y.lo, .int .i64 y.hi, y.v] 43)).cell? ((⟨w.heap.size, 0, none⟩ : Addr).add j) = some u := by
  intro j u hj
  match j, hj with
  | 0, hj => simp [scC] at hj; subst hj; simp [Addr.add]
  | 1, hj => simp [scC] at hj; subst hj; simp [Addr.add]
  | 2, hj => simp [scC] at hj; subst hj; simp [Addr.add]
theorem wp_pushS {w : World} {ops : Array Oper} {rest : List Oper} {o : Oper} {a : Act} {Q : Exit → Act → World → Prop} (hgd : o.guard = none) (s x : Operand)
    (ho : o.op = .call { callee := .builtin .append, args := #[s, x], argTypes := #[30, 30] })
    (B : Nat) (hB : B ≤ w.heap.size) (v : Value) (zs : List ScV) (hs : a.eval s = v) (hown : OwnSv B w v zs) (y : ScV) (hy : y.v.oneCell' = true) (hx : a.eval x = .slice (some ⟨w.heap.size, 0, none⟩) 1 1) (hl : zs.length ≤ 100000)
    (h : ∀ g c w', OwnSv B w' (.slice (some ⟨g, 0, none⟩) (zs.length + 1) c) (zs ++ [y]) → Keep (fun j => v.ownBlock = some j) w w' → (v.ownBlock = some g ∨ w.heap.size ≤ g) → wpList Try.prog ops Q rest (a.put o.dst (.slice (some ⟨g, 0, none⟩) (zs.length + 1) c)) w') :
    wpList Try.prog ops Q (o :: rest) a (w.alloc (.cells #[.int .i64 y.lo, .int .i64 y.hi, y.v] 43)) := by
  obtain ⟨i0, hi0, hz0, hz1, hz2⟩ := info_parts info_scan
  refine wpList_append_lies _ hgd s x 30 ho B 43 i0 _ 3 40 Try.underlying30 hi0 hz0 hz1 hz2 rfl (by decide) v zs.length (zs.flatMap scC) hs (World.ownsRow.alloc hown _) ⟨w.heap.size, 0, none⟩ 1 1 (scC y) hx rfl (scan_lies w y) (by simp [scC, hy]; simp [Value.oneCell']) (by decide) (by unfold maxLen; omega) (by omega) (by simp; omega) (w.heap.size + 1) (by simp) ?_
  intro g c w' o1 gr hg _
  have e : OwnSv B w' (.slice (some ⟨g, 0, none⟩) (zs.length + 1) c) (zs ++ [y]) := by
    unfold OwnSv
    simpa using o1
  have k0 := Keep.alloc (Keep.refl (fun j => v.ownBlock = some j) w) (.cells #[.int .i64 y.lo, .int .i64 y.hi, y.v] 43)
  refine h g c w' e (k0.trans ⟨gr.os, gr.tape, gr.output, gr.size, fun j hj hn => gr.block j hj (fun e => hn e.symm)⟩) (hg.imp_right (by omega))
structure All13 (W w : World) (o : Nat → Nat) (t : Nat) (S : Nat → Prop) (s : RdS) (v1 : Value) (z1 : List Int) (v2 : Value) (z2 : List Int) (v3 : Value) (z3 : List ScV) (ob : Nat) (cs : List Value) : Prop where
  r : Rd W w t S s
  oS : ∀ g, S g → o g = 1
  a1 : OwnN W.heap.size w v1 z1
  p1 : ∀ g, v1.ownBlock = some g → o g = 2
  a2 : OwnU W.heap.size w v2 z2
  p2 : ∀ g, v2.ownBlock = some g → o g = 3
  a3 : OwnSv W.heap.size w v3 z3
  p3 : ∀ g, v3.ownBlock = some g → o g = 4
  co : ∀ i u, cs[i]? = some u → w.cell? ⟨ob, i, none⟩ = some u
  oo : cs = [] ∨ (o ob = 5 ∧ ob < w.heap.size)
/-- New blocks are j's. -/
def grow (o : Nat → Nat) (m j : Nat) : Nat → Nat := fun g => if g < m then o g else j
theorem grow_old {o : Nat → Nat} {m j g : Nat} (h : g < m) : grow o m j g = o g := if_pos h
theorem grow_new {o : Nat → Nat} {m j g : Nat} (h : m ≤ g) : grow o m j g = j := if_neg (by omega)
section
variable {W w w' : World} {o : Nat → Nat} {t : Nat} {S S' : Nat → Prop} {s s' : RdS} {v1 v2 v3 v' : Value} {z1 z2 z' : List Int} {z3 : List ScV} {ob ob' : Nat} {cs cs' : List Value}
theorem All13.step (a : All13 W w o t S s v1 z1 v2 z2 v3 z3 ob cs) (hr : Rd W w' t S' s') (kk0 : VKeep S S' w w') : All13 W w' (grow o w.heap.size 1) t S' s' v1 z1 v2 z2 v3 z3 ob cs := by
  obtain ⟨kk, gg⟩ := kk0
  have hT : ∀ g, S g → o g = 1 := a.oS
  refine ⟨hr, fun g hg => ?_, OwnN.keep a.a1 kk (fun g hg t => by have := hT g t; have := a.p1 g hg; omega), (fun g hg => (grow_old (OwnN.lt a.a1 hg).2).trans (a.p1 g hg)), OwnU.keep a.a2 kk (fun g hg t => by have := hT g t; have := a.p2 g hg; omega), (fun g hg => (grow_old (OwnU.lt a.a2 hg).2).trans (a.p2 g hg)), OwnSv.keep a.a3 kk (fun g hg t => by have := hT g t; have := a.p3 g hg; omega), (fun g hg => (grow_old (OwnSv.lt a.a3 hg).2).trans (a.p3 g hg)), (fun i u hu => by rcases a.oo with e | ⟨e, _⟩; (rw [e] at hu; simp at hu); exact kk.cell (a.co i u hu) (fun t => by have : o ob = _ := hT _ t; omega)), (a.oo.imp_right (fun e => ⟨(grow_old e.2).trans e.1, Nat.lt_of_lt_of_le e.2 kk.size⟩))⟩
  rcases gg g hg with y | y
  · exact (grow_old (a.r.lt g y)).trans (a.oS g y)
  · exact grow_new y
/-- Nothing that was there has turned; new blocks are the law's. -/
theorem All13.quiet (a : All13 W w o t S s v1 z1 v2 z2 v3 z3 ob cs) (kk : Keep (fun _ => False) w w') : All13 W w' (grow o w.heap.size 5) t S s v1 z1 v2 z2 v3 z3 ob cs :=
  ⟨a.r.quiet kk, fun g hg => (grow_old (a.r.lt g hg)).trans (a.oS g hg), OwnN.keep a.a1 kk (by simp), (fun g hg => (grow_old (OwnN.lt a.a1 hg).2).trans (a.p1 g hg)), OwnU.keep a.a2 kk (by simp), (fun g hg => (grow_old (OwnU.lt a.a2 hg).2).trans (a.p2 g hg)), OwnSv.keep a.a3 kk (by simp), (fun g hg => (grow_old (OwnSv.lt a.a3 hg).2).trans (a.p3 g hg)), fun i u hu => kk.cell (a.co i u hu) (by simp), (a.oo.imp_right (fun e => ⟨(grow_old e.2).trans e.1, Nat.lt_of_lt_of_le e.2 kk.size⟩))⟩
/-- An op is laid in a new block. -/
theorem All13.op (a : All13 W w o t S s v1 z1 v2 z2 v3 z3 ob cs) (kk : Keep (fun _ => False) w w') (hb : w.heap.size ≤ ob') (hb2 : ob' < w'.heap.size) (hc : ∀ i u, cs'[i]? = some u → w'.cell? ⟨ob', i, none⟩ = some u) : All13 W w' (grow o w.heap.size 5) t S s v1 z1 v2 z2 v3 z3 ob' cs' :=
  have q := a.quiet kk
  ⟨q.r, q.oS, q.a1, q.p1, q.a2, q.p2, q.a3, q.p3, hc, .inr ⟨grow_new hb, hb2⟩⟩
theorem All13.noop (a : All13 W w o t S s v1 z1 v2 z2 v3 z3 ob cs) : All13 W w o t S s v1 z1 v2 z2 v3 z3 0 [] := ⟨a.r, a.oS, a.a1, a.p1, a.a2, a.p2, a.a3, a.p3, fun i u hu => by simp at hu, .inl rfl⟩
theorem own_at13 {g c n : Nat} {v : Value} (j : Nat) (hp : ∀ g, v.ownBlock = some g → o g = j) (hg : v.ownBlock = some g ∨ w.heap.size ≤ g) (hl : ∀ g, v.ownBlock = some g → g < w.heap.size) : ∀ x, (Value.slice (some ⟨g, 0, none⟩) n c).ownBlock = some x → grow o w.heap.size j x = j := fun x hx => by
  have : g = x := by simpa [Value.ownBlock] using hx
  subst this
  rcases hg with z | z
  · exact (grow_old (hl _ z)).trans (hp g z)
  · exact grow_new z
theorem All13.push1 (a : All13 W w o t S s v1 z1 v2 z2 v3 z3 ob cs) {g c : Nat} {y : Int} (ow : OwnN W.heap.size w' (.slice (some ⟨g, 0, none⟩) (z1.length + 1) c) (z1 ++ [y])) (kk : Keep (fun j => v1.ownBlock = some j) w w') (hg : v1.ownBlock = some g ∨ w.heap.size ≤ g) : All13 W w' (grow o w.heap.size 2) t S s (.slice (some ⟨g, 0, none⟩) (z1.length + 1) c) (z1 ++ [y]) v2 z2 v3 z3 ob cs := by
  have hT : ∀ g, v1.ownBlock = some g → o g = 2 := a.p1
  exact ⟨a.r.own kk (fun g hg => ⟨fun hS => by have := a.oS _ hS; have := a.p1 g hg; omega, (OwnN.lt a.a1 hg).1⟩), fun g hg => (grow_old (a.r.lt g hg)).trans (a.oS g hg), ow, own_at13 2 a.p1 hg (fun g h => (OwnN.lt a.a1 h).2), OwnU.keep a.a2 kk (fun g hg t => by have := hT g t; have := a.p2 g hg; omega), (fun g hg => (grow_old (OwnU.lt a.a2 hg).2).trans (a.p2 g hg)), OwnSv.keep a.a3 kk (fun g hg t => by have := hT g t; have := a.p3 g hg; omega), (fun g hg => (grow_old (OwnSv.lt a.a3 hg).2).trans (a.p3 g hg)), (fun i u hu => by rcases a.oo with e | ⟨e, _⟩; (rw [e] at hu; simp at hu); exact kk.cell (a.co i u hu) (fun t => by have : o ob = _ := hT _ t; omega)), (a.oo.imp_right (fun e => ⟨(grow_old e.2).trans e.1, Nat.lt_of_lt_of_le e.2 kk.size⟩))⟩
theorem All13.push2 (a : All13 W w o t S s v1 z1 v2 z2 v3 z3 ob cs) {g c : Nat} {y : Int} (ow : OwnU W.heap.size w' (.slice (some ⟨g, 0, none⟩) (z2.length + 1) c) (z2 ++ [y])) (kk : Keep (fun j => v2.ownBlock = some j) w w') (hg : v2.ownBlock = some g ∨ w.heap.size ≤ g) : All13 W w' (grow o w.heap.size 3) t S s v1 z1 (.slice (some ⟨g, 0, none⟩) (z2.length + 1) c) (z2 ++ [y]) v3 z3 ob cs := by
  have hT : ∀ g, v2.ownBlock = some g → o g = 3 := a.p2
  exact ⟨a.r.own kk (fun g hg => ⟨fun hS => by have := a.oS _ hS; have := a.p2 g hg; omega, (OwnU.lt a.a2 hg).1⟩), fun g hg => (grow_old (a.r.lt g hg)).trans (a.oS g hg), OwnN.keep a.a1 kk (fun g hg t => by have := hT g t; have := a.p1 g hg; omega), (fun g hg => (grow_old (OwnN.lt a.a1 hg).2).trans (a.p1 g hg)), ow, own_at13 3 a.p2 hg (fun g h => (OwnU.lt a.a2 h).2), OwnSv.keep a.a3 kk (fun g hg t => by have := hT g t; have := a.p3 g hg; omega), (fun g hg => (grow_old (OwnSv.lt a.a3 hg).2).trans (a.p3 g hg)), (fun i u hu => by rcases a.oo with e | ⟨e, _⟩; (rw [e] at hu; simp at hu); exact kk.cell (a.co i u hu) (fun t => by have : o ob = _ := hT _ t; omega)), (a.oo.imp_right (fun e => ⟨(grow_old e.2).trans e.1, Nat.lt_of_lt_of_le e.2 kk.size⟩))⟩
theorem All13.push3 (a : All13 W w o t S s v1 z1 v2 z2 v3 z3 ob cs) {g c : Nat} {y : ScV} (ow : OwnSv W.heap.size w' (.slice (some ⟨g, 0, none⟩) (z3.length + 1) c) (z3 ++ [y])) (kk : Keep (fun j => v3.ownBlock = some j) w w') (hg : v3.ownBlock = some g ∨ w.heap.size ≤ g) : All13 W w' (grow o w.heap.size 4) t S s v1 z1 v2 z2 (.slice (some ⟨g, 0, none⟩) (z3.length + 1) c) (z3 ++ [y]) ob cs := by
  have hT : ∀ g, v3.ownBlock = some g → o g = 4 := a.p3
  exact ⟨a.r.own kk (fun g hg => ⟨fun hS => by have := a.oS _ hS; have := a.p3 g hg; omega, (OwnSv.lt a.a3 hg).1⟩), fun g hg => (grow_old (a.r.lt g hg)).trans (a.oS g hg), OwnN.keep a.a1 kk (fun g hg t => by have := hT g t; have := a.p1 g hg; omega), (fun g hg => (grow_old (OwnN.lt a.a1 hg).2).trans (a.p1 g hg)), OwnU.keep a.a2 kk (fun g hg t => by have := hT g t; have := a.p2 g hg; omega), (fun g hg => (grow_old (OwnU.lt a.a2 hg).2).trans (a.p2 g hg)), ow, own_at13 4 a.p3 hg (fun g h => (OwnSv.lt a.a3 h).2), (fun i u hu => by rcases a.oo with e | ⟨e, _⟩; (rw [e] at hu; simp at hu); exact kk.cell (a.co i u hu) (fun t => by have : o ob = _ := hT _ t; omega)), (a.oo.imp_right (fun e => ⟨(grow_old e.2).trans e.1, Nat.lt_of_lt_of_le e.2 kk.size⟩))⟩
theorem All13.start (h : Rd W w t S s) : All13 W w (fun _ => 1) t S s (.slice none 0 0) [] (.slice none 0 0) [] (.slice none 0 0) [] 0 [] :=
  ⟨h, fun g hg => rfl, World.ownsRow_nil _ _ _ _, by simp [Value.ownBlock], World.ownsRow_nil _ _ _ _, by simp [Value.ownBlock], World.ownsRow_nil _ _ _ _, by simp [Value.ownBlock], fun i u hu => by simp at hu, .inl rfl⟩
end
/-- What the law's lists say of the set, k rounds on. -/
structure I13 (W : World) (s : RdS) (z1 z2 : List Int) (z3 : List ScV) (k : Nat) : Prop where
  e1 : z1 = s.keys
  e2 : z2 = s.links
  e3 : s.scans = z3.map ScV.sc
  l3 : ∀ x ∈ z3, Lies W x.v x.z ∧ x.z.length ≤ 100
  n1 : z1.length ≤ k
  n2 : z2.length = z1.length
  n3 : z3.length ≤ 64
  nd : z1.Nodup
theorem I13.start (W : World) : I13 W RdS.new [] [] [] 0 := ⟨rfl, rfl, rfl, fun x hx => by simp at hx, Nat.le_refl _, rfl, by simp, by simp⟩
theorem I13.up {W : World} {s : RdS} {z1 z2 : List Int} {z3 : List ScV} {k m : Nat} (h : I13 W s z1 z2 z3 k) (hk : k ≤ m) : I13 W s z1 z2 z3 m := ⟨h.e1, h.e2, h.e3, h.l3, Nat.le_trans h.n1 hk, h.n2, h.n3, h.nd⟩
theorem I13.key {W : World} {s : RdS} {z1 z2 : List Int} {z3 : List ScV} {k : Nat} (h : I13 W s z1 z2 z3 k) {x l : Int} (hn : x ∉ z1) : I13 W { s with keys := s.keys ++ [x], links := s.links ++ [l] } (z1 ++ [x]) (z2 ++ [l]) z3 (k + 1) :=
  ⟨by rw [h.e1], by rw [h.e2], h.e3, h.l3, by simp; have := h.n1; omega, by simp [h.n2], h.n3, by
    rw [List.nodup_append]
    exact ⟨h.nd, by simp, fun a ha b hb => by simp at hb; subst hb; exact fun e => hn (by rw [← e]; exact ha)⟩⟩
theorem I13.scan {W : World} {s : RdS} {z1 z2 : List Int} {z3 : List ScV} {k : Nat} (h : I13 W s z1 z2 z3 k) (x : ScV) (hx : Lies W x.v x.z ∧ x.z.length ≤ 100) (hl : z3.length < 64) : I13 W { s with scans := s.scans ++ [x.sc] } z1 z2 (z3 ++ [x]) (k + 1) :=
  ⟨h.e1, h.e2, by simp [h.e3], fun y hy => by
    rcases List.mem_append.1 hy with z | z
    · exact h.l3 y z
    · simp at z; subst z; exact hx, by have := h.n1; omega, h.n2, by simp; omega, h.nd⟩
end Go.Proofs.Ytafcmcpnmkmlbaa
