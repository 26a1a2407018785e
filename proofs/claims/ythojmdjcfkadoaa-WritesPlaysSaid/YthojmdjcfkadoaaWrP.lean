/- For the laws of layer 14: one or two sets of writes and a row of pairs of the law's own, side by side; what each call and append leaves as it was. No condition but those of the sets. -/
import Derived.Test.YthojmdjcfkadoaaWrD
namespace Go.Proofs.Ythojmdjcfkadoaa
open Go.ChangeShapes Go.WideShapes Go.ChangeAt Go.RowKit
set_option linter.unusedVariables false
section
variable {W w w' : World} {B a b : Nat} {Sa Sb Sa' Sb' S S' : Nat → Prop} {sa sb sa' sb' : List WrI} {v v' : Value} {l l' : List PrI}
/-- Behind a call of the set in S. -/
theorem sepP (o : OwnP B w v l) (d : ∀ g, v.ownBlock = some g → ¬ S g) (k : VKeep S S' w w') : OwnP B w' v l ∧ ∀ g, v.ownBlock = some g → ¬ S' g :=
  ⟨OwnP.keep o k.1 d, fun g hg x => by rcases k.2 g x with y | y; exact d g hg y; have := (OwnP.lt o hg).2; omega⟩
theorem sepP2 (o : OwnP B w v l) (d : ∀ g, v.ownBlock = some g → ¬ S g) (k : VKeep S S' w w') : ∀ g, v.ownBlock = some g → ¬ S' g := (sepP o d k).2
theorem own_p_lower {B' : Nat} (o : OwnP B' w v l) (hB : B ≤ B') : OwnP B w v l := by
  obtain ⟨h1, h2⟩ := o
  refine ⟨h1, ?_⟩
  rcases h2 with h2 | ⟨g, c, cur, hv, hg, r⟩
  · exact .inl h2
  · exact .inr ⟨g, c, cur, hv, Nat.le_trans hB hg, r⟩
theorem LiesP.keepAt {T : Nat → Prop} (h : LiesP w v l) (k : Keep T w w') (hn : ∀ b off c, v = .slice (some ⟨b, off, none⟩) l.length c → ¬ T b) : LiesP w' v l := by
  obtain ⟨A, c, rfl, hc, hz, hf⟩ := h
  refine ⟨A, c, rfl, hc, hz, fun h0 => ?_⟩
  obtain ⟨b, off, rfl, hb, he⟩ := hf h0
  exact ⟨b, off, rfl, Nat.lt_of_lt_of_le hb k.size, fun j p hp => ⟨k.cell (he j p hp).1 (hn b off c rfl), k.cell (he j p hp).2 (hn b off c rfl)⟩⟩
/-- A set and a row of pairs. -/
structure WP (W w : World) (a : Nat) (Sa : Nat → Prop) (sa : List WrI) (v : Value) (l : List PrI) : Prop where
  r : Wr W w a Sa sa
  o : OwnP W.heap.size w v l
  d : ∀ g, v.ownBlock = some g → ¬ Sa g
theorem WP.start (h : Wr W w a Sa sa) : WP W w a Sa sa (.slice none 0 0) [] := ⟨h, World.ownsRow_nil _ _ _ _, by simp [Value.ownBlock]⟩
theorem WP.step (h : WP W w a Sa sa v l) (hr : Wr W w' a Sa' sa') (k : VKeep Sa Sa' w w') : WP W w' a Sa' sa' v l := ⟨hr, (sepP h.o h.d k).1, (sepP h.o h.d k).2⟩
theorem WP.quiet (h : WP W w a Sa sa v l) (k : Keep (fun _ => False) w w') : WP W w' a Sa sa v l := ⟨h.r.quiet k, OwnP.keep h.o k (by simp), h.d⟩
theorem WP.push (h : WP W w a Sa sa v l) {g c : Nat} {y : PrI} (o : OwnP W.heap.size w' (.slice (some ⟨g, 0, none⟩) (l.length + 1) c) (l ++ [y])) (k : Keep (fun j => v.ownBlock = some j) w w') (hg : v.ownBlock = some g ∨ w.heap.size ≤ g) : WP W w' a Sa sa (.slice (some ⟨g, 0, none⟩) (l.length + 1) c) (l ++ [y]) := by
  refine ⟨h.r.own k (fun x hx => ⟨h.d x hx, (OwnP.lt h.o hx).1⟩), o, fun x hx y => ?_⟩
  have : g = x := by simpa [Value.ownBlock] using hx
  subst this
  rcases hg with z | z
  · exact h.d _ z y
  · have := h.r.lt _ y; omega
/-- Two sets. -/
structure W2 (W w : World) (a : Nat) (Sa : Nat → Prop) (sa : List WrI) (b : Nat) (Sb : Nat → Prop) (sb : List WrI) : Prop where
  ra : Wr W w a Sa sa
  rb : Wr W w b Sb sb
  d : ∀ g, Sa g → ¬ Sb g
theorem W2.stepA (h : W2 W w a Sa sa b Sb sb) (hr : Wr W w' a Sa' sa') (k : VKeep Sa Sa' w w') : W2 W w' a Sa' sa' b Sb sb :=
  ⟨hr, h.rb.own k.1 (fun g hg => ⟨h.d g hg, h.ra.g g hg⟩), fun g hg x => by rcases k.2 g hg with y | y; exact h.d g y x; have := h.rb.lt g x; omega⟩
theorem W2.swap (h : W2 W w a Sa sa b Sb sb) : W2 W w b Sb sb a Sa sa := ⟨h.rb, h.ra, fun g hb ha => h.d g ha hb⟩
theorem W2.quiet (h : W2 W w a Sa sa b Sb sb) (k : Keep (fun _ => False) w w') : W2 W w' a Sa sa b Sb sb := ⟨h.ra.quiet k, h.rb.quiet k, h.d⟩
theorem W2.below (h : W2 W w a Sa sa b Sb sb) : Below W.heap.size W w := h.ra.b
/-- Two sets and a row of pairs. -/
structure W2P (W w : World) (a : Nat) (Sa : Nat → Prop) (sa : List WrI) (b : Nat) (Sb : Nat → Prop) (sb : List WrI) (v : Value) (l : List PrI) : Prop where
  r : W2 W w a Sa sa b Sb sb
  o : OwnP W.heap.size w v l
  da : ∀ g, v.ownBlock = some g → ¬ Sa g
  db : ∀ g, v.ownBlock = some g → ¬ Sb g
theorem W2P.start (h : W2 W w a Sa sa b Sb sb) : W2P W w a Sa sa b Sb sb (.slice none 0 0) [] := ⟨h, World.ownsRow_nil _ _ _ _, by simp [Value.ownBlock], by simp [Value.ownBlock]⟩
theorem W2P.stepA (h : W2P W w a Sa sa b Sb sb v l) (hr : Wr W w' a Sa' sa') (k : VKeep Sa Sa' w w') : W2P W w' a Sa' sa' b Sb sb v l := ⟨h.r.stepA hr k, (sepP h.o h.da k).1, (sepP h.o h.da k).2, h.db⟩
theorem W2P.swap (h : W2P W w a Sa sa b Sb sb v l) : W2P W w b Sb sb a Sa sa v l := ⟨h.r.swap, h.o, h.db, h.da⟩
theorem W2P.quiet (h : W2P W w a Sa sa b Sb sb v l) (k : Keep (fun _ => False) w w') : W2P W w' a Sa sa b Sb sb v l := ⟨h.r.quiet k, OwnP.keep h.o k (by simp), h.da, h.db⟩
theorem W2P.push (h : W2P W w a Sa sa b Sb sb v l) {g c : Nat} {y : PrI} (o : OwnP W.heap.size w' (.slice (some ⟨g, 0, none⟩) (l.length + 1) c) (l ++ [y])) (k : Keep (fun j => v.ownBlock = some j) w w') (hg : v.ownBlock = some g ∨ w.heap.size ≤ g) : W2P W w' a Sa sa b Sb sb (.slice (some ⟨g, 0, none⟩) (l.length + 1) c) (l ++ [y]) := by
  have pa := WP.push ⟨h.r.ra, h.o, h.da⟩ o k hg
  have pb := WP.push ⟨h.r.rb, h.o, h.db⟩ o k hg
  exact ⟨⟨pa.r, pb.r, h.r.d⟩, pa.o, pa.d, pb.d⟩
end
end Go.Proofs.Ythojmdjcfkadoaa
