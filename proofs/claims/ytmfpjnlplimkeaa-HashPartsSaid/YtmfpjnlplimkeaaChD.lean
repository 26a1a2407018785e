/- A Chain over a Store, as layer 9's statements walk with it: the contracts of package chain, and of the statements' helpers Made and awake; condition: lists of 64 links at most. -/
import Derived.Test.YtmfpjnlplimkeaaRecO
import Derived.Test.YtmfpjnlplimkeaaSame
import Derived.Test.YtmfpjnlplimkeaaChK
namespace Go.Proofs.Ytmfpjnlplimkeaa
open Go.ChangeShapes Go.WideShapes Go.ChangeAt Go.RowKit
set_option linter.unusedVariables false

/-- The blocks of a Chain, of its Store and of its Arena. -/
def CFoot (SV : Nat → Prop) (pa qa q : Nat) (j : Nat) : Prop := SV j ∨ Two pa qa j ∨ j = q
/-- Since W a Store p and a Chain q over it have been made, in new blocks; the Store is in state s, the Chain holds l; at most 64 k looks were had; nothing of W has turned. -/
structure Chn (W w : World) (p q : Nat) (S : Nat → Prop) (s : RS) (l : List Int) (k : Nat) : Prop where
  core : ∃ pa qa zs SV C at', CG w p SV s pa qa zs C q at' ∧ zs.getD at' 0 = l.headD 0 ∧ C ≤ 64 * (k : Int) ∧ ∀ j, S j ↔ CFoot SV pa qa q j
  c : s.c ≤ 64 * (k : Int)
  ok : ROk s
  ln : Linked s l
  g : ∀ k, S k → W.heap.size ≤ k
  lt : ∀ k, S k → k < w.heap.size
  b : Below W.heap.size W w
section
variable {W w w' : World} {p q : Nat} {S S' : Nat → Prop} {s s' : RS} {l l' : List Int} {k k' : Nat}
theorem Chn.up (h : Chn W w p q S s l k) {n : Nat} (hk : k ≤ n) : Chn W w p q S s l n := by
  obtain ⟨pa, qa, zs, SV, C, a, h1, h2, h3, h4⟩ := h.core
  exact ⟨⟨pa, qa, zs, SV, C, a, h1, h2, by omega, h4⟩, by have := h.c; omega, h.ok, h.ln, h.g, h.lt, h.b⟩
theorem Chn.own (h : Chn W w p q S s l k) {T : Nat → Prop} (kk : Keep T w w') (hT : ∀ g, T g → ¬ S g ∧ W.heap.size ≤ g) : Chn W w' p q S s l k := by
  obtain ⟨pa, qa, zs, SV, C, a, h1, h2, h3, h4⟩ := h.core
  exact ⟨⟨pa, qa, zs, SV, C, a, h1.keep kk (fun g hg x => (hT g x).1 ((h4 g).2 (.inl hg))) (fun x => (hT _ x).1 ((h4 _).2 (.inr (.inl (.inl rfl))))) (fun x => (hT _ x).1 ((h4 _).2 (.inr (.inl (.inr rfl))))) (fun x => (hT _ x).1 ((h4 _).2 (.inr (.inr rfl)))), h2, h3, h4⟩, h.c, h.ok, h.ln, h.g, fun x hx => Nat.lt_of_lt_of_le (h.lt x hx) kk.size, h.b.trans (kk.below h.b.size (fun g hg => (hT g hg).2))⟩
theorem Chn.quiet (h : Chn W w p q S s l k) (kk : Keep (fun _ => False) w w') : Chn W w' p q S s l k := h.own kk (fun g hg => hg.elim)
/-- Behind a call. -/
theorem Chn.turn_at (h : Chn W w p q S s l k) {pa qa a : Nat} {zs' : List Int} {SV SV' : Nat → Prop} {C' : Int} (hS : ∀ j, S j ↔ CFoot SV pa qa q j) (h1 : CG w' p SV' s' pa qa zs' C' q a) (t : Turn pa qa SV SV' w w') (hz : zs'.getD a 0 = l'.headD 0) (hC : C' ≤ 64 * (k' : Int)) (hc : s'.c ≤ 64 * (k' : Int)) (ln : Linked s' l') :
    Chn W w' p q (CFoot SV' pa qa q) s' l' k' ∧ VKeep S (CFoot SV' pa qa q) w w' := by
  have kk : Keep S w w' := t.k.mono (fun j hj => (hS j).2 (by rcases hj with x | x; exact .inl x; exact .inr (.inl x)))
  have hg : ∀ j, CFoot SV' pa qa q j → S j ∨ w.heap.size ≤ j := fun j hj => by
    rcases hj with x | x | x
    · rcases t.g j x with y | y
      · exact .inl ((hS j).2 (.inl y))
      · exact .inr y
    · exact .inl ((hS j).2 (.inr (.inl x)))
    · exact .inl ((hS j).2 (.inr (.inr x)))
  have bs := h.b.size
  refine ⟨⟨⟨pa, qa, zs', SV', C', a, h1, hz, hC, fun j => Iff.rfl⟩, hc, h1.ok, ln, fun j hj => ?_, fun j hj => ?_, h.b.trans (kk.below bs h.g)⟩, kk, hg⟩
  · rcases hg j hj with y | y
    · exact h.g j y
    · omega
  · rcases hj with x | (x | x) | x
    · exact h1.hv.lt j x
    · rw [x]; exact h1.la.1
    · rw [x]; exact h1.la.2.1
    · rw [x]; exact h1.la.2.2
theorem Chn.turn (h : Chn W w p q S s l k) {pa qa a : Nat} {zs' : List Int} {SV SV' : Nat → Prop} {C' : Int} (hS : ∀ j, S j ↔ CFoot SV pa qa q j) (h1 : CG w' p SV' s' pa qa zs' C' q a) (t : Turn pa qa SV SV' w w') (hz : zs'.getD a 0 = l'.headD 0) (hC : C' ≤ 64 * (k' : Int)) (hc : s'.c ≤ 64 * (k' : Int)) (ln : Linked s' l') :
    ∃ S', Chn W w' p q S' s' l' k' ∧ VKeep S S' w w' := ⟨_, h.turn_at hS h1 t hz hC hc ln⟩
theorem more_c (s : RS) (n : Nat) : (s.more n).c = s.c + 64 * (n : Int) := rfl
end
/-- A Chain, and blocks V of the law's own, which no call turns. -/
structure ChV (W w : World) (p q : Nat) (S : Nat → Prop) (s : RS) (l : List Int) (k : Nat) (V : Nat → Prop) : Prop where
  r : Chn W w p q S s l k
  v : ∀ g, V g → ¬ S g ∧ g < w.heap.size
section
variable {W w w' : World} {p q : Nat} {S S' : Nat → Prop} {s s' : RS} {l l' : List Int} {k k' : Nat} {V : Nat → Prop}
theorem ChV.step (h : ChV W w p q S s l k V) (hr : Chn W w' p q S' s' l' k') (kk : VKeep S S' w w') : ChV W w' p q S' s' l' k' V ∧ VSame V w w' :=
  ⟨⟨hr, fun g hg => ⟨fun x => by rcases kk.2 g x with y | y; exact (h.v g hg).1 y; have := (h.v g hg).2; omega, Nat.lt_of_lt_of_le (h.v g hg).2 kk.1.size⟩⟩, fun g hg => kk.1.block g (h.v g hg).2 (h.v g hg).1⟩
end
/-- A Chain and a list of words of the law's own. -/
structure ChU (W w : World) (p q : Nat) (S : Nat → Prop) (s : RS) (l : List Int) (k : Nat) (v : Value) (zs : List Int) : Prop where
  r : Chn W w p q S s l k
  ow : OwnU W.heap.size w v zs
  dv : ∀ g, v.ownBlock = some g → ¬ S g
section
variable {W w w' : World} {p q : Nat} {S S' : Nat → Prop} {s s' : RS} {l l' : List Int} {k k' : Nat} {v v' : Value} {zs zs' : List Int}
theorem ChU.start (h : Chn W w p q S s l k) : ChU W w p q S s l k (.slice none 0 0) [] := ⟨h, World.ownsRow_nil _ _ _ _, by simp [Value.ownBlock]⟩
theorem ChU.step (h : ChU W w p q S s l k v zs) (hr : Chn W w' p q S' s' l' k') (kk : VKeep S S' w w') : ChU W w' p q S' s' l' k' v zs :=
  ⟨hr, OwnU.keep h.ow kk.1 h.dv, fun g hg x => by rcases kk.2 g x with y | y; exact h.dv g hg y; have := (OwnU.lt h.ow hg).2; omega⟩
theorem ChU.quiet (h : ChU W w p q S s l k v zs) (kk : Keep (fun _ => False) w w') : ChU W w' p q S s l k v zs := ⟨h.r.quiet kk, OwnU.keep h.ow kk (by simp), h.dv⟩
/-- The list is made anew, or goes on: what has turned is its own block alone, and new ones. -/
theorem ChU.anew (h : ChU W w p q S s l k v zs) {T : Nat → Prop} (o : OwnU W.heap.size w' v' zs') (kk : Keep T w w') (hT : ∀ g, T g → v.ownBlock = some g ∨ w.heap.size ≤ g) (hv : ∀ g, v'.ownBlock = some g → v.ownBlock = some g ∨ w.heap.size ≤ g) : ChU W w' p q S s l k v' zs' :=
  ⟨h.r.own kk (fun g hg => by
    rcases hT g hg with y | y
    · exact ⟨h.dv g y, (OwnU.lt h.ow y).1⟩
    · exact ⟨fun x => by have := h.r.lt g x; omega, Nat.le_trans h.r.b.size y⟩), o, fun g hg x => by
    rcases hv g hg with y | y
    · exact h.dv g y x
    · have := h.r.lt g x; omega⟩
theorem ChU.up (h : ChU W w p q S s l k v zs) {n : Nat} (hk : k ≤ n) : ChU W w p q S s l n v zs := ⟨h.r.up hk, h.ow, h.dv⟩
end
theorem Fill.same {s s' : RS} {n k : Nat} (h : Fill s n k) (e : s'.s = s.s) : Fill s' n k := ⟨by rw [e]; exact h.gv, by rw [e]; exact h.fr, by rw [e]; exact h.tg, fun j hj => by rw [e]; exact h.tk j hj, by rw [e]; exact h.ct⟩
end Go.Proofs.Ytmfpjnlplimkeaa
