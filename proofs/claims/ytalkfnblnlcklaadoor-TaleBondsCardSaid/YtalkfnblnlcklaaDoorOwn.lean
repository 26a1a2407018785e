/- A slice that the call itself has made: what it holds, element by element; kept where other blocks turn; behind a store. No dump; no condition. -/
import Derived.Test.YtalkfnblnlcklaaDoorKeep
import Derived.OwnWalk
import Derived.OneCell
namespace Go.Proofs.YtalkfnblnlcklaaDoor
open Go.ChangeShapes Go.WideShapes Go.ChangeAt Go.RowKit
set_option linter.unusedVariables false

/-- The slice value v is the call's own (or nil) and holds the elements zs, each of one cell, by f; e is the element's type. -/
def Own {α : Type} (f : α → Value) (e : TypeId) (w : World) (v : Value) (zs : List α) : Prop := w.ownsRow 0 e 1 v zs.length (zs.map f)
section
variable {α : Type} {f : α → Value} {e : TypeId} {w w' : World} {v : Value} {zs : List α}
theorem Own.form (h : Own f e w v zs) : (v = .slice none 0 0 ∧ zs = []) ∨ ∃ g c, v = .slice (some ⟨g, 0, none⟩) zs.length c ∧ g < w.heap.size ∧ zs.length ≤ c ∧ c ≤ maxLen := by
  obtain ⟨h1, h2⟩ := id h
  rcases h2 with ⟨h3, h4⟩ | ⟨g, c, cur, hv, _, hh, hc, hm, _⟩
  · exact .inl ⟨h3, List.length_eq_zero_iff.1 h4⟩
  · exact .inr ⟨g, c, hv, lt_of_block hh, hc, hm⟩
theorem Own.lt (h : Own f e w v zs) {g : Nat} (hg : v.ownBlock = some g) : g < w.heap.size := (World.ownsRow.lt h g hg).2
theorem Own.keep {S : Nat → Prop} (h : Own f e w v zs) (k : Keep S w w') (hn : ∀ g, v.ownBlock = some g → ¬ S g) : Own f e w' v zs := by
  obtain ⟨h1, h2⟩ := id h
  refine ⟨h1, ?_⟩
  rcases h2 with h2 | ⟨g, c, cur, hv, hg, hh, r⟩
  · exact .inl h2
  · subst hv
    exact .inr ⟨g, c, cur, rfl, hg, by rw [k.block g (lt_of_block hh) (hn g rfl)]; exact hh, r⟩
theorem Own.cell {g n c : Nat} (h : Own f e w (.slice (some ⟨g, 0, none⟩) n c) zs) (i : Nat) (hi : i < zs.length) : w.cell? ⟨g, i, none⟩ = some (f zs[i]) := by
  have hn : n = zs.length := by
    obtain ⟨h1, h2⟩ := id h
    rcases h2 with ⟨h2, _⟩ | ⟨g', c', cur, hv, _⟩
    · simp at h2
    · simp at hv; exact hv.2.1
  subst hn
  rw [World.ownsRow.cellAt h i (by omega)]
  simp [hi]
theorem Own.free {g n c : Nat} (h : Own f e w (.slice (some ⟨g, 0, none⟩) n c) zs) (i : Nat) : w.frozen? ⟨g, i, none⟩ = false := by
  have hn : n = zs.length := by
    obtain ⟨h1, h2⟩ := id h
    rcases h2 with ⟨h2, _⟩ | ⟨g', c', cur, hv, _⟩
    · simp at h2
    · simp at hv; exact hv.2.1
  subst hn
  exact World.ownsRow.frozenAt h i
theorem Own.set {g n c : Nat} (h : Own f e w (.slice (some ⟨g, 0, none⟩) n c) zs) (i : Nat) (x : α) : Own f e (w.setCell ⟨g, i, none⟩ (f x)) (.slice (some ⟨g, 0, none⟩) n c) (zs.set i x) := by
  have hn : n = zs.length := by
    obtain ⟨h1, h2⟩ := id h
    rcases h2 with ⟨h2, _⟩ | ⟨g', c', cur, hv, _⟩
    · simp at h2
    · simp at hv; exact hv.2.1
  subst hn
  have := World.ownsRow.stored h i (f x)
  unfold Own
  rw [List.length_set, List.map_set]
  exact this.1
theorem Own.nil : Own f e w (.slice none 0 0) ([] : List α) := World.ownsRow_nil _ _ _ _
theorem Own.of_base {base : Nat} {n : Nat} {xs : List Value} (h : w.ownsRow base e 1 v n xs) (hn : n = zs.length) (hx : xs = zs.map f) : Own f e w v zs := by
  subst hn; subst hx
  obtain ⟨h1, h2⟩ := h
  refine ⟨h1, ?_⟩
  rcases h2 with h2 | ⟨g, c, cur, hv, _, r⟩
  · exact .inl h2
  · exact .inr ⟨g, c, cur, hv, Nat.zero_le _, r⟩
/-- A slice of the call's own that is not nil, written out. -/
theorem own_some {base n : Nat} {xs : List Value} (h : w.ownsRow base e 1 v n xs) (hne : v ≠ .slice none 0 0) : ∃ g c, v = .slice (some ⟨g, 0, none⟩) n c ∧ base ≤ g ∧ g < w.heap.size := by
  obtain ⟨_, h2⟩ := h
  rcases h2 with ⟨h2, _⟩ | ⟨g, c, cur, hv, hb, hh, _⟩
  · exact absurd h2 hne
  · exact ⟨g, c, hv, hb, lt_of_block hh⟩
end
/-- Behind a law that ends in 'grownBy': what is written is new. -/
theorem keep_new {w w1 w' : World} {row : Option Nat} (b : Below w.heap.size w w1) (hg : w1.grownBy w' row) (hr : ∀ k, row = some k → w.heap.size ≤ k) : Below w.heap.size w w' := b.grown hg b.size hr
theorem Keep.grown {S : Nat → Prop} {w w1 w' : World} {row : Option Nat} (k : Keep S w w1) (hg : w1.grownBy w' row) (hr : ∀ j, row = some j → w.heap.size ≤ j) : Keep S w w' :=
  ⟨hg.os.trans k.os, hg.tape.trans k.tape, hg.output.trans k.output, Nat.le_trans k.size hg.size, fun j hj hn => (hg.block j (Nat.lt_of_lt_of_le hj k.size) (fun e => by have := hr j e.symm; omega)).trans (k.block j hj hn)⟩
end Go.Proofs.YtalkfnblnlcklaaDoor
