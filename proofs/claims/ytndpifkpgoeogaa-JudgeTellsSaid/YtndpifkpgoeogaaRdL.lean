/- A slice of words that lies somewhere; a row of ranges that a call has told, each with a list of links of its own. No dump's own numbers but types; no condition. -/
import Derived.Test.YtndpifkpgoeogaaRdI
import Derived.Test.YtndpifkpgoeogaaPush
import Derived.Test.YtndpifkpgoeogaaPushN
namespace Go.Proofs.Ytndpifkpgoeogaa
open Go.ChangeShapes Go.WideShapes Go.ChangeAt Go.RowKit
set_option linter.unusedVariables false

/-- The slice value v reads as the words zs. -/
def Lies (w : World) (v : Value) (zs : List Int) : Prop := ∃ A c, v = .slice A zs.length c ∧ zs.length ≤ c ∧ (0 < zs.length → ∃ b off, A = some ⟨b, off, none⟩ ∧ b < w.heap.size ∧ ∀ j, j < zs.length → w.cell? ⟨b, off + j, none⟩ = some (.int .u64 (zs.getD j 0)))
/-- A row of ranges that a call has told: element by element, each with a list of links of its own; T: its blocks, all from B on. -/
structure OwnSc (B : Nat) (w : World) (v : Value) (cs : List ScI) (T : Nat → Prop) : Prop where
  form : ∃ A c, v = .slice A cs.length c ∧ cs.length ≤ c ∧ (0 < cs.length → ∃ g, A = some ⟨g, 0, none⟩ ∧ T g ∧ (∀ j, w.frozen? ⟨g, j, none⟩ = false) ∧
    ∀ i x, cs[i]? = some x → w.cell? ⟨g, i * 3, none⟩ = some (.int .i64 x.lo) ∧ w.cell? ⟨g, i * 3 + 1, none⟩ = some (.int .i64 x.hi) ∧ ∃ u, w.cell? ⟨g, i * 3 + 2, none⟩ = some u ∧ OwnU B w u x.z ∧ ∀ b, u.ownBlock = some b → T b ∧ b ≠ g)
  t0 : ∀ j, T j → B ≤ j
  t1 : ∀ j, T j → j < w.heap.size
section
variable {W w w' : World} {T : Nat → Prop}
theorem OwnSc.keep {B : Nat} {v : Value} {cs : List ScI} (h : OwnSc B w v cs T) {X : Nat → Prop} (k : Keep X w w') (hn : ∀ j, T j → ¬ X j) : OwnSc B w' v cs T := by
  obtain ⟨⟨A, c, hv, hc, hf⟩, t0, t1⟩ := h
  refine ⟨⟨A, c, hv, hc, fun h0 => ?_⟩, t0, fun j hj => Nat.lt_of_lt_of_le (t1 j hj) k.size⟩
  obtain ⟨g, hA, hg, hz, he⟩ := hf h0
  refine ⟨g, hA, hg, fun j => (k.frozen (a := ⟨g, j, none⟩) (t1 g hg) (hn g hg)).trans (hz j), fun i x hx => ?_⟩
  obtain ⟨h1, h2, u, h3, h4, h5⟩ := he i x hx
  exact ⟨k.cell h1 (hn g hg), k.cell h2 (hn g hg), u, k.cell h3 (hn g hg), OwnU.keep h4 k (fun b hb => hn b (h5 b hb).1), h5⟩
theorem Lies.keep {v : Value} {zs : List Int} (h : Lies w v zs) {X : Nat → Prop} (k : Keep X w w') (hn : ∀ g, v.ownBlock = some g → ¬ X g) (hs : ∀ b off, 0 < zs.length → (∃ c, v = .slice (some ⟨b, off, none⟩) zs.length c) → ¬ X b) : Lies w' v zs := by
  obtain ⟨A, c, hv, hc, hf⟩ := h
  refine ⟨A, c, hv, hc, fun h0 => ?_⟩
  obtain ⟨b, off, hA, hb, he⟩ := hf h0
  exact ⟨b, off, hA, Nat.lt_of_lt_of_le hb k.size, fun j hj => k.cell (he j hj) (hs b off h0 ⟨c, by rw [hv, hA]⟩)⟩
theorem Lies.nil (w : World) : Lies w (.slice none 0 0) [] := ⟨none, 0, rfl, Nat.le_refl _, fun h => absurd h (Nat.lt_irrefl _)⟩
theorem Lies.below (h : Below W.heap.size W w) {v : Value} {zs : List Int} (l : Lies W v zs) : Lies w v zs := by
  obtain ⟨A, c, hv, hc, hf⟩ := l
  refine ⟨A, c, hv, hc, fun h0 => ?_⟩
  obtain ⟨b, off, hA, hb, he⟩ := hf h0
  exact ⟨b, off, hA, Nat.lt_of_lt_of_le hb h.size, fun j hj => (h.cell (p := ⟨b, off + j, none⟩) hb).trans (he j hj)⟩
theorem OwnU.lies {B : Nat} {v : Value} {zs : List Int} (o : OwnU B w v zs) : Lies w v zs := by
  obtain ⟨h1, h2⟩ := id o
  rcases h2 with ⟨h3, h4⟩ | ⟨g, c, cur, hv, hB, hh, hc, _⟩
  · have : zs = [] := List.length_eq_zero_iff.1 h4
    subst this
    rw [h3]
    exact Lies.nil w
  · subst hv
    exact ⟨_, c, rfl, hc, fun _ => ⟨g, 0, rfl, lt_of_block hh, fun j hj => by rw [Nat.zero_add]; exact OwnU.cell o j hj⟩⟩
end
end Go.Proofs.Ytndpifkpgoeogaa
