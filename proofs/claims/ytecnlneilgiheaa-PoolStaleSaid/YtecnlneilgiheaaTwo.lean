/- A Pool of the package and two lists of words of the call's own: what each call leaves as it was. -/
import Derived.Test.YtecnlneilgiheaaPoolL
import Derived.Test.YtecnlneilgiheaaPush
namespace Go.Proofs.Ytecnlneilgiheaa
open Go.ChangeShapes Go.WideShapes Go.ChangeAt Go.RowKit
set_option linter.unusedVariables false

structure Two (W w : World) (p : Nat) (S : Nat → Prop) (s : St) (v1 : Value) (z1 : List Int) (v2 : Value) (z2 : List Int) : Prop where
  hp : PoolAt w p S s
  o1 : OwnU W.heap.size w v1 z1
  o2 : OwnU W.heap.size w v2 z2
  gS : ∀ k, S k → W.heap.size ≤ k
  d1 : ∀ g, v1.ownBlock = some g → ¬ S g
  d2 : ∀ g, v2.ownBlock = some g → ¬ S g
  d12 : ∀ g, v1.ownBlock = some g → v2.ownBlock ≠ some g
  bl : Below W.heap.size W w
section
variable {W w w' : World} {p : Nat} {S S' : Nat → Prop} {s s' : St} {v1 v2 : Value} {z1 z2 : List Int}
theorem Two.start (hp : PoolAt w p S s) (gS : ∀ k, S k → W.heap.size ≤ k) (bl : Below W.heap.size W w) : Two W w p S s (.slice none 0 0) [] (.slice none 0 0) [] :=
  ⟨hp, World.ownsRow_nil _ _ _ _, World.ownsRow_nil _ _ _ _, gS, by simp [Value.ownBlock], by simp [Value.ownBlock], by simp [Value.ownBlock], bl⟩
theorem Two.pstep (h : Two W w p S s v1 z1 v2 z2) (hp : PoolAt w' p S' s') (k : Keep S w w') (g : ∀ k, S' k → S k ∨ w.heap.size ≤ k) : Two W w' p S' s' v1 z1 v2 z2 := by
  have bs := h.bl.size
  exact ⟨hp, h.o1.keep k h.d1, h.o2.keep k h.d2, fun x hx => by rcases g x hx with y | y; exact h.gS x y; omega,
    fun x hx y => by rcases g x y with z | z; exact h.d1 x hx z; have := h.o1.lt hx; omega,
    fun x hx y => by rcases g x y with z | z; exact h.d2 x hx z; have := h.o2.lt hx; omega, h.d12, h.bl.trans (k.below bs h.gS)⟩
theorem Two.quiet (h : Two W w p S s v1 z1 v2 z2) (k : Keep (fun _ => False) w w') : Two W w' p S s v1 z1 v2 z2 :=
  ⟨h.hp.keep k (by simp), h.o1.keep k (by simp), h.o2.keep k (by simp), h.gS, h.d1, h.d2, h.d12, h.bl.trans (k.below h.bl.size (by simp))⟩
theorem Two.swap (h : Two W w p S s v1 z1 v2 z2) : Two W w p S s v2 z2 v1 z1 := ⟨h.hp, h.o2, h.o1, h.gS, h.d2, h.d1, fun g a b => h.d12 g b a, h.bl⟩
theorem Two.push (h : Two W w p S s v1 z1 v2 z2) {g c : Nat} {l : Int} (o : OwnU W.heap.size w' (.slice (some ⟨g, 0, none⟩) (z1.length + 1) c) (z1 ++ [l])) (k : Keep (fun j => v1.ownBlock = some j) w w') (hg : v1.ownBlock = some g ∨ w.heap.size ≤ g) : Two W w' p S s (.slice (some ⟨g, 0, none⟩) (z1.length + 1) c) (z1 ++ [l]) v2 z2 := by
  have bs := h.bl.size
  refine ⟨h.hp.keep k (fun x hx y => h.d1 x y hx), o, h.o2.keep k (fun x hx y => h.d12 x y hx), h.gS, fun x hx y => ?_, h.d2, fun x hx y => ?_, h.bl.trans (k.below bs (fun x hx => (h.o1.lt hx).1))⟩
  · cases hx
    rcases hg with z | z
    · exact h.d1 _ z y
    · have : g < w.heap.size := h.hp.lt _ y
      omega
  · cases hx
    rcases hg with z | z
    · exact h.d12 _ z y
    · have := (h.o2.lt y).2
      have : g < w.heap.size := this
      omega
/-- The first list is one anew. -/
theorem Two.anew (h : Two W w p S s v1 z1 v2 z2) {v : Value} {z : List Int} (o : OwnU W.heap.size w' v z) (k : Keep (fun _ => False) w w') (hg : ∀ g, v.ownBlock = some g → w.heap.size ≤ g) : Two W w' p S s v z v2 z2 := by
  have q := h.quiet k
  exact ⟨q.hp, o, q.o2, q.gS, fun x hx y => by have := h.hp.lt _ y; have := hg x hx; omega, q.d2, fun x hx y => by have := (h.o2.lt y).2; have := hg x hx; omega, q.bl⟩
end
/-- A slice of the call's own, written out but for where it lies. -/
theorem OwnU.openUp {B : Nat} {w : World} {v : Value} {zs : List Int} (h : OwnU B w v zs) : ∃ A c, v = .slice A zs.length c ∧ (A = none → zs = []) ∧ ∀ ad, A = some ad → ∃ g, ad = ⟨g, 0, none⟩ := by
  obtain ⟨h1, h2⟩ := id h
  rcases h2 with ⟨h3, h4⟩ | ⟨g, c, cur, hv, _⟩
  · exact ⟨none, 0, by rw [h4]; exact h3, fun _ => List.length_eq_zero_iff.1 h4, fun ad h => by cases h⟩
  · exact ⟨some ⟨g, 0, none⟩, c, hv, fun h => (by cases h), fun ad h => by cases h; exact ⟨g, rfl⟩⟩
end Go.Proofs.Ytecnlneilgiheaa
