/- A slice that the call itself has made, of elements of several cells each: what it holds, element by element; kept where other blocks turn; behind a store. No dump; no condition. -/
import Derived.Test.YtalkfnblnlcklaaDoorOwn
namespace Go.Proofs.YtalkfnblnlcklaaDoor
open Go.ChangeShapes Go.WideShapes Go.ChangeAt Go.RowKit
set_option linter.unusedVariables false

/-- The slice value v is the call's own (or nil) and holds the elements zs, each of m cells, by f. -/
def OwnM {α : Type} (m : Nat) (f : α → List Value) (e : TypeId) (w : World) (v : Value) (zs : List α) : Prop := w.ownsRow 0 e m v zs.length (zs.flatMap f)
section
variable {α : Type} {m : Nat} {f : α → List Value} {e : TypeId} {w w' : World} {v : Value} {zs : List α}
theorem flat_len (hf : ∀ x, (f x).length = m) (zs : List α) : (zs.flatMap f).length = zs.length * m := by
  induction zs with
  | nil => simp
  | cons z zs ih => simp only [List.flatMap_cons, List.length_append, hf, ih, List.length_cons, Nat.succ_mul]; omega
theorem flat_get (hf : ∀ x, (f x).length = m) (zs : List α) (i j : Nat) (hi : i < zs.length) (hj : j < m) : (zs.flatMap f)[i * m + j]? = (f zs[i])[j]? := by
  induction zs generalizing i with
  | nil => simp at hi
  | cons z zs ih =>
    rw [List.flatMap_cons]
    cases i with
    | zero => rw [Nat.zero_mul, Nat.zero_add, List.getElem?_append_left (by rw [hf]; exact hj)]; rfl
    | succ i =>
      have e : (i + 1) * m + j = (f z).length + (i * m + j) := by rw [hf, Nat.succ_mul]; omega
      rw [e, List.getElem?_append_right (by omega), Nat.add_sub_cancel_left, ih i (by simpa using hi)]
      rfl
theorem flat_set (hf : ∀ x, (f x).length = m) (zs : List α) (i j : Nat) (hi : i < zs.length) (hj : j < m) (u : Value) (x : α) (hx : f x = (f zs[i]).set j u) : (zs.flatMap f).set (i * m + j) u = (zs.set i x).flatMap f := by
  induction zs generalizing i with
  | nil => simp at hi
  | cons z zs ih =>
    cases i with
    | zero =>
      rw [Nat.zero_mul, Nat.zero_add, List.set_cons_zero, List.flatMap_cons, List.flatMap_cons, hx, List.set_append_left _ _ (by rw [hf]; exact hj)]
      rfl
    | succ i =>
      have e : (i + 1) * m + j = (f z).length + (i * m + j) := by rw [hf, Nat.succ_mul]; omega
      rw [e, List.flatMap_cons, List.set_append_right _ _ (by omega), Nat.add_sub_cancel_left, List.set_cons_succ, List.flatMap_cons, ih i (by simpa using hi) hx]
theorem OwnM.form (h : OwnM m f e w v zs) : (v = .slice none 0 0 ∧ zs = []) ∨ ∃ g c, v = .slice (some ⟨g, 0, none⟩) zs.length c ∧ g < w.heap.size ∧ zs.length ≤ c ∧ c ≤ maxLen := by
  obtain ⟨h1, h2⟩ := id h
  rcases h2 with ⟨h3, h4⟩ | ⟨g, c, cur, hv, _, hh, hc, hm, _⟩
  · exact .inl ⟨h3, List.length_eq_zero_iff.1 h4⟩
  · exact .inr ⟨g, c, hv, lt_of_block hh, hc, hm⟩
theorem OwnM.lt (h : OwnM m f e w v zs) {g : Nat} (hg : v.ownBlock = some g) : g < w.heap.size := (World.ownsRow.lt h g hg).2
theorem OwnM.keep {S : Nat → Prop} (h : OwnM m f e w v zs) (k : Keep S w w') (hn : ∀ g, v.ownBlock = some g → ¬ S g) : OwnM m f e w' v zs := by
  obtain ⟨h1, h2⟩ := id h
  refine ⟨h1, ?_⟩
  rcases h2 with h2 | ⟨g, c, cur, hv, hg, hh, r⟩
  · exact .inl h2
  · subst hv
    exact .inr ⟨g, c, cur, rfl, hg, by rw [k.block g (lt_of_block hh) (hn g rfl)]; exact hh, r⟩
theorem OwnM.n {g n c : Nat} (h : OwnM m f e w (.slice (some ⟨g, 0, none⟩) n c) zs) : n = zs.length := by
  obtain ⟨h1, h2⟩ := id h
  rcases h2 with ⟨h2, _⟩ | ⟨g', c', cur, hv, _⟩
  · simp at h2
  · simp at hv; exact hv.2.1
theorem OwnM.cell {g n c : Nat} (hf : ∀ x, (f x).length = m) (h : OwnM m f e w (.slice (some ⟨g, 0, none⟩) n c) zs) (i j : Nat) (hi : i < zs.length) (hj : j < m) : w.cell? ⟨g, i * m + j, none⟩ = (f zs[i])[j]? := by
  obtain rfl := h.n
  rw [World.ownsRow.cellAt h (i * m + j) (by have := Nat.mul_le_mul_right m (show i + 1 ≤ zs.length from hi); rw [Nat.succ_mul] at this; omega)]
  exact flat_get hf zs i j hi hj
theorem OwnM.free {g n c : Nat} (h : OwnM m f e w (.slice (some ⟨g, 0, none⟩) n c) zs) (i : Nat) : w.frozen? ⟨g, i, none⟩ = false := by
  obtain rfl := h.n
  exact World.ownsRow.frozenAt h i
theorem OwnM.set {g n c : Nat} (hf : ∀ x, (f x).length = m) (h : OwnM m f e w (.slice (some ⟨g, 0, none⟩) n c) zs) (i j : Nat) (hi : i < zs.length) (hj : j < m) (u : Value) (x : α) (hx : f x = (f zs[i]).set j u) :
    OwnM m f e (w.setCell ⟨g, i * m + j, none⟩ u) (.slice (some ⟨g, 0, none⟩) n c) (zs.set i x) := by
  obtain rfl := h.n
  have := (World.ownsRow.stored h (i * m + j) u).1
  rw [flat_set hf zs i j hi hj u x hx] at this
  unfold OwnM
  rw [List.length_set]
  exact this
theorem OwnM.nil : OwnM m f e w (.slice none 0 0) ([] : List α) := World.ownsRow_nil _ _ _ _
theorem OwnM.of_base {base : Nat} {n : Nat} {xs : List Value} (h : w.ownsRow base e m v n xs) (hn : n = zs.length) (hx : xs = zs.flatMap f) : OwnM m f e w v zs := by
  subst hn; subst hx
  obtain ⟨h1, h2⟩ := h
  refine ⟨h1, ?_⟩
  rcases h2 with h2 | ⟨g, c, cur, hv, _, r⟩
  · exact .inl h2
  · exact .inr ⟨g, c, cur, hv, Nat.zero_le _, r⟩
end
end Go.Proofs.YtalkfnblnlcklaaDoor
