/- A slice of integers that came in: what its cells hold; no condition beyond the argument's own reading. -/
import Derived.Test.YtkkjofefjepodaaKeep
import Derived.ChangeOld
namespace Go.Proofs.Ytkkjofefjepodaa
open Go.ChangeShapes Go.WideShapes Go.ChangeAt Go.RowKit
set_option linter.unusedVariables false

/-- The slice at A of n elements reads as the numbers zs. -/
structure IsRow (k : IntKind) (w : World) (A : Option Addr) (n c : Nat) (zs : List Int) : Prop where
  len : zs.length = n
  cap : n ≤ c
  max : c ≤ 9223372036854775807
  cell : 0 < n → ∃ b off, A = some ⟨b, off, none⟩ ∧ b < w.heap.size ∧ ∀ j, j < n → w.cell? ⟨b, off + j, none⟩ = some (.int k (zs.getD j 0))
  wf : ∀ x ∈ zs, (Lit.int k x).wf = true
theorem is_row {H : Type} {enc : TypeId × Value → H} {P : Program} {w : World} {spare : Nat → Bool} {held : Bool} {t e : TypeId} {k : IntKind} {A : Option Addr} {n c : Nat} {d : DataW H} {ps : List MemPlace}
    (ht : P.underlying t = some (.slice e)) (he : P.underlying e = some (.int k)) (hc : P.cellsOf e = 1) (h : DataW.Trod enc P w 0 spare held t (.slice A n c) d ps) : ∃ zs, IsRow k w A n c zs := by
  obtain ⟨fuel, hf⟩ := h
  rcases open_ints ht he hc hf with ⟨h0, _⟩ | ⟨a, len, cap, zs, h0, _, hl, hm, hz, _, hcell, hwf⟩
  · simp [Value.cells] at h0
    obtain ⟨rfl, rfl, rfl⟩ := h0
    exact ⟨[], rfl, Nat.le_refl _, by omega, fun h => by omega, by simp⟩
  · simp [Value.cells] at h0
    obtain ⟨rfl, rfl, rfl⟩ := h0
    have hnl : n ≤ zs.length := by rw [hz]; split <;> omega
    refine ⟨zs.take n, by simp; omega, hl, by unfold maxLen at hm; omega, fun hp => ?_, fun x hx => hwf x (List.mem_of_mem_take hx)⟩
    obtain ⟨b, off, rfl, hb⟩ := ints_at hcell (by omega)
    refine ⟨b, off, rfl, lt_of_cell (hb 0 (by omega)), fun j hj => ?_⟩
    rw [hb j (by omega)]
    simp [List.getD_eq_getElem?_getD, hj]
/-- Every element fits 64 bits without a sign. -/
theorem IsRow.u64 {w : World} {A : Option Addr} {n c : Nat} {zs : List Int} (h : IsRow .u64 w A n c zs) (j : Nat) : 0 ≤ zs.getD j 0 ∧ zs.getD j 0 ≤ 18446744073709551615 := by
  have := range_u64 h.wf j
  rwa [List.getD_eq_getElem?_getD]

end Go.Proofs.Ytkkjofefjepodaa
