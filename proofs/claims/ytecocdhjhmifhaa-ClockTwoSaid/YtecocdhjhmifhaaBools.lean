/- A slice of bools that came in: what its cells hold; no condition beyond the argument's own reading. -/
import Derived.Test.YtecocdhjhmifhaaKeep
import Derived.Deep.Grids
import Derived.ChangeOld
namespace Go.Proofs.Ytecocdhjhmifhaa
open Go.ChangeShapes Go.WideShapes Go.ChangeAt Go.RowKit
set_option linter.unusedVariables false

structure IsBools (w : World) (A : Option Addr) (n c : Nat) (f : Nat → Bool) : Prop where
  cap : n ≤ c
  max : c ≤ 9223372036854775807
  cell : 0 < n → ∃ b off, A = some ⟨b, off, none⟩ ∧ b < w.heap.size ∧ ∀ j, j < n → w.cell? ⟨b, off + j, none⟩ = some (.bool (f j))
theorem is_bools {H : Type} {enc : TypeId × Value → H} {P : Program} {w : World} {held : Bool} {t e : TypeId} {A : Option Addr} {n c : Nat} {d : DataW H} {ps : List MemPlace}
    (ht : P.underlying t = some (.slice e)) (he : P.underlying e = some .bool) (hc : P.cellsOf e = 1) (h : DataW.Trod enc P w 0 (fun _ => true) held t (.slice A n c) d ps) : ∃ f, IsBools w A n c f := by
  obtain ⟨fuel, hf⟩ := h
  rcases Go.Deep.open_bools ht he hc hf with ⟨h0, _⟩ | ⟨a, len, cap, B, h0, _, hl, hm, _, hcell⟩
  · simp [Value.cells] at h0
    obtain ⟨rfl, rfl, rfl⟩ := h0
    exact ⟨fun _ => false, Nat.le_refl _, by omega, fun h => by omega⟩
  · simp [Value.cells] at h0
    obtain ⟨rfl, rfl, rfl⟩ := h0
    refine ⟨B, hl, by unfold maxLen at hm; omega, fun hp => ?_⟩
    obtain ⟨b, off, spot⟩ := a
    have hspot : spot = none := by simpa [Addr.add] using World.cell?_spot (hcell 0 (by omega))
    subst hspot
    have hb : ∀ j, j < n → w.cell? ⟨b, off + j, none⟩ = some (.bool (B j)) := fun j hj => by
      have := hcell j (by omega)
      by_cases h0 : j = 0
      · subst h0; simpa [Addr.add] using this
      · simpa [Addr.add, h0] using this
    exact ⟨b, off, rfl, lt_of_cell (hb 0 hp), hb⟩
theorem is_bools_here {H : Type} {enc : TypeId × Value → H} {w : World} {held : Bool} {A : Option Addr} {n c : Nat} {d : DataW H} {ps : List MemPlace}
    (h : DataW.Trod enc Try.prog w 0 (fun _ => true) held 38 (.slice A n c) d ps) : ∃ f, IsBools w A n c f :=
  is_bools Try.underlying38 Try.underlying4 (by kernel_rfl) h
end Go.Proofs.Ytecocdhjhmifhaa
