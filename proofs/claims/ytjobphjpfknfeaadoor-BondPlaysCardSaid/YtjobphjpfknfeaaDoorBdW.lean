/- The laws' own arrays: who is bound to whom ([32][32]bool), whom it hits ([32]bool); a slice of ints that came in, read later. No dump; no condition. -/
import Derived.Test.YtjobphjpfknfeaaDoorBnT
import Derived.Test.YtjobphjpfknfeaaDoorBdV
import Derived.Test.YtjobphjpfknfeaaDoorBdD
import Derived.Test.YtjobphjpfknfeaaDoorRow
namespace Go.Proofs.YtjobphjpfknfeaaDoor
open Go.ChangeShapes Go.WideShapes Go.ChangeAt Go.RowKit
set_option linter.unusedVariables false
open Classical

noncomputable def yes (P : Prop) : Bool := if P then true else false
theorem yes_iff {P : Prop} : yes P = true ↔ P := by unfold yes; by_cases h : P <;> simp [h]
theorem yes_of {P : Prop} (h : P) : yes P = true := yes_iff.2 h
theorem yes_not {P : Prop} (h : ¬ P) : yes P = false := by unfold yes; rw [if_neg h]
theorem yes_congr {P R : Prop} (h : P ↔ R) : yes P = yes R := by rw [propext h]

/-- Block B holds n bools. -/
structure BitsN (n : Nat) (w : World) (B : Nat) (f : Nat → Bool) : Prop where
  cell : ∀ j, j < n → w.cell? ⟨B, j, none⟩ = some (.bool (f j))
  free : ∀ j, w.frozen? ⟨B, j, none⟩ = false
  lt : B < w.heap.size
section
variable {n : Nat} {w w' : World} {B : Nat} {f g : Nat → Bool}
theorem BitsN.keep {S : Nat → Prop} (h : BitsN n w B f) (k : Keep S w w') (hn : ¬ S B) : BitsN n w' B f :=
  ⟨fun j hj => k.cell (h.cell j hj) hn, fun j => (k.frozen (a := ⟨B, j, none⟩) h.lt hn).trans (h.free j), Nat.lt_of_lt_of_le h.lt k.size⟩
theorem BitsN.set (h : BitsN n w B f) (i : Nat) (hi : i < n) (x : Bool) (hg : ∀ j, j < n → g j = if j = i then x else f j) : BitsN n (w.setCell ⟨B, i, none⟩ (.bool x)) B g := by
  refine ⟨fun j hj => ?_, fun j => by simpa using h.free j, by simpa [World.setCell] using h.lt⟩
  rw [hg j hj]
  by_cases e : i = j
  · subst e
    rw [World.cell?_setCell_same _ _ _ (h.cell i hi), if_pos rfl]
  · rw [World.cell?_setCell_other _ _ _ _ (by simp <;> omega), h.cell j hj, if_neg (Ne.symm e)]
theorem BitsN.as (h : BitsN n w B f) (hg : ∀ j, j < n → g j = f j) : BitsN n w B g := ⟨fun j hj => by rw [hg j hj]; exact h.cell j hj, h.free, h.lt⟩
theorem bitsN_new (n : Nat) (w : World) (T : TypeId) (hg : ∀ j, j < n → g j = false) : BitsN n (w.alloc (.cells (Array.replicate n (.bool false)) T)) w.heap.size g := by
  refine ⟨fun j hj => ?_, fun j => by simp, by simp⟩
  have : (Array.replicate n (Value.bool false))[j]? = some (.bool false) := by rw [Array.getElem?_replicate, if_pos hj]
  rw [hg j hj]
  simpa using this
theorem keep_set (w : World) (B i : Nat) (v : Value) : Keep (fun j => j = B) w (w.setCell ⟨B, i, none⟩ v) := (Keep.refl _ _).setCell (S := fun j => j = B) rfl _
end
/-- Who is bound to whom. -/
def Need (w : World) (B : Nat) (E : List (Int × Int)) : Prop := BitsN 1024 w B (fun j => yes ((((j / 32 : Nat) : Int), ((j % 32 : Nat) : Int)) ∈ E))
section
variable {w w' : World} {B x y : Nat} {E E' : List (Int × Int)}
theorem Need.cell (h : Need w B E) (hx : x < 32) (hy : y < 32) : w.cell? ⟨B, x * 32 + y, none⟩ = some (.bool (yes (((x : Int), (y : Int)) ∈ E))) := by
  rw [BitsN.cell h _ (by omega), show (x * 32 + y) / 32 = x by omega, show (x * 32 + y) % 32 = y by omega]
theorem Need.set (h : Need w B E) (hx : x < 32) (hy : y < 32) (hE : ∀ p, p ∈ E' ↔ p ∈ E ∨ p = ((x : Int), (y : Int))) : Need (w.setCell ⟨B, x * 32 + y, none⟩ (.bool true)) B E' :=
  BitsN.set h _ (by omega) true fun j hj => by
    by_cases e : j = x * 32 + y
    · subst e
      rw [if_pos rfl, show (x * 32 + y) / 32 = x by omega, show (x * 32 + y) % 32 = y by omega]
      exact yes_of ((hE _).2 (.inr rfl))
    · rw [if_neg e]
      refine yes_congr ((hE _).trans ⟨fun q => q.resolve_right fun q => ?_, .inl⟩)
      simp only [Prod.mk.injEq] at q
      omega
theorem need_new (w : World) (T : TypeId) : Need (w.alloc (.cells (Array.replicate 1024 (.bool false)) T)) w.heap.size (chE 0) :=
  bitsN_new 1024 w T fun j _ => yes_not (fun h => by cases h)
end
theorem IsRow.on {k : IntKind} {w W : World} {A : Option Addr} {n c : Nat} {z : List Int} (h : IsRow k w A n c z) (b : Below w.heap.size w W) : IsRow k W A n c z :=
  ⟨h.len, h.cap, h.max, fun h0 => by
    obtain ⟨bk, off, e, hb, hc⟩ := h.cell h0
    exact ⟨bk, off, e, Nat.lt_of_lt_of_le hb b.size, fun j hj => (b.cell (p := ⟨bk, off + j, none⟩) hb).trans (hc j hj)⟩, h.wf⟩
end Go.Proofs.YtjobphjpfknfeaaDoor
