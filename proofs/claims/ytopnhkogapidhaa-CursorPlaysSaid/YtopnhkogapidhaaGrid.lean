/- Blocks of 64 bools, of 64 ints: what their cells hold, kept where other blocks turn, behind a store, when they are new. No dump; no condition. -/
import Derived.Test.YtopnhkogapidhaaKeep
namespace Go.Proofs.Ytopnhkogapidhaa
open Go.ChangeShapes Go.WideShapes Go.ChangeAt Go.RowKit
set_option linter.unusedVariables false

/-- Block B holds 64 bools. -/
structure Bits64 (w : World) (B : Nat) (f : Nat → Bool) : Prop where
  cell : ∀ j, j < 64 → w.cell? ⟨B, j, none⟩ = some (.bool (f j))
  free : ∀ j, w.frozen? ⟨B, j, none⟩ = false
  lt : B < w.heap.size
theorem Bits64.keep {S : Nat → Prop} {w w' : World} {B : Nat} {f : Nat → Bool} (h : Bits64 w B f) (k : Keep S w w') (hn : ¬ S B) : Bits64 w' B f :=
  ⟨fun j hj => k.cell (h.cell j hj) hn, fun j => (k.frozen (a := ⟨B, j, none⟩) h.lt hn).trans (h.free j), Nat.lt_of_lt_of_le h.lt k.size⟩
theorem Bits64.set {w : World} {B : Nat} {f : Nat → Bool} (h : Bits64 w B f) (i : Nat) (hi : i < 64) (x : Bool) : Bits64 (w.setCell ⟨B, i, none⟩ (.bool x)) B (fun j => if j = i then x else f j) := by
  refine ⟨fun j hj => ?_, fun j => by simpa using h.free j, by simpa [World.setCell] using h.lt⟩
  by_cases e : i = j
  · subst e
    rw [World.cell?_setCell_same _ _ _ (h.cell i hi), if_pos rfl]
  · rw [World.cell?_setCell_other _ _ _ _ (by simp <;> omega), h.cell j hj, if_neg (Ne.symm e)]
theorem bits_new (w : World) (T : TypeId) : Bits64 (w.alloc (.cells (Array.replicate 64 (.bool false)) T)) w.heap.size (fun _ => false) := by
  refine ⟨fun j hj => ?_, fun j => by simp, by simp⟩
  have : (Array.replicate 64 (Value.bool false))[j]? = some (.bool false) := by rw [Array.getElem?_replicate, if_pos hj]
  simpa using this
/-- Block B holds 64 ints. -/
structure Ints64 (w : World) (B : Nat) (f : Nat → Int) : Prop where
  cell : ∀ j, j < 64 → w.cell? ⟨B, j, none⟩ = some (.int .i64 (f j))
  free : ∀ j, w.frozen? ⟨B, j, none⟩ = false
  lt : B < w.heap.size
theorem Ints64.keep {S : Nat → Prop} {w w' : World} {B : Nat} {f : Nat → Int} (h : Ints64 w B f) (k : Keep S w w') (hn : ¬ S B) : Ints64 w' B f :=
  ⟨fun j hj => k.cell (h.cell j hj) hn, fun j => (k.frozen (a := ⟨B, j, none⟩) h.lt hn).trans (h.free j), Nat.lt_of_lt_of_le h.lt k.size⟩
theorem Ints64.set {w : World} {B : Nat} {f : Nat → Int} (h : Ints64 w B f) (i : Nat) (hi : i < 64) (x : Int) : Ints64 (w.setCell ⟨B, i, none⟩ (.int .i64 x)) B (fun j => if j = i then x else f j) := by
  refine ⟨fun j hj => ?_, fun j => by simpa using h.free j, by simpa [World.setCell] using h.lt⟩
  by_cases e : i = j
  · subst e
    rw [World.cell?_setCell_same _ _ _ (h.cell i hi), if_pos rfl]
  · rw [World.cell?_setCell_other _ _ _ _ (by simp <;> omega), h.cell j hj, if_neg (Ne.symm e)]
theorem ints_new (w : World) (T : TypeId) : Ints64 (w.alloc (.cells (Array.replicate 64 (.int .i64 0)) T)) w.heap.size (fun _ => 0) := by
  refine ⟨fun j hj => ?_, fun j => by simp, by simp⟩
  have : (Array.replicate 64 (Value.int .i64 0))[j]? = some (.int .i64 0) := by rw [Array.getElem?_replicate, if_pos hj]
  simpa using this
end Go.Proofs.Ytopnhkogapidhaa
