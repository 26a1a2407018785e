/- Several texts, one behind the other: Grid, Codes. -/
import Derived.Test.YtkkjofefjepodaaModelBaseZab
/- Blocks of 64 bools, of 64 ints: what their cells hold, kept where other blocks turn, behind a store, when they are new. No dump; no condition. -/
namespace Go.Proofs.Ytkkjofefjepodaa
open Go.ChangeShapes Go.WideShapes Go.ChangeAt Go.RowKit
set_option linter.unusedVariables false

/-- Block B holds 64 bools. -/
structure Bits64 (w : World) (B : Nat) (f : Nat → Bool) : Prop where
 cell : ∀ j, j < 64 → w.cell? ⟨B, j, none⟩ = some (.bool (f j))
 free : ∀ j, w.frozen? ⟨B, j, none⟩ = false
 lt : B < w.heap.size
theorem Bits64.keep {S : Nat → Prop} {w w' : World} {B : Nat} {f : Nat → Bool} (h : Bits64 w B f) (k : Keep S w w') (hn : ¬ S B) : Bits64 w' B f :=
 ⟨fun j hj => k.cell (h.cell j hj) hn, fun j => (k.frozen (a := ⟨B, j, none⟩) h.lt hn).trans (h.free j), Nat.lt_of_lt_of_le h.lt k.size⟩
theorem Bits64.set {w : World} {B : Nat} {f : Nat → Bool} (h : Bits64 w B f) (i : Nat) (hi : i < 64) (x : Bool) : Bits64 (w.setCell ⟨B, i, none⟩ (.bool x)) B (fun j => if j = i then x else f j) := by
 refine ⟨fun j hj => ?_, fun j => by simpa using h.free j, by simpa [World.setCell] using h.lt⟩
 by_cases e : i = j
 ·subst e
  rw [World.cell?_setCell_same _ _ _ (h.cell i hi), if_pos rfl]
 ·rw [World.cell?_setCell_other _ _ _ _ (by simp <;> omega), h.cell j hj, if_neg (Ne.symm e)]
theorem bits_new (w : World) (T : TypeId) : Bits64 (w.alloc (.cells (Array.replicate 64 (.bool false)) T)) w.heap.size (fun _ => false) := by
 refine ⟨fun j hj => ?_, fun j => by simp, by simp⟩
 have : (Array.replicate 64 (Value.bool false))[j]? = some (.bool false) := by rw [Array.getElem?_replicate, if_pos hj]
 simpa using this
/-- Block B holds 64 ints. -/
structure Ints64 (w : World) (B : Nat) (f : Nat → Int) : Prop where
 cell : ∀ j, j < 64 → w.cell? ⟨B, j, none⟩ = some (.int .i64 (f j))
 free : ∀ j, w.frozen? ⟨B, j, none⟩ = false
 lt : B < w.heap.size
theorem Ints64.keep {S : Nat → Prop} {w w' : World} {B : Nat} {f : Nat → Int} (h : Ints64 w B f) (k : Keep S w w') (hn : ¬ S B) : Ints64 w' B f :=
 ⟨fun j hj => k.cell (h.cell j hj) hn, fun j => (k.frozen (a := ⟨B, j, none⟩) h.lt hn).trans (h.free j), Nat.lt_of_lt_of_le h.lt k.size⟩
theorem Ints64.set {w : World} {B : Nat} {f : Nat → Int} (h : Ints64 w B f) (i : Nat) (hi : i < 64) (x : Int) : Ints64 (w.setCell ⟨B, i, none⟩ (.int .i64 x)) B (fun j => if j = i then x else f j) := by
 refine ⟨fun j hj => ?_, fun j => by simpa using h.free j, by simpa [World.setCell] using h.lt⟩
 by_cases e : i = j
 ·subst e
  rw [World.cell?_setCell_same _ _ _ (h.cell i hi), if_pos rfl]
 ·rw [World.cell?_setCell_other _ _ _ _ (by simp <;> omega), h.cell j hj, if_neg (Ne.symm e)]
theorem ints_new (w : World) (T : TypeId) : Ints64 (w.alloc (.cells (Array.replicate 64 (.int .i64 0)) T)) w.heap.size (fun _ => 0) := by
 refine ⟨fun j hj => ?_, fun j => by simp, by simp⟩
 have : (Array.replicate 64 (Value.int .i64 0))[j]? = some (.int .i64 0) := by rw [Array.getElem?_replicate, if_pos hj]
 simpa using this
end Go.Proofs.Ytkkjofefjepodaa
/- Pieces of a translated function's code: a block, a region, a loop's round, what stands behind them. No dump; no condition. -/
namespace Go.Proofs.Ytkkjofefjepodaa
open Go.ChangeShapes Go.WideShapes Go.ChangeAt Go.RowKit
set_option linter.unusedVariables false

def isB (n : Nat) : Code → Bool
 | .block m _ => m == n
 | .seq _ b => isB n b
 | _ => false
/-- Block n of a code, and what stands behind it. -/
def blockIn (n : Nat) : Code → Option Code
 | .block m c => bif m == n then some (.block m c) else blockIn n c
 | .loop c => blockIn n c
 | .scope c => blockIn n c
 | .seq a b => (blockIn n a).or (blockIn n b)
 | .cond _ a b => (blockIn n a).or (blockIn n b)
 | _ => none
def afterB (n : Nat) : Code → Option Code
 | .block _ c => afterB n c
 | .loop c => afterB n c
 | .scope c => afterB n c
 | .seq a b => bif isB n a then some b else (afterB n a).or (afterB n b)
 | .cond _ a b => (afterB n a).or (afterB n b)
 | _ => none
/-- What stands behind the statement that begins with region n. -/
def isR (n : Nat) : Code → Bool
 | .seq (.region m _ _) _ => m == n
 | _ => false
def afterR (n : Nat) : Code → Option Code
 | .block _ c => afterR n c
 | .loop c => afterR n c
 | .scope c => afterR n c
 | .seq a b => bif isR n a then some b else (afterR n a).or (afterR n b)
 | .cond _ a b => (afterR n a).or (afterR n b)
 | _ => none
def regIn (n : Nat) : Code → Option Code
 | .region m o d => bif m == n then some (.region m o d) else none
 | .block _ c => regIn n c
 | .loop c => regIn n c
 | .scope c => regIn n c
 | .seq a b => (regIn n a).or (regIn n b)
 | .cond _ a b => (regIn n a).or (regIn n b)
 | _ => none
/-- What stands behind region n. -/
def isG (n : Nat) : Code → Bool
 | .region m _ _ => m == n
 | .seq _ b => isG n b
 | _ => false
def afterG (n : Nat) : Code → Option Code
 | .block _ c => afterG n c
 | .loop c => afterG n c
 | .scope c => afterG n c
 | .seq a b => bif isG n a then some b else (afterG n a).or (afterG n b)
 | .cond _ a b => (afterG n a).or (afterG n b)
 | _ => none
def loopIn : Code → Option Code
 | .loop c => some c
 | .block _ c => loopIn c
 | .scope c => loopIn c
 | .seq a b => (loopIn a).or (loopIn b)
 | .cond _ a b => (loopIn a).or (loopIn b)
 | _ => none
end Go.Proofs.Ytkkjofefjepodaa
