/- Package rec: Get; conditions: the Store is one that calls have made of an empty one, its count of accesses is at most 2^62, the link is a word of 64 bits. -/
import Derived.Test.YtmfpjnlplimkeaaRecM
import Derived.RegionTactic
import Derived.BigQuiet
import Derived.Deep.RegionHeld3
namespace Go.Proofs.Ytmfpjnlplimkeaa
open Go.ChangeShapes Go.WideShapes Go.ChangeAt Go.RowKit
set_option linter.unusedVariables false

theorem five_set (w : World) (N : Nat) (u0 u1 u2 u3 u4 v0 v1 v2 v3 v4 : Value) (y0 : w.cell? ⟨N, 0, none⟩ = some u0) (y1 : w.cell? ⟨N, 1, none⟩ = some u1) (y2 : w.cell? ⟨N, 2, none⟩ = some u2) (y3 : w.cell? ⟨N, 3, none⟩ = some u3) (y4 : w.cell? ⟨N, 4, none⟩ = some u4) :
    ∃ W, (((((w.setCell ⟨N, 0, none⟩ v0).setCell ⟨N, 1, none⟩ v1).setCell ⟨N, 2, none⟩ v2).setCell ⟨N, 3, none⟩ v3).setCell ⟨N, 4, none⟩ v4) = W ∧ W.cell? ⟨N, 0, none⟩ = some v0 ∧ W.cell? ⟨N, 1, none⟩ = some v1 ∧ W.cell? ⟨N, 2, none⟩ = some v2 ∧ W.cell? ⟨N, 3, none⟩ = some v3 ∧ W.cell? ⟨N, 4, none⟩ = some v4 ∧ Keep (fun j => j = N) w W := by
  refine ⟨_, rfl, ?_, ?_, ?_, ?_, ?_, (((((Keep.refl (fun j => j = N) w).setCell (p := ⟨N, 0, none⟩) rfl v0).setCell (p := ⟨N, 1, none⟩) rfl v1).setCell (p := ⟨N, 2, none⟩) rfl v2).setCell (p := ⟨N, 3, none⟩) rfl v3).setCell (p := ⟨N, 4, none⟩) rfl v4⟩
  · rw [World.cell?_setCell_other _ _ _ _ (by first | (simp; done) | (simp; omega)), World.cell?_setCell_other _ _ _ _ (by first | (simp; done) | (simp; omega)), World.cell?_setCell_other _ _ _ _ (by first | (simp; done) | (simp; omega)), World.cell?_setCell_other _ _ _ _ (by first | (simp; done) | (simp; omega))]; exact World.cell?_setCell_same _ _ _ y0
  · rw [World.cell?_setCell_other _ _ _ _ (by first | (simp; done) | (simp; omega)), World.cell?_setCell_other _ _ _ _ (by first | (simp; done) | (simp; omega)), World.cell?_setCell_other _ _ _ _ (by first | (simp; done) | (simp; omega))]; exact World.cell?_setCell_same _ _ _ (by rw [World.cell?_setCell_other _ _ _ _ (by first | (simp; done) | (simp; omega))]; exact y1)
  · rw [World.cell?_setCell_other _ _ _ _ (by first | (simp; done) | (simp; omega)), World.cell?_setCell_other _ _ _ _ (by first | (simp; done) | (simp; omega))]; exact World.cell?_setCell_same _ _ _ (by rw [World.cell?_setCell_other _ _ _ _ (by first | (simp; done) | (simp; omega)), World.cell?_setCell_other _ _ _ _ (by first | (simp; done) | (simp; omega))]; exact y2)
  · rw [World.cell?_setCell_other _ _ _ _ (by first | (simp; done) | (simp; omega))]; exact World.cell?_setCell_same _ _ _ (by rw [World.cell?_setCell_other _ _ _ _ (by first | (simp; done) | (simp; omega)), World.cell?_setCell_other _ _ _ _ (by first | (simp; done) | (simp; omega)), World.cell?_setCell_other _ _ _ _ (by first | (simp; done) | (simp; omega))]; exact y3)
  · exact World.cell?_setCell_same _ _ _ (by rw [World.cell?_setCell_other _ _ _ _ (by first | (simp; done) | (simp; omega)), World.cell?_setCell_other _ _ _ _ (by first | (simp; done) | (simp; omega)), World.cell?_setCell_other _ _ _ _ (by first | (simp; done) | (simp; omega)), World.cell?_setCell_other _ _ _ _ (by first | (simp; done) | (simp; omega))]; exact y4)
theorem keep_fresh {T : Nat → Prop} {w W : World} {N : Nat} (k : Keep (fun j => T j ∨ j = N) w W) (h : w.heap.size ≤ N) : Keep T w W :=
  ⟨k.os, k.tape, k.output, k.size, fun j hj n => k.block j hj (fun q => by rcases q with q | q; exact n q; omega)⟩
def zeroV : Array Value := #[.int .i64 0, .int .i64 0, .int .u64 0, .int .u64 0, .int .u64 0]
/-- In the midst of Get: the Store, behind some looks at words, and the answer's own cells, at block N. -/
structure RG (w0 w : World) (N p pp : Nat) (Sp : Nat → Prop) (pa qa : Nat) (c : Int) (zs : List Int) (s : RS) : Prop where
  h : VCore w p pp Sp pa qa c zs s
  y : ∀ i, w.cell? ⟨N, i, none⟩ = zeroV[i]?
  z : ∀ i, w.frozen? ⟨N, i, none⟩ = false
  k : Keep (Two pa qa) w0 w
  nl : N < w.heap.size
  na : N ≠ pa
  nq : N ≠ qa
section
variable {w0 w : World} {N p pp pa qa : Nat} {Sp : Nat → Prop} {c : Int} {zs : List Int} {s : RS}
theorem RG.drew (g : RG w0 w N p pp Sp pa qa c zs s) : RG w0 w.drew N p pp Sp pa qa c zs s :=
  ⟨g.h.keep (Keep.refl (fun _ => False) w).drew (by simp) (by simp) (by simp) (by simp), g.y, g.z, g.k.drew, g.nl, g.na, g.nq⟩
end
section
variable {w : World} {p : Nat} {S : Nat → Prop} {s : RS}
end
end Go.Proofs.Ytmfpjnlplimkeaa
