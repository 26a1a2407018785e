/- A result in a block of its own: its five cells, what a store of all of them leaves. No condition. -/
import Derived.Test.YtkkjofefjepodaaMdV
import Derived.Test.YtkkjofefjepodaaKeep
namespace Go.Proofs.Ytkkjofefjepodaa
open Go.ChangeShapes Go.WideShapes Go.ChangeAt Go.RowKit
set_option linter.unusedVariables false
/-- A result's cells at block N. -/
structure ResAt (w : World) (N : Nat) (r0 r1 r2 r3 r4 : Value) : Prop where
  r0 : w.cell? ⟨N, 0, none⟩ = some r0
  r1 : w.cell? ⟨N, 1, none⟩ = some r1
  r2 : w.cell? ⟨N, 2, none⟩ = some r2
  r3 : w.cell? ⟨N, 3, none⟩ = some r3
  r4 : w.cell? ⟨N, 4, none⟩ = some r4
  fz : ∀ i, w.frozen? ⟨N, i, none⟩ = false
theorem ResAt.keep {w w' : World} {N : Nat} {r0 r1 r2 r3 r4 : Value} {T : Nat → Prop} (h : ResAt w N r0 r1 r2 r3 r4) (k : Keep T w w') (hn : ¬ T N) : ResAt w' N r0 r1 r2 r3 r4 :=
  ⟨k.cell h.r0 hn, k.cell h.r1 hn, k.cell h.r2 hn, k.cell h.r3 hn, k.cell h.r4 hn, fun i => (k.frozen (a := ⟨N, i, none⟩) (lt_of_cell (a := ⟨N, 0, none⟩) h.r0) hn).trans (h.fz i)⟩
theorem res_box (w : World) : ∃ W, w.alloc (.cells #[.int .i64 0, .int .i64 0, .slice none 0 0, .int .i64 0, .int .i64 0] 30) = W ∧ ResAt W w.heap.size (.int .i64 0) (.int .i64 0) (.slice none 0 0) (.int .i64 0) (.int .i64 0) ∧ Keep (fun _ => False) w W :=
  ⟨_, rfl, ⟨by simp, by simp, by simp, by simp, by simp, fun i => by simp⟩, (Keep.refl _ _).alloc _⟩
theorem res_set {w6 W7 : World} {N : Nat} {r0 r1 r2 r3 r4 : Value} (h : ResAt w6 N r0 r1 r2 r3 r4) (v0 v1 v2 v3 v4 : Value)
    (e : ((((w6.setCell ⟨N, 0, none⟩ v0).setCell ⟨N, 1, none⟩ v1).setCell ⟨N, 2, none⟩ v2).setCell ⟨N, 3, none⟩ v3).setCell ⟨N, 4, none⟩ v4 = W7) : ResAt W7 N v0 v1 v2 v3 v4 ∧ Keep (fun j => j = N) w6 W7 := by
  subst e
  refine ⟨⟨?_, ?_, ?_, ?_, ?_, fun i => ?_⟩, (((((Keep.refl (fun j => j = N) w6).setCell (p := ⟨N, 0, none⟩) rfl _).setCell (p := ⟨N, 1, none⟩) rfl _).setCell (p := ⟨N, 2, none⟩) rfl _).setCell (p := ⟨N, 3, none⟩) rfl _).setCell (p := ⟨N, 4, none⟩) rfl _⟩
  · rw [World.cell?_setCell_other _ _ _ _ (by first | (simp; done) | (simp; omega)), World.cell?_setCell_other _ _ _ _ (by first | (simp; done) | (simp; omega)), World.cell?_setCell_other _ _ _ _ (by first | (simp; done) | (simp; omega)), World.cell?_setCell_other _ _ _ _ (by first | (simp; done) | (simp; omega))]; exact World.cell?_setCell_same _ _ _ h.r0
  · rw [World.cell?_setCell_other _ _ _ _ (by first | (simp; done) | (simp; omega)), World.cell?_setCell_other _ _ _ _ (by first | (simp; done) | (simp; omega)), World.cell?_setCell_other _ _ _ _ (by first | (simp; done) | (simp; omega))]; exact World.cell?_setCell_same _ _ _ (by rw [World.cell?_setCell_other _ _ _ _ (by first | (simp; done) | (simp; omega))]; exact h.r1)
  · rw [World.cell?_setCell_other _ _ _ _ (by first | (simp; done) | (simp; omega)), World.cell?_setCell_other _ _ _ _ (by first | (simp; done) | (simp; omega))]; exact World.cell?_setCell_same _ _ _ (by rw [World.cell?_setCell_other _ _ _ _ (by first | (simp; done) | (simp; omega)), World.cell?_setCell_other _ _ _ _ (by first | (simp; done) | (simp; omega))]; exact h.r2)
  · rw [World.cell?_setCell_other _ _ _ _ (by first | (simp; done) | (simp; omega))]; exact World.cell?_setCell_same _ _ _ (by rw [World.cell?_setCell_other _ _ _ _ (by first | (simp; done) | (simp; omega)), World.cell?_setCell_other _ _ _ _ (by first | (simp; done) | (simp; omega)), World.cell?_setCell_other _ _ _ _ (by first | (simp; done) | (simp; omega))]; exact h.r3)
  · exact World.cell?_setCell_same _ _ _ (by rw [World.cell?_setCell_other _ _ _ _ (by first | (simp; done) | (simp; omega)), World.cell?_setCell_other _ _ _ _ (by first | (simp; done) | (simp; omega)), World.cell?_setCell_other _ _ _ _ (by first | (simp; done) | (simp; omega)), World.cell?_setCell_other _ _ _ _ (by first | (simp; done) | (simp; omega))]; exact h.r4)
  · simp only [World.frozen?_setCell]; exact h.fz i
/-- A call's cells at block N. -/
structure OpAt (w : World) (N : Nat) (o : OpI) : Prop where
  o0 : w.cell? ⟨N, 0, none⟩ = some (.int .i64 o.kind)
  o1 : w.cell? ⟨N, 1, none⟩ = some (.int .i64 o.key)
  o2 : w.cell? ⟨N, 2, none⟩ = some (.int .i64 o.hi)
  o3 : w.cell? ⟨N, 3, none⟩ = some (.int .i64 o.val)
theorem OpAt.keep {w w' : World} {N : Nat} {o : OpI} {T : Nat → Prop} (h : OpAt w N o) (k : Keep T w w') (hn : ¬ T N) : OpAt w' N o := ⟨k.cell h.o0 hn, k.cell h.o1 hn, k.cell h.o2 hn, k.cell h.o3 hn⟩
theorem op_box (w : World) (o : OpI) : ∃ W, w.alloc (.cells #[.int .i64 o.kind, .int .i64 o.key, .int .i64 o.hi, .int .i64 o.val] 25) = W ∧ OpAt W w.heap.size o ∧ Keep (fun _ => False) w W :=
  ⟨_, rfl, ⟨by simp, by simp, by simp, by simp⟩, (Keep.refl _ _).alloc _⟩
end Go.Proofs.Ytkkjofefjepodaa
