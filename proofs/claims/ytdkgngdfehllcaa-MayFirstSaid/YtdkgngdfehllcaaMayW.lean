/- The closures of layer 8's statements: one that tells the same of everybody, one that tells one other one; no condition. -/
import Derived.Test.YtdkgngdfehllcaaMayD
import Derived.Test.YtdkgngdfehllcaaMask
import Derived.BigRegion
namespace Go.Proofs.Ytdkgngdfehllcaa
open Go.ChangeShapes Go.WideShapes Go.ChangeAt Go.RowKit
set_option linter.unusedVariables false

def OneAt (g : Nat) (s : Int) (w : World) : Prop := w.cell? ⟨g, 0, none⟩ = some (.int .i64 s)
theorem clo_one (g : Nat) (s id : Int) (w : World) (h : OneAt g s w) : Calls Try.prog 41 #[.int .i64 id, .pointer (some ⟨g, 0, none⟩)] w fun e w' => e = .returned (lookV (some ⟨1, s, 1, 2⟩)) ∧ Below w.heap.size w w' := by
  unfold OneAt at h
  have k1 := Keep.alloc (Keep.refl (fun _ => False) w) (.cells #[.int .i64 0, .int .i64 0, .int .u64 0, .int .u64 0] 24)
  have c1 := k1.cell h (by simp)
  obtain ⟨N, eN⟩ : ∃ N, w.heap.size = N := ⟨_, rfl⟩
  have y : ∀ i, (w.alloc (.cells #[.int .i64 0, .int .i64 0, .int .u64 0, .int .u64 0] 24)).cell? ⟨N, i, none⟩ = #[Value.int .i64 0, .int .i64 0, .int .u64 0, .int .u64 0][i]? := fun i => by rw [← eN]; simp
  have z : ∀ i, (w.alloc (.cells #[.int .i64 0, .int .i64 0, .int .u64 0, .int .u64 0] 24)).frozen? ⟨N, i, none⟩ = false := fun i => by rw [← eN]; simp
  obtain ⟨w1, e1⟩ : ∃ w1, w.alloc (.cells #[.int .i64 0, .int .i64 0, .int .u64 0, .int .u64 0] 24) = w1 := ⟨_, rfl⟩
  rw [e1] at k1 c1 y z
  have y0 : w1.cell? ⟨N, 0, none⟩ = some (.int .i64 0) := y 0
  have y1 : w1.cell? ⟨N, 1, none⟩ = some (.int .i64 0) := y 1
  have y2 : w1.cell? ⟨N, 2, none⟩ = some (.int .u64 0) := y 2
  have y3 : w1.cell? ⟨N, 3, none⟩ = some (.int .u64 0) := y 3
  have z0 := z 0
  have z1 := z 1
  have z2 := z 2
  have z3 := z 3
  clear y z
  have W4 := Lib.hid (four_set0 w1 N _ _ _ _ (.int .i64 1) (.int .i64 s) (.int .u64 1) (.int .u64 2) y0 y1 y2 y3)
  go_enter Try.func41, Try.ntmps41
  go_wp2
  obtain ⟨W, eW, v0, v1, v2, v3, kW⟩ := W4.out
  rw [eW]
  have kk : Keep (fun _ => False) w W := by
    have := (k1.mono (T := fun j => j = N) (by simp)).trans kW
    exact ⟨this.os, this.tape, this.output, this.size, fun j hj _ => this.block j hj (by omega)⟩
  exact bodyPost_ret (v := lookV (some ⟨1, s, 1, 2⟩)) (by simp [results, Try.results41, go_sem, lookV, txV, v0, v1, v2, v3]) rfl ⟨rfl, kk.below (Nat.le_refl _) (by simp)⟩
theorem looks_one (g : Nat) (s : Int) : IsLook (.func (.func 41) #[] #[.pointer (some ⟨g, 0, none⟩)]) (OneAt g s) (fun _ => some ⟨1, s, 1, 2⟩) :=
  isLook_of (fun a w => by kernel_rfl) (fun id w _ _ h => clo_one g s id w h) (fun {w w'} h b => (b.cell (p := ⟨g, 0, none⟩) (lt_of_cell h)).trans h)
theorem clo_first (g : Nat) (s id : Int) (w : World) (h : OneAt g s w) : Calls Try.prog 42 #[.int .i64 id, .pointer (some ⟨g, 0, none⟩)] w fun e w' => e = .returned (lookV (some ⟨1, s, 1, 0⟩)) ∧ Below w.heap.size w w' := by
  unfold OneAt at h
  have k1 := Keep.alloc (Keep.refl (fun _ => False) w) (.cells #[.int .i64 0, .int .i64 0, .int .u64 0, .int .u64 0] 24)
  have c1 := k1.cell h (by simp)
  obtain ⟨N, eN⟩ : ∃ N, w.heap.size = N := ⟨_, rfl⟩
  have y : ∀ i, (w.alloc (.cells #[.int .i64 0, .int .i64 0, .int .u64 0, .int .u64 0] 24)).cell? ⟨N, i, none⟩ = #[Value.int .i64 0, .int .i64 0, .int .u64 0, .int .u64 0][i]? := fun i => by rw [← eN]; simp
  have z : ∀ i, (w.alloc (.cells #[.int .i64 0, .int .i64 0, .int .u64 0, .int .u64 0] 24)).frozen? ⟨N, i, none⟩ = false := fun i => by rw [← eN]; simp
  obtain ⟨w1, e1⟩ : ∃ w1, w.alloc (.cells #[.int .i64 0, .int .i64 0, .int .u64 0, .int .u64 0] 24) = w1 := ⟨_, rfl⟩
  rw [e1] at k1 c1 y z
  have y0 : w1.cell? ⟨N, 0, none⟩ = some (.int .i64 0) := y 0
  have y1 : w1.cell? ⟨N, 1, none⟩ = some (.int .i64 0) := y 1
  have y2 : w1.cell? ⟨N, 2, none⟩ = some (.int .u64 0) := y 2
  have y3 : w1.cell? ⟨N, 3, none⟩ = some (.int .u64 0) := y 3
  have z0 := z 0
  have z1 := z 1
  have z2 := z 2
  have z3 := z 3
  clear y z
  have W4 := Lib.hid (four_set0 w1 N _ _ _ _ (.int .i64 1) (.int .i64 s) (.int .u64 1) (.int .u64 0) y0 y1 y2 y3)
  go_enter Try.func42, Try.ntmps42
  go_wp2
  obtain ⟨W, eW, v0, v1, v2, v3, kW⟩ := W4.out
  rw [eW]
  have kk : Keep (fun _ => False) w W := by
    have := (k1.mono (T := fun j => j = N) (by simp)).trans kW
    exact ⟨this.os, this.tape, this.output, this.size, fun j hj _ => this.block j hj (by omega)⟩
  exact bodyPost_ret (v := lookV (some ⟨1, s, 1, 0⟩)) (by simp [results, Try.results42, go_sem, lookV, txV, v0, v1, v2, v3]) rfl ⟨rfl, kk.below (Nat.le_refl _) (by simp)⟩
theorem looks_first (g : Nat) (s : Int) : IsLook (.func (.func 42) #[] #[.pointer (some ⟨g, 0, none⟩)]) (OneAt g s) (fun _ => some ⟨1, s, 1, 0⟩) :=
  isLook_of (fun a w => by kernel_rfl) (fun id w _ _ h => clo_first g s id w h) (fun {w w'} h b => (b.cell (p := ⟨g, 0, none⟩) (lt_of_cell h)).trans h)
def TwoAt (g1 g2 : Nat) (s o : Int) (w : World) : Prop := w.cell? ⟨g1, 0, none⟩ = some (.int .i64 s) ∧ w.cell? ⟨g2, 0, none⟩ = some (.int .i64 o)
theorem clo_states (g1 g2 : Nat) (s o id : Int) (w : World) (h : TwoAt g1 g2 s o w) : Calls Try.prog 36 #[.int .i64 id, .pointer (some ⟨g1, 0, none⟩), .pointer (some ⟨g2, 0, none⟩)] w fun e w' => e = .returned (.tuple #[txV ⟨1, s, 1, 2⟩, .bool (id == o)]) ∧ Below w.heap.size w w' := by
  obtain ⟨h1, h2⟩ := h
  have k1 := Keep.alloc (Keep.refl (fun _ => False) w) (.cells #[.int .i64 0, .int .i64 0, .int .u64 0, .int .u64 0] 24)
  have c1 := k1.cell h1 (by simp)
  have c2 := k1.cell h2 (by simp)
  have n1 : g1 ≠ w.heap.size := Nat.ne_of_lt (lt_of_cell h1)
  have n2 : g2 ≠ w.heap.size := Nat.ne_of_lt (lt_of_cell h2)
  obtain ⟨N, eN⟩ : ∃ N, w.heap.size = N := ⟨_, rfl⟩
  rw [eN] at n1 n2
  have m1 := n1.symm
  have m2 := n2.symm
  have y : ∀ i, (w.alloc (.cells #[.int .i64 0, .int .i64 0, .int .u64 0, .int .u64 0] 24)).cell? ⟨N, i, none⟩ = #[Value.int .i64 0, .int .i64 0, .int .u64 0, .int .u64 0][i]? := fun i => by rw [← eN]; simp
  have z : ∀ i, (w.alloc (.cells #[.int .i64 0, .int .i64 0, .int .u64 0, .int .u64 0] 24)).frozen? ⟨N, i, none⟩ = false := fun i => by rw [← eN]; simp
  obtain ⟨w1, e1⟩ : ∃ w1, w.alloc (.cells #[.int .i64 0, .int .i64 0, .int .u64 0, .int .u64 0] 24) = w1 := ⟨_, rfl⟩
  rw [e1] at k1 c1 c2 y z
  have y0 : w1.cell? ⟨N, 0, none⟩ = some (.int .i64 0) := y 0
  have y1 : w1.cell? ⟨N, 1, none⟩ = some (.int .i64 0) := y 1
  have y2 : w1.cell? ⟨N, 2, none⟩ = some (.int .u64 0) := y 2
  have y3 : w1.cell? ⟨N, 3, none⟩ = some (.int .u64 0) := y 3
  have z0 := z 0
  have z1 := z 1
  have z2 := z 2
  have z3 := z 3
  clear y z
  have W4 := Lib.hid (four_set0 w1 N _ _ _ _ (.int .i64 1) (.int .i64 s) (.int .u64 1) (.int .u64 2) y0 y1 y2 y3)
  go_enter Try.func36, Try.ntmps36
  go_wp2_with fail
  go_region
  go_wp2
  obtain ⟨W, eW, v0, v1, v2, v3, kW⟩ := W4.out
  rw [eW]
  have kd := (Keep.refl (fun _ => False) W).drew
  have v0 := kd.cell v0 (by simp)
  have v1 := kd.cell v1 (by simp)
  have v2 := kd.cell v2 (by simp)
  have v3 := kd.cell v3 (by simp)
  have kk : Keep (fun _ => False) w W.drew := by
    have := ((k1.mono (T := fun j => j = N) (by simp)).trans kW).drew
    exact ⟨this.os, this.tape, this.output, this.size, fun j hj _ => this.block j hj (by omega)⟩
  exact bodyPost_ret (v := .tuple #[txV ⟨1, s, 1, 2⟩, .bool (id == o)]) (by simp [results, Try.results36, go_sem, txV, v0, v1, v2, v3]) rfl ⟨rfl, kk.below (Nat.le_refl _) (by simp)⟩
/-- One other one is told, and nobody else. -/
def oneL (o : Int) (x : Tx) (id : Int) : Option Tx := if id = o then some x else none
theorem looks_states (g1 g2 : Nat) (s o : Int) : IsLook (.func (.func 36) #[] #[.pointer (some ⟨g1, 0, none⟩), .pointer (some ⟨g2, 0, none⟩)]) (TwoAt g1 g2 s o) (oneL o ⟨1, s, 1, 2⟩) := by
  refine ⟨.inr ⟨_, _, rfl, fun a w => by kernel_rfl, fun id w _ _ h => ⟨⟨1, s, 1, 2⟩, id == o, ?_, clo_states g1 g2 s o id w h⟩⟩, fun {w w'} h b => ⟨?_, ?_⟩⟩
  · unfold oneL
    by_cases e : id = o <;> simp [e]
  · exact (b.cell (p := ⟨g1, 0, none⟩) (lt_of_cell h.1)).trans h.1
  · exact (b.cell (p := ⟨g2, 0, none⟩) (lt_of_cell h.2)).trans h.2
end Go.Proofs.Ytdkgngdfehllcaa
