/- Contract of (*sync.Once).Do in one goroutine, for the closure that the package hands to it: not yet done and its lock free: the closure runs once, the Once is done, the lock is free again; done already: nothing. -/
import Derived.Test.YtalkfnblnlcklaaDoorOnce
namespace Go.Proofs.YtalkfnblnlcklaaDoor
open Go.ChangeShapes Go.WideShapes Go.ChangeAt Go.RowKit
set_option linter.unusedVariables false

/-- What the closure leaves: R of its world, the Once's three cells as they were. -/
def Ran (R : World → Prop) (b o : Nat) (e : Ending) (w : World) : Prop :=
  e = .returned (.tuple #[]) ∧ R w ∧ w.cell? ⟨b, o, none⟩ = some (.int .u32 0) ∧ w.cell? ⟨b, o + 1, none⟩ = some (.int .i32 1) ∧ w.frozen? ⟨b, o, none⟩ = false ∧ w.frozen? ⟨b, o + 1, none⟩ = false
def OnceDid (R : World → Prop) (b o : Nat) (e : Ending) (w' : World) : Prop :=
  e = .returned (.tuple #[]) ∧ ∃ w2, R w2 ∧ w' = (w2.drew.setCell ⟨b, o, none⟩ (.int .u32 1)).setCell ⟨b, o + 1, none⟩ (.int .i32 0)
set_option maxRecDepth 100000 in
set_option maxHeartbeats 1600000 in
theorem once_slowL (b o : Nat) (caps : Array Value) (R : World → Prop) (w : World)
    (h0 : w.cell? ⟨b, o, none⟩ = some (.int .u32 0)) (h1 : w.cell? ⟨b, o + 1, none⟩ = some (.int .i32 0)) (f1 : w.frozen? ⟨b, o + 1, none⟩ = false)
    (hF : Calls Tryd.prog 31 caps (w.setCell ⟨b, o + 1, none⟩ (.int .i32 1)) (Ran R b o)) :
    Calls Tryd.prog 35 #[.pointer (some ⟨b, o, none⟩), .func (.func 31) #[] caps] w (OnceDid R b o) := by
  -- ntmps31
  have hl := run_call_load (P := Tryd.prog) Tryd.func40 (by kernel_rfl) (by kernel_rfl) (by kernel_rfl) .u32 (by kernel_rfl) (w := w.setCell ⟨b, o + 1, none⟩ (.int .i32 1)) (a := ⟨b, o, none⟩) (x := 0) ((World.cell?_setCell_other _ ⟨b, o + 1, none⟩ ⟨b, o, none⟩ _ (by simp)).trans h0)
  have hnot : ∀ (x : Bool) (w : World), (Op.unary .not (.bool x)).run Tryd.prog w = .ok (.bool (!x)) w := fun _ _ => rfl
  go_enter_defers Tryd.func35, Tryd.ntmps35
  go_wp2_with (first | (go_at_call 41; refine (mu_lock b (o + 1) _ h1 f1).mono ?_; rintro e w' ⟨rfl, rfl⟩) | (go_at_call 34; go_in))
  refine hF.mono ?_
  rintro e w2 ⟨rfl, hR, d0, d1, e0, e1⟩
  go_wp2
  refine leaves_cons (f := 43) (args := #[.pointer (some ⟨b, o, none⟩), .bool true]) (by simp) (by simp [go_sem]) ?_
  refine (bool_store b o (.int .u32 0) .returning w2 d0 e0).mono ?_
  rintro e u' w'' ⟨rfl, rfl, rfl⟩
  refine leaves_cons (f := 42) (args := #[.pointer (some ⟨b, o + 1, none⟩)]) (by simp [settle]) (by simp [go_sem]) ?_
  refine (mu_unlock b (o + 1) _ _ ?_ ?_).mono ?_
  · exact (World.cell?_setCell_other _ ⟨b, o, none⟩ ⟨b, o + 1, none⟩ _ (by simp)).trans d1
  · simpa using e1
  rintro e u' w'' ⟨rfl, rfl, rfl⟩
  simp [Leaves, settle, results, Tryd.results35]
  exact ⟨rfl, w2, hR, rfl⟩
theorem once_firstL (b o : Nat) (caps : Array Value) (R : World → Prop) (w : World)
    (h0 : w.cell? ⟨b, o, none⟩ = some (.int .u32 0)) (h1 : w.cell? ⟨b, o + 1, none⟩ = some (.int .i32 0)) (f1 : w.frozen? ⟨b, o + 1, none⟩ = false)
    (hF : Calls Tryd.prog 31 caps (w.setCell ⟨b, o + 1, none⟩ (.int .i32 1)) (Ran R b o)) :
    Calls Tryd.prog 30 #[.pointer (some ⟨b, o, none⟩), .func (.func 31) #[] caps] w (OnceDid R b o) := by
  -- ntmps31
  have hl := run_call_load (P := Tryd.prog) Tryd.func40 (by kernel_rfl) (by kernel_rfl) (by kernel_rfl) .u32 (by kernel_rfl) h0
  have hnot : ∀ (x : Bool) (w : World), (Op.unary .not (.bool x)).run Tryd.prog w = .ok (.bool (!x)) w := fun _ _ => rfl
  have hS := once_slowL b o caps R w h0 h1 f1 hF
  clear hF
  go_enter Tryd.func30, Tryd.ntmps30
  go_wp2_with (first | (go_at_call 35; refine hS.mono ?_; rintro e w' ⟨rfl, hD⟩) | (go_at_call 34; go_in))
  go_end0
  exact ⟨rfl, hD⟩
theorem once_done (b o : Nat) (fv : Value) (w : World) (h0 : w.cell? ⟨b, o, none⟩ = some (.int .u32 1)) :
    Calls Tryd.prog 30 #[.pointer (some ⟨b, o, none⟩), fv] w fun e w' => e = .returned (.tuple #[]) ∧ w = w' := by
  have hl := run_call_load (P := Tryd.prog) Tryd.func40 (by kernel_rfl) (by kernel_rfl) (by kernel_rfl) .u32 (by kernel_rfl) h0
  have hnot : ∀ (x : Bool) (w : World), (Op.unary .not (.bool x)).run Tryd.prog w = .ok (.bool (!x)) w := fun _ _ => rfl
  go_enter Tryd.func30, Tryd.ntmps30
  go_wp2_with (go_at_call 34; go_in)
  go_end0
  exact ⟨rfl, rfl⟩
end Go.Proofs.YtalkfnblnlcklaaDoor
