/- Contracts of the methods of sync/atomic's integers in one goroutine: Load, Store, CompareAndSwap (it goes through, it does not); conditions: the cell holds an integer of that kind and may be written. -/
import Derived.Test.YtodmpmnjkfnogaaKeep
import Derived.Laws.LoneSync
namespace Go.Proofs.Ytodmpmnjkfnogaa
open Go.ChangeShapes Go.WideShapes Go.ChangeAt Go.RowKit
set_option linter.unusedVariables false

theorem loadUint64 (a : Addr) (x : Int) (w : World) (hc : w.cell? a = some (.int .u64 x)) (hn : a.spot = none) :
    Calls Try.prog 29 #[.pointer (some a)] w fun e w' => e = .returned (.int .u64 x) ∧ w = w' := by
  have hl := run_call_load (P := Try.prog) Try.func36 (by kernel_rfl) (by kernel_rfl) (by kernel_rfl) .u64 (by kernel_rfl) hc
  obtain ⟨b, o, s⟩ := a
  obtain rfl : s = none := hn
  go_enter Try.func29, Try.ntmps29
  go_wp2
  go_ret
  exact ⟨rfl, rfl⟩
theorem storeUint64 (a : Addr) (u : Value) (x : Int) (w : World) (hc : w.cell? a = some u) (hz : w.frozen? a = false) (hn : a.spot = none) :
    Calls Try.prog 25 #[.pointer (some a), .int .u64 x] w fun e w' => e = .returned (.tuple #[]) ∧ w' = w.setCell a (.int .u64 x) := by
  have hl := run_call_store (P := Try.prog) Try.func34 (by kernel_rfl) (by kernel_rfl) (by kernel_rfl) (by kernel_rfl) (k := .u64) (y := x) hc hz
  obtain ⟨b, o, s⟩ := a
  obtain rfl : s = none := hn
  go_enter Try.func25, Try.ntmps25
  go_wp2
  go_end0
  exact ⟨rfl, rfl⟩
theorem casUint64 (a : Addr) (x y : Int) (w : World) (hc : w.cell? a = some (.int .u64 x)) (hz : w.frozen? a = false) (hn : a.spot = none) :
    Calls Try.prog 28 #[.pointer (some a), .int .u64 x, .int .u64 y] w fun e w' => e = .returned (.bool true) ∧ w' = w.setCell a (.int .u64 y) := by
  have hl := run_call_cas_hit (P := Try.prog) Try.func35 (by kernel_rfl) (by kernel_rfl) (by kernel_rfl) .u64 (by kernel_rfl) (y := y) hc hz
  obtain ⟨b, o, s⟩ := a
  obtain rfl : s = none := hn
  go_enter Try.func28, Try.ntmps28
  go_wp2
  go_ret
  exact ⟨rfl, rfl⟩
theorem casUint64_not (a : Addr) (x o y : Int) (w : World) (hc : w.cell? a = some (.int .u64 x)) (hz : w.frozen? a = false) (hn : a.spot = none) (hne : ¬ x = o) :
    Calls Try.prog 28 #[.pointer (some a), .int .u64 o, .int .u64 y] w fun e w' => e = .returned (.bool false) ∧ w = w' := by
  have hl := run_call_cas_miss (P := Try.prog) Try.func35 (by kernel_rfl) (by kernel_rfl) (by kernel_rfl) .u64 (by kernel_rfl) (o := o) (y := y) hc hz hne
  obtain ⟨b, f, s⟩ := a
  obtain rfl : s = none := hn
  go_enter Try.func28, Try.ntmps28
  go_wp2
  go_ret
  exact ⟨rfl, rfl⟩
end Go.Proofs.Ytodmpmnjkfnogaa
