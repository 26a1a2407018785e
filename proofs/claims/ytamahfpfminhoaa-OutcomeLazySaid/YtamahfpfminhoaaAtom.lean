/- Contracts of the methods of sync/atomic's integers in one goroutine: Load, Store, CompareAndSwap (it goes through, it does not); conditions: the cell holds an integer of that kind and may be written. -/
import Derived.Test.YtamahfpfminhoaaKeep
import Derived.Laws.LoneSync
namespace Go.Proofs.Ytamahfpfminhoaa
open Go.ChangeShapes Go.WideShapes Go.ChangeAt Go.RowKit
set_option linter.unusedVariables false

theorem loadInt64 (a : Addr) (x : Int) (w : World) (hc : w.cell? a = some (.int .i64 x)) (hn : a.spot = none) :
    Calls Try.prog 31 #[.pointer (some a)] w fun e w' => e = .returned (.int .i64 x) ∧ w = w' := by
  have hl := run_call_load (P := Try.prog) Try.func52 (by kernel_rfl) (by kernel_rfl) (by kernel_rfl) .i64 (by kernel_rfl) hc
  obtain ⟨b, o, s⟩ := a
  obtain rfl : s = none := hn
  go_enter Try.func31, Try.ntmps31
  go_wp2
  go_ret
  exact ⟨rfl, rfl⟩
theorem storeInt64 (a : Addr) (u : Value) (x : Int) (w : World) (hc : w.cell? a = some u) (hz : w.frozen? a = false) (hn : a.spot = none) :
    Calls Try.prog 45 #[.pointer (some a), .int .i64 x] w fun e w' => e = .returned (.tuple #[]) ∧ w' = w.setCell a (.int .i64 x) := by
  have hl := run_call_store (P := Try.prog) Try.func61 (by kernel_rfl) (by kernel_rfl) (by kernel_rfl) (by kernel_rfl) (k := .i64) (y := x) hc hz
  obtain ⟨b, o, s⟩ := a
  obtain rfl : s = none := hn
  go_enter Try.func45, Try.ntmps45
  go_wp2
  go_end0
  exact ⟨rfl, rfl⟩
theorem casInt64 (a : Addr) (x y : Int) (w : World) (hc : w.cell? a = some (.int .i64 x)) (hz : w.frozen? a = false) (hn : a.spot = none) :
    Calls Try.prog 46 #[.pointer (some a), .int .i64 x, .int .i64 y] w fun e w' => e = .returned (.bool true) ∧ w' = w.setCell a (.int .i64 y) := by
  have hl := run_call_cas_hit (P := Try.prog) Try.func62 (by kernel_rfl) (by kernel_rfl) (by kernel_rfl) .i64 (by kernel_rfl) (y := y) hc hz
  obtain ⟨b, o, s⟩ := a
  obtain rfl : s = none := hn
  go_enter Try.func46, Try.ntmps46
  go_wp2
  go_ret
  exact ⟨rfl, rfl⟩
theorem casInt64_not (a : Addr) (x o y : Int) (w : World) (hc : w.cell? a = some (.int .i64 x)) (hz : w.frozen? a = false) (hn : a.spot = none) (hne : ¬ x = o) :
    Calls Try.prog 46 #[.pointer (some a), .int .i64 o, .int .i64 y] w fun e w' => e = .returned (.bool false) ∧ w = w' := by
  have hl := run_call_cas_miss (P := Try.prog) Try.func62 (by kernel_rfl) (by kernel_rfl) (by kernel_rfl) .i64 (by kernel_rfl) (o := o) (y := y) hc hz hne
  obtain ⟨b, f, s⟩ := a
  obtain rfl : s = none := hn
  go_enter Try.func46, Try.ntmps46
  go_wp2
  go_ret
  exact ⟨rfl, rfl⟩
end Go.Proofs.Ytamahfpfminhoaa
