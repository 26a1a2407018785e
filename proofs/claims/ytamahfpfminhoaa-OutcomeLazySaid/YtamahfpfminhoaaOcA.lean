/- Contracts of sync/atomic's Int64.Add, Bool.Store and Bool.Load in one goroutine; conditions: the cell holds an integer of that kind and may be written. -/
import Derived.Test.YtamahfpfminhoaaAtom
import Derived.Test.YtamahfpfminhoaaOnceC
import Derived.Test.YtamahfpfminhoaaBits
import Derived.Deep.RegionHeld3
import Derived.Deep.QuietTactic
import Derived.BigQuiet
import Derived.BigRegion
namespace Go.Proofs.Ytamahfpfminhoaa
open Go.ChangeShapes Go.WideShapes Go.ChangeAt Go.RowKit
set_option linter.unusedVariables false

def dnB (b : Bool) : Int := if b then 1 else 0
theorem addInt64 (a : Addr) (x y s : Int) (w : World) (hc : w.cell? a = some (.int .i64 x)) (hz : w.frozen? a = false) (hn : a.spot = none) (hs : IntKind.i64.wrap (x + y) = s) :
    Calls Try.prog 26 #[.pointer (some a), .int .i64 y] w fun e w' => e = .returned (.int .i64 s) ∧ w' = w.setCell a (.int .i64 s) := by
  have hl := run_call_add (P := Try.prog) Try.func47 (by kernel_rfl) (by kernel_rfl) (by kernel_rfl) .i64 (by kernel_rfl) (x := x) (y := y) (s := s) hc hz (by rw [← hs]; simp [go_sem])
  obtain ⟨b, o, s⟩ := a
  obtain rfl : s = none := hn
  clear hs
  go_enter Try.func26, Try.ntmps26
  go_wp2
  go_ret
  exact ⟨rfl, rfl⟩
theorem b32_any (x : Bool) (w : World) : Calls Try.prog 50 #[.bool x] w fun e w' => e = .returned (.int .u32 (dnB x)) ∧ w = w' := by
  cases x
  all_goals
    go_enter Try.func50, Try.ntmps50
    go_wp2
    go_ret
    exact ⟨rfl, rfl⟩
set_option maxRecDepth 100000 in
theorem boolStore (b o : Nat) (x : Bool) (u : Value) (w : World) (hc : w.cell? ⟨b, o, none⟩ = some u) (hz : w.frozen? ⟨b, o, none⟩ = false) :
    Calls Try.prog 29 #[.pointer (some ⟨b, o, none⟩), .bool x] w fun e w' => e = .returned (.tuple #[]) ∧ w' = w.drew.setCell ⟨b, o, none⟩ (.int .u32 (dnB x)) := by
  have hc' : w.drew.cell? ⟨b, o, none⟩ = some u := hc
  have hz' : w.drew.frozen? ⟨b, o, none⟩ = false := hz
  cases x
  · have hst := run_call_store (P := Try.prog) Try.func49 (by kernel_rfl) (by kernel_rfl) (by kernel_rfl) (by kernel_rfl) (k := .u32) (y := 0) hc' hz'
    show Calls _ _ _ _ fun e w' => e = .returned (.tuple #[]) ∧ w' = w.drew.setCell ⟨b, o, none⟩ (.int .u32 0)
    go_enter Try.func29, Try.ntmps29
    go_wp2
    go_region_calls
    all_goals (go_end0; exact ⟨rfl, rfl⟩)
  · have hst := run_call_store (P := Try.prog) Try.func49 (by kernel_rfl) (by kernel_rfl) (by kernel_rfl) (by kernel_rfl) (k := .u32) (y := 1) hc' hz'
    show Calls _ _ _ _ fun e w' => e = .returned (.tuple #[]) ∧ w' = w.drew.setCell ⟨b, o, none⟩ (.int .u32 1)
    go_enter Try.func29, Try.ntmps29
    go_wp2
    go_region_calls
    all_goals (go_end0; exact ⟨rfl, rfl⟩)
theorem boolLoad (b o : Nat) (x : Bool) (w : World) (hc : w.cell? ⟨b, o, none⟩ = some (.int .u32 (dnB x))) :
    Calls Try.prog 30 #[.pointer (some ⟨b, o, none⟩)] w fun e w' => e = .returned (.bool x) ∧ w = w' := by
  have hl := run_call_load (P := Try.prog) Try.func51 (by kernel_rfl) (by kernel_rfl) (by kernel_rfl) .u32 (by kernel_rfl) hc
  cases x
  all_goals
    unfold dnB at hl
    go_enter Try.func30, Try.ntmps30
    go_wp2
    go_ret
    exact ⟨rfl, rfl⟩
end Go.Proofs.Ytamahfpfminhoaa
