/-
  No cell of these rows narrows 'for every input' (looked for: loops, veiled, ifaces, maps, wideKeys, modest, calm, conditions, laid).
  DERIVED. THE GIVEN ROWS OF THIS SEAT. 4 by the template 'for every input the law returns true; each argument reads behind the call as it read before'; 0 by the template 'total and deterministic' (their statements: YtamahfpfminhoaaTotals.lean).
  GIVEN WITH THE SEED: the statements are not yours to turn. If you find one false, say at which input.
  Laid BY PROGRAM, IN A SANDBOX (cutbox-rows.mjs): the forced cells as the released guide's own fill.sh prints them over the translation 1f75b6ab48eae4c4… (all of the seat's roots in one cut). By AI agents, Wed Nov 11 2026. No macro, syntax, notation, axiom, sorry.
-/
import Derived.Test.YtamahfpfminhoaaChecked
import GoSem.Claim
import GoSem.ClaimJoined
import GoSem.ClaimMapViews
import Derived.JoinedTies
import Derived.KernelRfl
namespace Go.Proofs.Ytamahfpfminhoaa
/- THE CELL 'sum', in the pinned program and in every row, IS THE sha256 OF THE DUMP (.gsa) THAT YtamahfpfminhoaaProg.lean LOADS. Nothing in Lean hashes anything: it is a label: what it is worth is what the hold of that sum in a sandbox is worth. -/
noncomputable def Try.pinned : Pinned := { name := "ytamahfpfminhoaa", sum := "1f75b6ab48eae4c4bc39ac2bd9833e26cb7dc3701acb83353944e729a20b3a44", checked := Try.checked }
namespace Rows
def none {H : Type} : Left H := { results := [], args := [] }

/-- 'vinculumlaw18.OutcomeFirst': WHATEVER THE INPUT: true; the input reads as it did. -/
def outcomeFirstSpec : ChangeSpec := { name := "outcomeFirst", fn := fun _ => fun
  | [d1, d2, d3, d4] => { results := [.lit (.bool true)], args := [d1, d2, d3, d4] }
  | _ => none }
def outcomeFirstRow : OpenClaim := { program := "ytamahfpfminhoaa", sum := "1f75b6ab48eae4c4bc39ac2bd9833e26cb7dc3701acb83353944e729a20b3a44", func := "vinculum/vinculumlaw18.OutcomeFirst", spec := "outcomeFirst", inPlace := ["sync/atomic.AddInt64", "sync/atomic.StoreUint32", "sync/atomic.LoadUint32", "(*internal/sync.Mutex).Lock", "internal/race.Disable", "sync/atomic.CompareAndSwapInt32", "internal/race.Enable", "internal/race.Acquire", "(*internal/sync.Mutex).lockSlow", "internal/sync.runtime_canSpin", "internal/sync.runtime_doSpin", "internal/sync.throw", "internal/sync.runtime_nanotime", "internal/sync.runtime_SemacquireMutex", "sync/atomic.AddInt32", "(*internal/sync.Mutex).Unlock", "internal/race.ReleaseMerge", "(*internal/sync.Mutex).unlockSlow", "internal/sync.fatal", "internal/sync.runtime_Semrelease", "sync/atomic.LoadInt64", "sync/atomic.StoreInt64", "sync/atomic.StorePointer", "sync/atomic.LoadPointer", "sync/atomic.CompareAndSwapInt64"], unfollowed := true, recurses := true, apart := false }
def OutcomeFirstSaid : Prop := outcomeFirstRow.holds Try.pinned (OpenSpec.ofChange outcomeFirstSpec)

/-- ITS FALSE NEIGHBOUR: 'it returns false'. Refute it at one input. -/
def outcomeFirstWrong : ChangeSpec := { name := "outcomeFirst", fn := fun _ => fun
  | [d1, d2, d3, d4] => { results := [.lit (.bool false)], args := [d1, d2, d3, d4] }
  | _ => none }
def OutcomeFirstWrongFalsely : Prop := outcomeFirstRow.holds Try.pinned (OpenSpec.ofChange outcomeFirstWrong)

/-- 'vinculumlaw18.OutcomeOnce': WHATEVER THE INPUT: true; the input reads as it did. -/
def outcomeOnceSpec : ChangeSpec := { name := "outcomeOnce", fn := fun _ => fun
  | [d1, d2] => { results := [.lit (.bool true)], args := [d1, d2] }
  | _ => none }
def outcomeOnceRow : OpenClaim := { program := "ytamahfpfminhoaa", sum := "1f75b6ab48eae4c4bc39ac2bd9833e26cb7dc3701acb83353944e729a20b3a44", func := "vinculum/vinculumlaw18.OutcomeOnce", spec := "outcomeOnce", inPlace := ["sync/atomic.AddInt64", "sync/atomic.StoreUint32", "sync/atomic.LoadUint32", "(*internal/sync.Mutex).Lock", "internal/race.Disable", "sync/atomic.CompareAndSwapInt32", "internal/race.Enable", "internal/race.Acquire", "(*internal/sync.Mutex).lockSlow", "internal/sync.runtime_canSpin", "internal/sync.runtime_doSpin", "internal/sync.throw", "internal/sync.runtime_nanotime", "internal/sync.runtime_SemacquireMutex", "sync/atomic.AddInt32", "(*internal/sync.Mutex).Unlock", "internal/race.ReleaseMerge", "(*internal/sync.Mutex).unlockSlow", "internal/sync.fatal", "internal/sync.runtime_Semrelease", "sync/atomic.LoadInt64", "sync/atomic.StoreInt64", "sync/atomic.StorePointer", "sync/atomic.LoadPointer", "sync/atomic.CompareAndSwapInt64"], unfollowed := true, recurses := true, apart := false }
def OutcomeOnceSaid : Prop := outcomeOnceRow.holds Try.pinned (OpenSpec.ofChange outcomeOnceSpec)

/-- ITS FALSE NEIGHBOUR: 'it returns false'. Refute it at one input. -/
def outcomeOnceWrong : ChangeSpec := { name := "outcomeOnce", fn := fun _ => fun
  | [d1, d2] => { results := [.lit (.bool false)], args := [d1, d2] }
  | _ => none }
def OutcomeOnceWrongFalsely : Prop := outcomeOnceRow.holds Try.pinned (OpenSpec.ofChange outcomeOnceWrong)

/-- 'vinculumlaw18.OutcomeLazy': WHATEVER THE INPUT: true; the input reads as it did. -/
def outcomeLazySpec : ChangeSpec := { name := "outcomeLazy", fn := fun _ => fun
  | [d1, d2, d3] => { results := [.lit (.bool true)], args := [d1, d2, d3] }
  | _ => none }
def outcomeLazyRow : OpenClaim := { program := "ytamahfpfminhoaa", sum := "1f75b6ab48eae4c4bc39ac2bd9833e26cb7dc3701acb83353944e729a20b3a44", func := "vinculum/vinculumlaw18.OutcomeLazy", spec := "outcomeLazy", inPlace := ["sync/atomic.LoadUint32", "sync/atomic.StoreUint32", "(*internal/sync.Mutex).Lock", "internal/race.Disable", "sync/atomic.CompareAndSwapInt32", "internal/race.Enable", "internal/race.Acquire", "(*internal/sync.Mutex).lockSlow", "internal/sync.runtime_canSpin", "internal/sync.runtime_doSpin", "internal/sync.throw", "internal/sync.runtime_nanotime", "internal/sync.runtime_SemacquireMutex", "sync/atomic.AddInt32", "(*internal/sync.Mutex).Unlock", "internal/race.ReleaseMerge", "(*internal/sync.Mutex).unlockSlow", "internal/sync.fatal", "internal/sync.runtime_Semrelease", "sync/atomic.StorePointer", "sync/atomic.LoadPointer", "sync/atomic.StoreInt64", "sync/atomic.AddInt64", "sync/atomic.LoadInt64", "sync/atomic.CompareAndSwapInt64"], unfollowed := true, recurses := true, apart := false }
def OutcomeLazySaid : Prop := outcomeLazyRow.holds Try.pinned (OpenSpec.ofChange outcomeLazySpec)

/-- ITS FALSE NEIGHBOUR: 'it returns false'. Refute it at one input. -/
def outcomeLazyWrong : ChangeSpec := { name := "outcomeLazy", fn := fun _ => fun
  | [d1, d2, d3] => { results := [.lit (.bool false)], args := [d1, d2, d3] }
  | _ => none }
def OutcomeLazyWrongFalsely : Prop := outcomeLazyRow.holds Try.pinned (OpenSpec.ofChange outcomeLazyWrong)

/-- 'vinculumlaw18.OutcomeGates': WHATEVER THE INPUT: true; the input reads as it did. -/
def outcomeGatesSpec : ChangeSpec := { name := "outcomeGates", fn := fun _ => fun
  | [d1, d2] => { results := [.lit (.bool true)], args := [d1, d2] }
  | _ => none }
def outcomeGatesRow : OpenClaim := { program := "ytamahfpfminhoaa", sum := "1f75b6ab48eae4c4bc39ac2bd9833e26cb7dc3701acb83353944e729a20b3a44", func := "vinculum/vinculumlaw18.OutcomeGates", spec := "outcomeGates", inPlace := ["sync/atomic.StoreInt64", "sync/atomic.LoadInt64", "sync/atomic.CompareAndSwapInt64", "sync/atomic.AddInt64", "sync/atomic.StoreUint32", "sync/atomic.LoadUint32", "(*internal/sync.Mutex).Lock", "internal/race.Disable", "sync/atomic.CompareAndSwapInt32", "internal/race.Enable", "internal/race.Acquire", "(*internal/sync.Mutex).lockSlow", "internal/sync.runtime_canSpin", "internal/sync.runtime_doSpin", "internal/sync.throw", "internal/sync.runtime_nanotime", "internal/sync.runtime_SemacquireMutex", "sync/atomic.AddInt32", "(*internal/sync.Mutex).Unlock", "internal/race.ReleaseMerge", "(*internal/sync.Mutex).unlockSlow", "internal/sync.fatal", "internal/sync.runtime_Semrelease", "sync/atomic.StorePointer", "sync/atomic.LoadPointer"], unfollowed := true, recurses := true, apart := false }
def OutcomeGatesSaid : Prop := outcomeGatesRow.holds Try.pinned (OpenSpec.ofChange outcomeGatesSpec)

/-- ITS FALSE NEIGHBOUR: 'it returns false'. Refute it at one input. -/
def outcomeGatesWrong : ChangeSpec := { name := "outcomeGates", fn := fun _ => fun
  | [d1, d2] => { results := [.lit (.bool false)], args := [d1, d2] }
  | _ => none }
def OutcomeGatesWrongFalsely : Prop := outcomeGatesRow.holds Try.pinned (OpenSpec.ofChange outcomeGatesWrong)

/- THE SECOND FORM. 'bulk': how many values and letters a reading holds, each counted each time it is reached (what is shared counts as often as it is met; a slice's spare places count too). A statement '..UptoSaid' is the law's where the arguments, and the package variables that the reading takes, are together of bulk at most 1048576: NARROWER than '..Said'. Prove '..Said' where nothing that the law and all that it calls make is longer than what came in: it says more and counts as full. Else prove '..UptoSaid'. A law counts once. -/
mutual
def uptoBulk {H : Type} : DataW H → Nat
  | .lit (.string bytes) => bytes.length + 1
  | .lit _ => 1
  | .nil => 1
  | .ptr d => uptoBulk d + 1
  | .slice elems spare => uptoBulkAll elems + uptoBulkAll spare + 1
  | .agg parts => uptoBulkAll parts + 1
  | .iface _ d => uptoBulk d + 1
  | .map entries => uptoBulkEntries entries + 1
  | .held _ => 1
def uptoBulkAll {H : Type} : List (DataW H) → Nat
  | [] => 0
  | d :: r => uptoBulk d + uptoBulkAll r
def uptoBulkEntries {H : Type} : List (Lit × DataW H) → Nat
  | [] => 0
  | x :: r => uptoBulkEntry x + uptoBulkEntries r
def uptoBulkEntry {H : Type} : Lit × DataW H → Nat
  | (.string bytes, d) => bytes.length + uptoBulk d + 1
  | (_, d) => uptoBulk d + 1
 end
def uptoSmall : (H : Type) → List (DataW H) → Bool := fun _ ds => decide (uptoBulkAll ds ≤ 1048576)
def OpenSpec.upto (s : _root_.Go.ChangeSpec) : _root_.Go.OpenSpec := { _root_.Go.OpenSpec.ofChange s with cond := some uptoSmall }

/-- 'vinculumlaw18.OutcomeFirst', WHERE WHAT IT READS IS OF BULK AT MOST 1048576: true; the input reads as it did. -/
def outcomeFirstUptoRow : OpenClaim := { program := "ytamahfpfminhoaa", sum := "1f75b6ab48eae4c4bc39ac2bd9833e26cb7dc3701acb83353944e729a20b3a44", func := "vinculum/vinculumlaw18.OutcomeFirst", spec := "outcomeFirst", inPlace := ["sync/atomic.AddInt64", "sync/atomic.StoreUint32", "sync/atomic.LoadUint32", "(*internal/sync.Mutex).Lock", "internal/race.Disable", "sync/atomic.CompareAndSwapInt32", "internal/race.Enable", "internal/race.Acquire", "(*internal/sync.Mutex).lockSlow", "internal/sync.runtime_canSpin", "internal/sync.runtime_doSpin", "internal/sync.throw", "internal/sync.runtime_nanotime", "internal/sync.runtime_SemacquireMutex", "sync/atomic.AddInt32", "(*internal/sync.Mutex).Unlock", "internal/race.ReleaseMerge", "(*internal/sync.Mutex).unlockSlow", "internal/sync.fatal", "internal/sync.runtime_Semrelease", "sync/atomic.LoadInt64", "sync/atomic.StoreInt64", "sync/atomic.StorePointer", "sync/atomic.LoadPointer", "sync/atomic.CompareAndSwapInt64"], unfollowed := true, recurses := true, apart := false, narrowed := true }
def OutcomeFirstUptoSaid : Prop := outcomeFirstUptoRow.holds Try.pinned (OpenSpec.upto outcomeFirstSpec)

/-- 'vinculumlaw18.OutcomeOnce', WHERE WHAT IT READS IS OF BULK AT MOST 1048576: true; the input reads as it did. -/
def outcomeOnceUptoRow : OpenClaim := { program := "ytamahfpfminhoaa", sum := "1f75b6ab48eae4c4bc39ac2bd9833e26cb7dc3701acb83353944e729a20b3a44", func := "vinculum/vinculumlaw18.OutcomeOnce", spec := "outcomeOnce", inPlace := ["sync/atomic.AddInt64", "sync/atomic.StoreUint32", "sync/atomic.LoadUint32", "(*internal/sync.Mutex).Lock", "internal/race.Disable", "sync/atomic.CompareAndSwapInt32", "internal/race.Enable", "internal/race.Acquire", "(*internal/sync.Mutex).lockSlow", "internal/sync.runtime_canSpin", "internal/sync.runtime_doSpin", "internal/sync.throw", "internal/sync.runtime_nanotime", "internal/sync.runtime_SemacquireMutex", "sync/atomic.AddInt32", "(*internal/sync.Mutex).Unlock", "internal/race.ReleaseMerge", "(*internal/sync.Mutex).unlockSlow", "internal/sync.fatal", "internal/sync.runtime_Semrelease", "sync/atomic.LoadInt64", "sync/atomic.StoreInt64", "sync/atomic.StorePointer", "sync/atomic.LoadPointer", "sync/atomic.CompareAndSwapInt64"], unfollowed := true, recurses := true, apart := false, narrowed := true }
def OutcomeOnceUptoSaid : Prop := outcomeOnceUptoRow.holds Try.pinned (OpenSpec.upto outcomeOnceSpec)

/-- 'vinculumlaw18.OutcomeLazy', WHERE WHAT IT READS IS OF BULK AT MOST 1048576: true; the input reads as it did. -/
def outcomeLazyUptoRow : OpenClaim := { program := "ytamahfpfminhoaa", sum := "1f75b6ab48eae4c4bc39ac2bd9833e26cb7dc3701acb83353944e729a20b3a44", func := "vinculum/vinculumlaw18.OutcomeLazy", spec := "outcomeLazy", inPlace := ["sync/atomic.LoadUint32", "sync/atomic.StoreUint32", "(*internal/sync.Mutex).Lock", "internal/race.Disable", "sync/atomic.CompareAndSwapInt32", "internal/race.Enable", "internal/race.Acquire", "(*internal/sync.Mutex).lockSlow", "internal/sync.runtime_canSpin", "internal/sync.runtime_doSpin", "internal/sync.throw", "internal/sync.runtime_nanotime", "internal/sync.runtime_SemacquireMutex", "sync/atomic.AddInt32", "(*internal/sync.Mutex).Unlock", "internal/race.ReleaseMerge", "(*internal/sync.Mutex).unlockSlow", "internal/sync.fatal", "internal/sync.runtime_Semrelease", "sync/atomic.StorePointer", "sync/atomic.LoadPointer", "sync/atomic.StoreInt64", "sync/atomic.AddInt64", "sync/atomic.LoadInt64", "sync/atomic.CompareAndSwapInt64"], unfollowed := true, recurses := true, apart := false, narrowed := true }
def OutcomeLazyUptoSaid : Prop := outcomeLazyUptoRow.holds Try.pinned (OpenSpec.upto outcomeLazySpec)

/-- 'vinculumlaw18.OutcomeGates', WHERE WHAT IT READS IS OF BULK AT MOST 1048576: true; the input reads as it did. -/
def outcomeGatesUptoRow : OpenClaim := { program := "ytamahfpfminhoaa", sum := "1f75b6ab48eae4c4bc39ac2bd9833e26cb7dc3701acb83353944e729a20b3a44", func := "vinculum/vinculumlaw18.OutcomeGates", spec := "outcomeGates", inPlace := ["sync/atomic.StoreInt64", "sync/atomic.LoadInt64", "sync/atomic.CompareAndSwapInt64", "sync/atomic.AddInt64", "sync/atomic.StoreUint32", "sync/atomic.LoadUint32", "(*internal/sync.Mutex).Lock", "internal/race.Disable", "sync/atomic.CompareAndSwapInt32", "internal/race.Enable", "internal/race.Acquire", "(*internal/sync.Mutex).lockSlow", "internal/sync.runtime_canSpin", "internal/sync.runtime_doSpin", "internal/sync.throw", "internal/sync.runtime_nanotime", "internal/sync.runtime_SemacquireMutex", "sync/atomic.AddInt32", "(*internal/sync.Mutex).Unlock", "internal/race.ReleaseMerge", "(*internal/sync.Mutex).unlockSlow", "internal/sync.fatal", "internal/sync.runtime_Semrelease", "sync/atomic.StorePointer", "sync/atomic.LoadPointer"], unfollowed := true, recurses := true, apart := false, narrowed := true }
def OutcomeGatesUptoSaid : Prop := outcomeGatesUptoRow.holds Try.pinned (OpenSpec.upto outcomeGatesSpec)

end Rows
end Go.Proofs.Ytamahfpfminhoaa
