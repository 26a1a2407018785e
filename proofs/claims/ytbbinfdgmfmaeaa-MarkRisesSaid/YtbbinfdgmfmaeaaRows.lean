/-
  No cell of these rows narrows 'for every input' (looked for: loops, veiled, ifaces, maps, wideKeys, modest, calm, conditions, laid).
  DERIVED. THE GIVEN ROWS OF THIS SEAT. 4 by the template 'for every input the law returns true; each argument reads behind the call as it read before'; 0 by the template 'total and deterministic' (their statements: YtbbinfdgmfmaeaaTotals.lean).
  GIVEN WITH THE SEED: the statements are not yours to turn. If you find one false, say at which input.
  Laid BY PROGRAM, IN A SANDBOX (cutbox-rows.mjs): the forced cells as the released guide's own fill.sh prints them over the translation ce0108249cd2df30… (all of the seat's roots in one cut). By AI agents, Wed Nov 11 2026. No macro, syntax, notation, axiom, sorry.
-/
import Derived.Test.YtbbinfdgmfmaeaaChecked
import GoSem.Claim
import GoSem.ClaimJoined
import GoSem.ClaimMapViews
import Derived.JoinedTies
import Derived.KernelRfl
namespace Go.Proofs.Ytbbinfdgmfmaeaa
/- THE CELL 'sum', in the pinned program and in every row, IS THE sha256 OF THE DUMP (.gsa) THAT YtbbinfdgmfmaeaaProg.lean LOADS. Nothing in Lean hashes anything: it is a label: what it is worth is what the hold of that sum in a sandbox is worth. -/
noncomputable def Try.pinned : Pinned := { name := "ytbbinfdgmfmaeaa", sum := "ce0108249cd2df30426bef6d9f82674aa93488f71b7ea3ef0c14b529d1910d8f", checked := Try.checked }
namespace Rows
def none {H : Type} : Left H := { results := [], args := [] }

/-- 'vinculumlaw17.MarkBag': WHATEVER THE INPUT: true; the input reads as it did. -/
def markBagSpec : ChangeSpec := { name := "markBag", fn := fun _ => fun
  | [d1, d2] => { results := [.lit (.bool true)], args := [d1, d2] }
  | _ => none }
def markBagRow : OpenClaim := { program := "ytbbinfdgmfmaeaa", sum := "ce0108249cd2df30426bef6d9f82674aa93488f71b7ea3ef0c14b529d1910d8f", func := "vinculum/vinculumlaw17.MarkBag", spec := "markBag", inPlace := ["sync/atomic.StorePointer", "sync/atomic.LoadPointer", "sync/atomic.LoadInt64", "sync/atomic.CompareAndSwapInt64", "sync/atomic.StoreInt64", "sync/atomic.CompareAndSwapPointer"], unfollowed := true, recurses := true, apart := false }
def MarkBagSaid : Prop := markBagRow.holds Try.pinned (OpenSpec.ofChange markBagSpec)

/-- ITS FALSE NEIGHBOUR: 'it returns false'. Refute it at one input. -/
def markBagWrong : ChangeSpec := { name := "markBag", fn := fun _ => fun
  | [d1, d2] => { results := [.lit (.bool false)], args := [d1, d2] }
  | _ => none }
def MarkBagWrongFalsely : Prop := markBagRow.holds Try.pinned (OpenSpec.ofChange markBagWrong)

/-- 'vinculumlaw17.MarkRises': WHATEVER THE INPUT: true; the input reads as it did. -/
def markRisesSpec : ChangeSpec := { name := "markRises", fn := fun _ => fun
  | [d1, d2, d3, d4] => { results := [.lit (.bool true)], args := [d1, d2, d3, d4] }
  | _ => none }
def markRisesRow : OpenClaim := { program := "ytbbinfdgmfmaeaa", sum := "ce0108249cd2df30426bef6d9f82674aa93488f71b7ea3ef0c14b529d1910d8f", func := "vinculum/vinculumlaw17.MarkRises", spec := "markRises", inPlace := ["sync/atomic.StorePointer", "sync/atomic.LoadPointer", "sync/atomic.LoadInt64", "sync/atomic.CompareAndSwapInt64", "sync/atomic.StoreInt64", "sync/atomic.CompareAndSwapPointer"], unfollowed := true, recurses := true, apart := false }
def MarkRisesSaid : Prop := markRisesRow.holds Try.pinned (OpenSpec.ofChange markRisesSpec)

/-- ITS FALSE NEIGHBOUR: 'it returns false'. Refute it at one input. -/
def markRisesWrong : ChangeSpec := { name := "markRises", fn := fun _ => fun
  | [d1, d2, d3, d4] => { results := [.lit (.bool false)], args := [d1, d2, d3, d4] }
  | _ => none }
def MarkRisesWrongFalsely : Prop := markRisesRow.holds Try.pinned (OpenSpec.ofChange markRisesWrong)

/-- 'vinculumlaw17.MarkPlays': WHATEVER THE INPUT: true; the input reads as it did. -/
def markPlaysSpec : ChangeSpec := { name := "markPlays", fn := fun _ => fun
  | [d1, d2] => { results := [.lit (.bool true)], args := [d1, d2] }
  | _ => none }
def markPlaysRow : OpenClaim := { program := "ytbbinfdgmfmaeaa", sum := "ce0108249cd2df30426bef6d9f82674aa93488f71b7ea3ef0c14b529d1910d8f", func := "vinculum/vinculumlaw17.MarkPlays", spec := "markPlays", inPlace := ["sync/atomic.StorePointer", "sync/atomic.LoadPointer", "sync/atomic.LoadInt64", "sync/atomic.CompareAndSwapInt64", "sync/atomic.StoreInt64", "sync/atomic.CompareAndSwapPointer"], unfollowed := true, recurses := true, apart := false }
def MarkPlaysSaid : Prop := markPlaysRow.holds Try.pinned (OpenSpec.ofChange markPlaysSpec)

/-- ITS FALSE NEIGHBOUR: 'it returns false'. Refute it at one input. -/
def markPlaysWrong : ChangeSpec := { name := "markPlays", fn := fun _ => fun
  | [d1, d2] => { results := [.lit (.bool false)], args := [d1, d2] }
  | _ => none }
def MarkPlaysWrongFalsely : Prop := markPlaysRow.holds Try.pinned (OpenSpec.ofChange markPlaysWrong)

/-- 'vinculumlaw17.MarkGarbage': WHATEVER THE INPUT: true; the input reads as it did. -/
def markGarbageSpec : ChangeSpec := { name := "markGarbage", fn := fun _ => fun
  | [d1, d2, d3, d4, d5] => { results := [.lit (.bool true)], args := [d1, d2, d3, d4, d5] }
  | _ => none }
def markGarbageRow : OpenClaim := { program := "ytbbinfdgmfmaeaa", sum := "ce0108249cd2df30426bef6d9f82674aa93488f71b7ea3ef0c14b529d1910d8f", func := "vinculum/vinculumlaw17.MarkGarbage", spec := "markGarbage", inPlace := ["sync/atomic.StorePointer", "sync/atomic.LoadPointer", "sync/atomic.LoadInt64", "sync/atomic.CompareAndSwapInt64", "sync/atomic.StoreInt64", "sync/atomic.CompareAndSwapPointer"], unfollowed := true, recurses := true, apart := false }
def MarkGarbageSaid : Prop := markGarbageRow.holds Try.pinned (OpenSpec.ofChange markGarbageSpec)

/-- ITS FALSE NEIGHBOUR: 'it returns false'. Refute it at one input. -/
def markGarbageWrong : ChangeSpec := { name := "markGarbage", fn := fun _ => fun
  | [d1, d2, d3, d4, d5] => { results := [.lit (.bool false)], args := [d1, d2, d3, d4, d5] }
  | _ => none }
def MarkGarbageWrongFalsely : Prop := markGarbageRow.holds Try.pinned (OpenSpec.ofChange markGarbageWrong)

/- THE SECOND FORM. 'bulk': how many values and letters a reading holds, each counted each time it is reached (what is shared counts as often as it is met; a slice's spare places count too). A statement '..UptoSaid' is the law's where the arguments, and the package variables that the reading takes, are together of bulk at most 1048576: NARROWER than '..Said'. Prove '..Said' where nothing that the law and all that it calls make is longer than what came in: it says more and counts as full. Else prove '..UptoSaid'. A law counts once. -/
mutual
def uptoBulk {H : Type} : DataW H → Nat
  | .lit (.string bytes) => bytes.length + 1
  | .lit _ => 1
  | .nil => 1
  | .ptr d => uptoBulk d + 1
  | .slice elems spare => uptoBulkAll elems + uptoBulkAll spare + 1
  | .agg parts => uptoBulkAll parts + 1
  | .iface _ d => uptoBulk d + 1
  | .map entries => uptoBulkEntries entries + 1
  | .held _ => 1
def uptoBulkAll {H : Type} : List (DataW H) → Nat
  | [] => 0
  | d :: r => uptoBulk d + uptoBulkAll r
def uptoBulkEntries {H : Type} : List (Lit × DataW H) → Nat
  | [] => 0
  | x :: r => uptoBulkEntry x + uptoBulkEntries r
def uptoBulkEntry {H : Type} : Lit × DataW H → Nat
  | (.string bytes, d) => bytes.length + uptoBulk d + 1
  | (_, d) => uptoBulk d + 1
 end
def uptoSmall : (H : Type) → List (DataW H) → Bool := fun _ ds => decide (uptoBulkAll ds ≤ 1048576)
def OpenSpec.upto (s : _root_.Go.ChangeSpec) : _root_.Go.OpenSpec := { _root_.Go.OpenSpec.ofChange s with cond := some uptoSmall }

/-- 'vinculumlaw17.MarkBag', WHERE WHAT IT READS IS OF BULK AT MOST 1048576: true; the input reads as it did. -/
def markBagUptoRow : OpenClaim := { program := "ytbbinfdgmfmaeaa", sum := "ce0108249cd2df30426bef6d9f82674aa93488f71b7ea3ef0c14b529d1910d8f", func := "vinculum/vinculumlaw17.MarkBag", spec := "markBag", inPlace := ["sync/atomic.StorePointer", "sync/atomic.LoadPointer", "sync/atomic.LoadInt64", "sync/atomic.CompareAndSwapInt64", "sync/atomic.StoreInt64", "sync/atomic.CompareAndSwapPointer"], unfollowed := true, recurses := true, apart := false, narrowed := true }
def MarkBagUptoSaid : Prop := markBagUptoRow.holds Try.pinned (OpenSpec.upto markBagSpec)

/-- 'vinculumlaw17.MarkRises', WHERE WHAT IT READS IS OF BULK AT MOST 1048576: true; the input reads as it did. -/
def markRisesUptoRow : OpenClaim := { program := "ytbbinfdgmfmaeaa", sum := "ce0108249cd2df30426bef6d9f82674aa93488f71b7ea3ef0c14b529d1910d8f", func := "vinculum/vinculumlaw17.MarkRises", spec := "markRises", inPlace := ["sync/atomic.StorePointer", "sync/atomic.LoadPointer", "sync/atomic.LoadInt64", "sync/atomic.CompareAndSwapInt64", "sync/atomic.StoreInt64", "sync/atomic.CompareAndSwapPointer"], unfollowed := true, recurses := true, apart := false, narrowed := true }
def MarkRisesUptoSaid : Prop := markRisesUptoRow.holds Try.pinned (OpenSpec.upto markRisesSpec)

/-- 'vinculumlaw17.MarkPlays', WHERE WHAT IT READS IS OF BULK AT MOST 1048576: true; the input reads as it did. -/
def markPlaysUptoRow : OpenClaim := { program := "ytbbinfdgmfmaeaa", sum := "ce0108249cd2df30426bef6d9f82674aa93488f71b7ea3ef0c14b529d1910d8f", func := "vinculum/vinculumlaw17.MarkPlays", spec := "markPlays", inPlace := ["sync/atomic.StorePointer", "sync/atomic.LoadPointer", "sync/atomic.LoadInt64", "sync/atomic.CompareAndSwapInt64", "sync/atomic.StoreInt64", "sync/atomic.CompareAndSwapPointer"], unfollowed := true, recurses := true, apart := false, narrowed := true }
def MarkPlaysUptoSaid : Prop := markPlaysUptoRow.holds Try.pinned (OpenSpec.upto markPlaysSpec)

/-- 'vinculumlaw17.MarkGarbage', WHERE WHAT IT READS IS OF BULK AT MOST 1048576: true; the input reads as it did. -/
def markGarbageUptoRow : OpenClaim := { program := "ytbbinfdgmfmaeaa", sum := "ce0108249cd2df30426bef6d9f82674aa93488f71b7ea3ef0c14b529d1910d8f", func := "vinculum/vinculumlaw17.MarkGarbage", spec := "markGarbage", inPlace := ["sync/atomic.StorePointer", "sync/atomic.LoadPointer", "sync/atomic.LoadInt64", "sync/atomic.CompareAndSwapInt64", "sync/atomic.StoreInt64", "sync/atomic.CompareAndSwapPointer"], unfollowed := true, recurses := true, apart := false, narrowed := true }
def MarkGarbageUptoSaid : Prop := markGarbageUptoRow.holds Try.pinned (OpenSpec.upto markGarbageSpec)

end Rows
end Go.Proofs.Ytbbinfdgmfmaeaa
