/-
  No cell of these rows narrows 'for every input' (looked for: loops, veiled, ifaces, maps, wideKeys, modest, calm, conditions, laid).
  DERIVED. THE GIVEN ROWS OF THIS SEAT. 5 by the template 'for every input the law returns true; each argument reads behind the call as it read before'; 0 by the template 'total and deterministic' (their statements: YteaanaggcenloaaTotals.lean).
  GIVEN WITH THE SEED: the statements are not yours to turn. If you find one false, say at which input.
  Laid BY PROGRAM, IN A SANDBOX (cutbox-rows.mjs): the forced cells as the released guide's own fill.sh prints them over the translation 86e9c645a7ff24a0… (all of the seat's roots in one cut). By AI agents, Wed Nov 11 2026. No macro, syntax, notation, axiom, sorry.
-/
import Derived.Test.YteaanaggcenloaaChecked
import GoSem.Claim
import GoSem.ClaimJoined
import GoSem.ClaimMapViews
import Derived.JoinedTies
import Derived.KernelRfl
namespace Go.Proofs.Yteaanaggcenloaa
/- THE CELL 'sum', in the pinned program and in every row, IS THE sha256 OF THE DUMP (.gsa) THAT YteaanaggcenloaaProg.lean LOADS. Nothing in Lean hashes anything: it is a label: what it is worth is what the hold of that sum in a sandbox is worth. -/
noncomputable def Try.pinned : Pinned := { name := "yteaanaggcenloaa", sum := "86e9c645a7ff24a010875d3bbaa0c84bfab324b15360cdcbffa457ee23e76115", checked := Try.checked }
namespace Rows
def none {H : Type} : Left H := { results := [], args := [] }

/-- 'vinculumlaw11.TowerNext': WHATEVER THE INPUT: true; the input reads as it did. -/
def towerNextSpec : ChangeSpec := { name := "towerNext", fn := fun _ => fun
  | [d1, d2, d3] => { results := [.lit (.bool true)], args := [d1, d2, d3] }
  | _ => none }
def towerNextRow : OpenClaim := { program := "yteaanaggcenloaa", sum := "86e9c645a7ff24a010875d3bbaa0c84bfab324b15360cdcbffa457ee23e76115", func := "vinculum/vinculumlaw11.TowerNext", spec := "towerNext", inPlace := ["sync/atomic.AddInt64", "sync/atomic.LoadUint64", "sync/atomic.StoreUint64"], apart := false }
def TowerNextSaid : Prop := towerNextRow.holds Try.pinned (OpenSpec.ofChange towerNextSpec)

/-- ITS FALSE NEIGHBOUR: 'it returns false'. Refute it at one input. -/
def towerNextWrong : ChangeSpec := { name := "towerNext", fn := fun _ => fun
  | [d1, d2, d3] => { results := [.lit (.bool false)], args := [d1, d2, d3] }
  | _ => none }
def TowerNextWrongFalsely : Prop := towerNextRow.holds Try.pinned (OpenSpec.ofChange towerNextWrong)

/-- 'vinculumlaw11.TowerHeights': WHATEVER THE INPUT: true; the input reads as it did. -/
def towerHeightsSpec : ChangeSpec := { name := "towerHeights", fn := fun _ => fun
  | [d1, d2, d3] => { results := [.lit (.bool true)], args := [d1, d2, d3] }
  | _ => none }
def towerHeightsRow : OpenClaim := { program := "yteaanaggcenloaa", sum := "86e9c645a7ff24a010875d3bbaa0c84bfab324b15360cdcbffa457ee23e76115", func := "vinculum/vinculumlaw11.TowerHeights", spec := "towerHeights", inPlace := ["sync/atomic.AddInt64", "sync/atomic.LoadUint64", "sync/atomic.StoreUint64"], apart := false }
def TowerHeightsSaid : Prop := towerHeightsRow.holds Try.pinned (OpenSpec.ofChange towerHeightsSpec)

/-- ITS FALSE NEIGHBOUR: 'it returns false'. Refute it at one input. -/
def towerHeightsWrong : ChangeSpec := { name := "towerHeights", fn := fun _ => fun
  | [d1, d2, d3] => { results := [.lit (.bool false)], args := [d1, d2, d3] }
  | _ => none }
def TowerHeightsWrongFalsely : Prop := towerHeightsRow.holds Try.pinned (OpenSpec.ofChange towerHeightsWrong)

/-- 'vinculumlaw11.TowerPlays': WHATEVER THE INPUT: true; the input reads as it did. -/
def towerPlaysSpec : ChangeSpec := { name := "towerPlays", fn := fun _ => fun
  | [d1, d2, d3] => { results := [.lit (.bool true)], args := [d1, d2, d3] }
  | _ => none }
def towerPlaysRow : OpenClaim := { program := "yteaanaggcenloaa", sum := "86e9c645a7ff24a010875d3bbaa0c84bfab324b15360cdcbffa457ee23e76115", func := "vinculum/vinculumlaw11.TowerPlays", spec := "towerPlays", inPlace := ["sync/atomic.AddInt64", "sync/atomic.LoadUint64", "sync/atomic.StoreUint64"], apart := false }
def TowerPlaysSaid : Prop := towerPlaysRow.holds Try.pinned (OpenSpec.ofChange towerPlaysSpec)

/-- ITS FALSE NEIGHBOUR: 'it returns false'. Refute it at one input. -/
def towerPlaysWrong : ChangeSpec := { name := "towerPlays", fn := fun _ => fun
  | [d1, d2, d3] => { results := [.lit (.bool false)], args := [d1, d2, d3] }
  | _ => none }
def TowerPlaysWrongFalsely : Prop := towerPlaysRow.holds Try.pinned (OpenSpec.ofChange towerPlaysWrong)

/-- 'vinculumlaw11.TowerLevels': WHATEVER THE INPUT: true; the input reads as it did. -/
def towerLevelsSpec : ChangeSpec := { name := "towerLevels", fn := fun _ => fun
  | [d1, d2, d3] => { results := [.lit (.bool true)], args := [d1, d2, d3] }
  | _ => none }
def towerLevelsRow : OpenClaim := { program := "yteaanaggcenloaa", sum := "86e9c645a7ff24a010875d3bbaa0c84bfab324b15360cdcbffa457ee23e76115", func := "vinculum/vinculumlaw11.TowerLevels", spec := "towerLevels", inPlace := ["sync/atomic.AddInt64", "sync/atomic.LoadUint64", "sync/atomic.StoreUint64"], apart := false }
def TowerLevelsSaid : Prop := towerLevelsRow.holds Try.pinned (OpenSpec.ofChange towerLevelsSpec)

/-- ITS FALSE NEIGHBOUR: 'it returns false'. Refute it at one input. -/
def towerLevelsWrong : ChangeSpec := { name := "towerLevels", fn := fun _ => fun
  | [d1, d2, d3] => { results := [.lit (.bool false)], args := [d1, d2, d3] }
  | _ => none }
def TowerLevelsWrongFalsely : Prop := towerLevelsRow.holds Try.pinned (OpenSpec.ofChange towerLevelsWrong)

/-- 'vinculumlaw11.TowerAnyway': WHATEVER THE INPUT: true; the input reads as it did. -/
def towerAnywaySpec : ChangeSpec := { name := "towerAnyway", fn := fun _ => fun
  | [d1, d2, d3, d4] => { results := [.lit (.bool true)], args := [d1, d2, d3, d4] }
  | _ => none }
def towerAnywayRow : OpenClaim := { program := "yteaanaggcenloaa", sum := "86e9c645a7ff24a010875d3bbaa0c84bfab324b15360cdcbffa457ee23e76115", func := "vinculum/vinculumlaw11.TowerAnyway", spec := "towerAnyway", inPlace := ["sync/atomic.AddInt64", "sync/atomic.LoadUint64", "sync/atomic.StoreUint64"], apart := false }
def TowerAnywaySaid : Prop := towerAnywayRow.holds Try.pinned (OpenSpec.ofChange towerAnywaySpec)

/-- ITS FALSE NEIGHBOUR: 'it returns false'. Refute it at one input. -/
def towerAnywayWrong : ChangeSpec := { name := "towerAnyway", fn := fun _ => fun
  | [d1, d2, d3, d4] => { results := [.lit (.bool false)], args := [d1, d2, d3, d4] }
  | _ => none }
def TowerAnywayWrongFalsely : Prop := towerAnywayRow.holds Try.pinned (OpenSpec.ofChange towerAnywayWrong)

/- THE SECOND FORM. 'bulk': how many values and letters a reading holds, each counted each time it is reached (what is shared counts as often as it is met; a slice's spare places count too). A statement '..UptoSaid' is the law's where the arguments, and the package variables that the reading takes, are together of bulk at most 1048576: NARROWER than '..Said'. Prove '..Said' where nothing that the law and all that it calls make is longer than what came in: it says more and counts as full. Else prove '..UptoSaid'. A law counts once. -/
mutual
def uptoBulk {H : Type} : DataW H → Nat
  | .lit (.string bytes) => bytes.length + 1
  | .lit _ => 1
  | .nil => 1
  | .ptr d => uptoBulk d + 1
  | .slice elems spare => uptoBulkAll elems + uptoBulkAll spare + 1
  | .agg parts => uptoBulkAll parts + 1
  | .iface _ d => uptoBulk d + 1
  | .map entries => uptoBulkEntries entries + 1
  | .held _ => 1
def uptoBulkAll {H : Type} : List (DataW H) → Nat
  | [] => 0
  | d :: r => uptoBulk d + uptoBulkAll r
def uptoBulkEntries {H : Type} : List (Lit × DataW H) → Nat
  | [] => 0
  | x :: r => uptoBulkEntry x + uptoBulkEntries r
def uptoBulkEntry {H : Type} : Lit × DataW H → Nat
  | (.string bytes, d) => bytes.length + uptoBulk d + 1
  | (_, d) => uptoBulk d + 1
 end
def uptoSmall : (H : Type) → List (DataW H) → Bool := fun _ ds => decide (uptoBulkAll ds ≤ 1048576)
def OpenSpec.upto (s : _root_.Go.ChangeSpec) : _root_.Go.OpenSpec := { _root_.Go.OpenSpec.ofChange s with cond := some uptoSmall }

/-- 'vinculumlaw11.TowerNext', WHERE WHAT IT READS IS OF BULK AT MOST 1048576: true; the input reads as it did. -/
def towerNextUptoRow : OpenClaim := { program := "yteaanaggcenloaa", sum := "86e9c645a7ff24a010875d3bbaa0c84bfab324b15360cdcbffa457ee23e76115", func := "vinculum/vinculumlaw11.TowerNext", spec := "towerNext", inPlace := ["sync/atomic.AddInt64", "sync/atomic.LoadUint64", "sync/atomic.StoreUint64"], apart := false, narrowed := true }
def TowerNextUptoSaid : Prop := towerNextUptoRow.holds Try.pinned (OpenSpec.upto towerNextSpec)

/-- 'vinculumlaw11.TowerHeights', WHERE WHAT IT READS IS OF BULK AT MOST 1048576: true; the input reads as it did. -/
def towerHeightsUptoRow : OpenClaim := { program := "yteaanaggcenloaa", sum := "86e9c645a7ff24a010875d3bbaa0c84bfab324b15360cdcbffa457ee23e76115", func := "vinculum/vinculumlaw11.TowerHeights", spec := "towerHeights", inPlace := ["sync/atomic.AddInt64", "sync/atomic.LoadUint64", "sync/atomic.StoreUint64"], apart := false, narrowed := true }
def TowerHeightsUptoSaid : Prop := towerHeightsUptoRow.holds Try.pinned (OpenSpec.upto towerHeightsSpec)

/-- 'vinculumlaw11.TowerPlays', WHERE WHAT IT READS IS OF BULK AT MOST 1048576: true; the input reads as it did. -/
def towerPlaysUptoRow : OpenClaim := { program := "yteaanaggcenloaa", sum := "86e9c645a7ff24a010875d3bbaa0c84bfab324b15360cdcbffa457ee23e76115", func := "vinculum/vinculumlaw11.TowerPlays", spec := "towerPlays", inPlace := ["sync/atomic.AddInt64", "sync/atomic.LoadUint64", "sync/atomic.StoreUint64"], apart := false, narrowed := true }
def TowerPlaysUptoSaid : Prop := towerPlaysUptoRow.holds Try.pinned (OpenSpec.upto towerPlaysSpec)

/-- 'vinculumlaw11.TowerLevels', WHERE WHAT IT READS IS OF BULK AT MOST 1048576: true; the input reads as it did. -/
def towerLevelsUptoRow : OpenClaim := { program := "yteaanaggcenloaa", sum := "86e9c645a7ff24a010875d3bbaa0c84bfab324b15360cdcbffa457ee23e76115", func := "vinculum/vinculumlaw11.TowerLevels", spec := "towerLevels", inPlace := ["sync/atomic.AddInt64", "sync/atomic.LoadUint64", "sync/atomic.StoreUint64"], apart := false, narrowed := true }
def TowerLevelsUptoSaid : Prop := towerLevelsUptoRow.holds Try.pinned (OpenSpec.upto towerLevelsSpec)

/-- 'vinculumlaw11.TowerAnyway', WHERE WHAT IT READS IS OF BULK AT MOST 1048576: true; the input reads as it did. -/
def towerAnywayUptoRow : OpenClaim := { program := "yteaanaggcenloaa", sum := "86e9c645a7ff24a010875d3bbaa0c84bfab324b15360cdcbffa457ee23e76115", func := "vinculum/vinculumlaw11.TowerAnyway", spec := "towerAnyway", inPlace := ["sync/atomic.AddInt64", "sync/atomic.LoadUint64", "sync/atomic.StoreUint64"], apart := false, narrowed := true }
def TowerAnywayUptoSaid : Prop := towerAnywayUptoRow.holds Try.pinned (OpenSpec.upto towerAnywaySpec)

end Rows
end Go.Proofs.Yteaanaggcenloaa
