/- The values that a Model of whole calls takes and gives (layer 19): calls, results, Pairs, Confs, Statuses. No condition. -/
import Derived.Test.YtalkfnblnlcklaaDoorMoI
import Derived.Test.YtalkfnblnlcklaaDoorOwnM
namespace Go.Proofs.YtalkfnblnlcklaaDoor
open Go.ChangeShapes Go.WideShapes Go.ChangeAt Go.RowKit
set_option linter.unusedVariables false

def prI (p : Int × Int) : List Value := [.int .i64 p.1, .int .i64 p.2]
theorem prI_len (p : Int × Int) : (prI p).length = 2 := rfl
abbrev OwnPr (w : World) (v : Value) (l : List (Int × Int)) : Prop := OwnM 2 prI 50 w v l
theorem info_pr : (Tryd.prog.info? 50).map (fun i => (i.zero, i.size, i.bytes)) = some (some (.agg #[.int .i64 0, .int .i64 0]), 2, 16) := by kernel_rfl
/-- What a call answers that tells a list of Pairs of its own. -/
def ToldPr (w : World) (l : List (Int × Int)) (e : Ending) (w' : World) : Prop := ∃ u, e = .returned u ∧ OwnPr w' u l ∧ (∀ g, u.ownBlock = some g → w.heap.size ≤ g) ∧ Keep (fun _ => False) w w'
/-- A result as a value, its Pairs told by u. -/
def reV (r : ReI) (u : Value) : Value := .agg #[.int .i64 r.e, .int .i64 r.val, u, .int .i64 r.over, .int .i64 r.reason]
/-- A call as a value. -/
def opV (o : OpI) : Value := .agg #[.int .i64 o.kind, .int .i64 o.key, .int .i64 o.hi, .int .i64 o.val]
/-- A Conf as a value. -/
def cfV (slots limit : Int) : Value := .agg #[.int .i64 slots, .int .u64 limit]
/-- A Status as a value; of a transaction. -/
def stV (l : Bool) (id' level st start ops : Int) : Value := .agg #[.bool l, .bool false, .bool false, .int .i64 id', .int .i64 level, .int .i64 st, .int .u64 start, .int .u64 0, .int .i64 ops]
/-- What is told of a session. -/
def MoI.statV (m : MoI) (s : Int) : Value := if s < 0 ∨ 7 < s then stV false 0 0 0 0 0 else if (m.s s.toNat).id = 0 then stV false 0 0 0 0 0 else stV true (m.s s.toNat).id (m.s s.toNat).level 1 (m.s s.toNat).start (m.s s.toNat).ops
end Go.Proofs.YtalkfnblnlcklaaDoor
