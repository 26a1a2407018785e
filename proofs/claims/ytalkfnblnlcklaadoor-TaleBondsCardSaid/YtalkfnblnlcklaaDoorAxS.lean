/- vinculumref20's set, laid, find: Pairs with a key's value, or without it; with a call laid over; a key's value. Condition: at most 50,000 Pairs. -/
import Derived.Test.YtalkfnblnlcklaaDoorAxL
import Derived.Test.YtalkfnblnlcklaaDoorAxI
import Derived.Test.YtalkfnblnlcklaaDoorMdV
import Derived.ChangeOld
import Derived.Deep.LoopGhost
import Derived.Deep.CutRange
import Derived.Deep.CutBlock
namespace Go.Proofs.YtalkfnblnlcklaaDoor
open Go.ChangeShapes Go.WideShapes Go.ChangeAt Go.RowKit
set_option linter.unusedVariables false
set_option linter.unusedSimpArgs false
section
variable {w w' : World} {v : Value} {l : List (Int × Int)}
abbrev LPr (w : World) (v : Value) (l : List (Int × Int)) : Prop := Lies 2 prI w v l
abbrev OPr (B : Nat) (w : World) (v : Value) (l : List (Int × Int)) : Prop := OwnB 2 prI 50 B w v l
theorem LPr.cells {A : Option Addr} {n c : Nat} (h : LPr w (.slice A n c) l) (h0 : 0 < l.length) : ∃ b off, A = some ⟨b, off, none⟩ ∧ b < w.heap.size ∧ ∀ (j : Nat) (p : Int × Int), l[j]? = some p → w.cell? ⟨b, off + j * 2, none⟩ = some (.int .i64 p.1) ∧ w.cell? ⟨b, off + j * 2 + 1, none⟩ = some (.int .i64 p.2) := by
  obtain ⟨A2, c2, e, h1, _, h3, h4⟩ := h
  cases e
  obtain ⟨b, off, rfl, hb, hc⟩ := h4 h0
  exact ⟨b, off, rfl, hb, fun j p hp => ⟨hc j p hp 0 _ rfl, hc j p hp 1 _ rfl⟩⟩
theorem LPr.form (h : LPr w v l) : ∃ A c, v = .slice A l.length c ∧ l.length ≤ c ∧ c ≤ maxLen := by
  obtain ⟨A2, c2, e, h1, h2, _⟩ := h
  exact ⟨A2, c2, e, h1, h2⟩
theorem pr_one : ∀ p : Int × Int, ∀ u ∈ prI p, u.oneCell' = true := by
  intro p q hq
  simp only [prI, List.mem_cons, List.not_mem_nil, or_false] at hq
  rcases hq with rfl | rfl <;> rfl
def AtK (K : Nat) (w : World) (i : Value) (wr : World) : Prop := ∃ k : Nat, k ≤ K ∧ i = .int .i64 k ∧ w = wr
/-- A call with its answer as a value; u tells its Pairs. -/
def clV (c : OpI × ReI) (u : Value) : Value := .agg #[.int .i64 c.1.kind, .int .i64 c.1.key, .int .i64 c.1.hi, .int .i64 c.1.val, .int .i64 c.2.e, .int .i64 c.2.val, u, .int .i64 c.2.over, .int .i64 c.2.reason]
/-- What one is told that reads as a list of Pairs, and is the call's own if v is. -/
def SeenO (w : World) (v : Value) (l0 l : List (Int × Int)) (e : Ending) (w' : World) : Prop := ∃ u, e = .returned u ∧ LPr w' u l ∧ (∀ B, B ≤ w.heap.size → OPr B w v l0 → OPr B w' u l) ∧ Keep (fun _ => False) w w'
def SeenPr (w : World) (l : List (Int × Int)) (e : Ending) (w' : World) : Prop := ∃ u, e = .returned u ∧ LPr w' u l ∧ Keep (fun _ => False) w w'
def MisK (l : List (Int × Int)) (key : Int) (n : Nat) (w : World) (i : Value) (wr : World) : Prop := ∃ k : Nat, k ≤ n ∧ i = .int .i64 k ∧ w = wr ∧ ∀ j q, j < k → l[j]? = some q → q.1 ≠ key
end
end Go.Proofs.YtalkfnblnlcklaaDoor
