/- A slice of api.Version that the call itself has made: append of one; no dump condition; condition: it holds at most 100,000. -/
import Derived.Test.YthmohehmpleciaaOwnM
import Derived.Test.YthmohehmpleciaaRs
import Derived.Deep.AppendLies
namespace Go.Proofs.Ythmohehmpleciaa
open Go.ChangeShapes Go.WideShapes Go.ChangeAt Go.RowKit
set_option linter.unusedVariables false

def verC (x : Ver) : List Value := [.int .i64 x.k, .int .i64 x.v, .int .u64 x.b, .int .u64 x.e, .int .u64 x.n]
abbrev verO (y : Ver) : Obj := .cells #[.int .i64 y.k, .int .i64 y.v, .int .u64 y.b, .int .u64 y.e, .int .u64 y.n] 33
theorem verC_len (x : Ver) : (verC x).length = 5 := rfl
abbrev OwnVer (w : World) (v : Value) (zs : List Ver) : Prop := OwnM 5 verC 33 w v zs
theorem info_ver : (Try.prog.info? 33).map (fun i => (i.zero, i.size, i.bytes)) = some (some (.agg #[.int .i64 0, .int .i64 0, .int .u64 0, .int .u64 0, .int .u64 0]), 5, 40) := by kernel_rfl
theorem verO_lies (x : World) (y : Ver) : ∀ j u, (verC y)[j]? = some u → (x.alloc (verO y)).cell? ((⟨x.heap.size, 0, none⟩ : Addr).add j) = some u := by
  intro j u hj
  have e : (x.alloc (verO y)).cell? ⟨x.heap.size, j, none⟩ = #[Value.int .i64 y.k, .int .i64 y.v, .int .u64 y.b, .int .u64 y.e, .int .u64 y.n][j]? := World.cell?_alloc_new _ _ _ _
  rw [add_plain, Nat.zero_add, e]
  simpa [verC] using hj
theorem wp_pushV {w : World} {ops : Array Oper} {rest : List Oper} {o : Oper} {a : Act} {Q : Exit → Act → World → Prop} (hgd : o.guard = none) (s x : Operand)
    (ho : o.op = .call { callee := .builtin .append, args := #[s, x], argTypes := #[48, 48] })
    (v : Value) (zs : List Ver) (hs : a.eval s = v) (hown : OwnVer w v zs) (y : Ver) (hx : a.eval x = .slice (some ⟨w.heap.size, 0, none⟩) 1 1) (hl : zs.length ≤ 100000)
    (h : ∀ g c w', OwnVer w' (.slice (some ⟨g, 0, none⟩) (zs.length + 1) c) (zs ++ [y]) → Keep (fun j => v.ownBlock = some j) w w' → (v.ownBlock = some g ∨ w.heap.size ≤ g) → wpList Try.prog ops Q rest (a.put o.dst (.slice (some ⟨g, 0, none⟩) (zs.length + 1) c)) w') :
    wpList Try.prog ops Q (o :: rest) a (w.alloc (verO y)) := by
  obtain ⟨i0, hi0, hz0, hz1, hz2⟩ := info_parts info_ver
  refine wpList_append_lies _ hgd s x 48 ho 0 33 i0 _ 5 40 Try.underlying48 hi0 hz0 hz1 hz2 rfl (by decide) v zs.length (zs.flatMap verC) hs (World.ownsRow.alloc hown _) ⟨w.heap.size, 0, none⟩ 1 1 (verC y) hx rfl (verO_lies w y) (by simp [verC, Value.oneCell']) (by decide) (by unfold maxLen; omega) (by omega) (Nat.zero_le _) (w.heap.size + 1) (by simp) ?_
  intro g c w' o1 gr hg _
  have e : OwnVer w' (.slice (some ⟨g, 0, none⟩) (zs.length + 1) c) (zs ++ [y]) := by
    unfold OwnVer OwnM
    simpa using o1
  have k0 := Keep.alloc (Keep.refl (fun j => v.ownBlock = some j) w) (verO y)
  refine h g c w' e (k0.trans ⟨gr.os, gr.tape, gr.output, gr.size, fun j hj hn => gr.block j hj (fun e => hn e.symm)⟩) (hg.imp_right (by omega))
end Go.Proofs.Ythmohehmpleciaa
