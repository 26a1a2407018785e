/- 'l = append(l, x)' of one element of one cell, of whatever type, on a slice that the call itself has made: what it holds then, where it lies, what has turned; condition: it holds at most 1,000,000. -/
import Derived.Test.YtkkjofefjepodaaOwn
import Derived.Deep.AppendLies
namespace Go.Proofs.Ytkkjofefjepodaa
open Go.ChangeShapes Go.WideShapes Go.ChangeAt Go.RowKit
set_option linter.unusedVariables false

/-- A slice of the call's own, from block B on (or nil), whose elements of one cell are zs by f. -/
abbrev OwnAt {α : Type} (B : Nat) (f : α → Value) (e : TypeId) (w : World) (v : Value) (zs : List α) : Prop := w.ownsRow B e 1 v zs.length (zs.map f)
theorem push1_lies (x : World) (u0 : Value) (e : TypeId) : ∀ j u, [u0][j]? = some u → (x.alloc (.cells #[u0] e)).cell? ((⟨x.heap.size, 0, none⟩ : Addr).add j) = some u := by
  intro j u hj
  match j, hj with
  | 0, hj => simp at hj; subst hj; simp [Addr.add]
theorem wp_push1 {α : Type} {f : α → Value} {t e : TypeId} {z : Value} {bytes : Nat} (hu : Try.prog.underlying t = some (.slice e)) (hinfo : (Try.prog.info? e).map (fun i => (i.zero, i.size, i.bytes)) = some (some z, 1, bytes))
    (hz : z.cells.size = 1) (hby : bytes ≤ 64) (h1 : ∀ x, (f x).oneCell' = true) {w : World} {ops : Array Oper} {rest : List Oper} {o : Oper} {a : Act} {Q : Exit → Act → World → Prop} (hgd : o.guard = none) (s x : Operand)
    (ho : o.op = .call { callee := .builtin .append, args := #[s, x], argTypes := #[t, t] })
    (B : Nat) (hB : B ≤ w.heap.size) (v : Value) (zs : List α) (hs : a.eval s = v) (hown : OwnAt B f e w v zs) (l : α) (hx : a.eval x = .slice (some ⟨w.heap.size, 0, none⟩) 1 1) (hl : zs.length ≤ 1000000)
    (h : ∀ g c w', OwnAt B f e w' (.slice (some ⟨g, 0, none⟩) (zs.length + 1) c) (zs ++ [l]) → Keep (fun j => v.ownBlock = some j) w w' → (v.ownBlock = some g ∨ w.heap.size ≤ g) → wpList Try.prog ops Q rest (a.put o.dst (.slice (some ⟨g, 0, none⟩) (zs.length + 1) c)) w') :
    wpList Try.prog ops Q (o :: rest) a (w.alloc (.cells #[f l] e)) := by
  obtain ⟨i0, hi0, hz0, hz1, hz2⟩ := info_parts hinfo
  refine wpList_append_lies _ hgd s x t ho B e i0 z 1 bytes hu hi0 hz0 hz1 hz2 hz (by decide) v zs.length (zs.map f) hs (World.ownsRow.alloc hown _) ⟨w.heap.size, 0, none⟩ 1 1 [f l] hx rfl (push1_lies w (f l) e) (by simp [h1]) (by decide) (by unfold maxLen; omega)
    (by have : (zs.length + 1) * bytes ≤ 1000001 * 64 := Nat.mul_le_mul (by omega) hby
        omega) (by simp; omega) (w.heap.size + 1) (by simp) ?_
  intro g c w' o1 gr hg _
  have e1 : OwnAt B f e w' (.slice (some ⟨g, 0, none⟩) (zs.length + 1) c) (zs ++ [l]) := by
    unfold OwnAt
    simpa using o1
  have k0 := Keep.alloc (Keep.refl (fun j => v.ownBlock = some j) w) (.cells #[f l] e)
  refine h g c w' e1 (k0.trans ⟨gr.os, gr.tape, gr.output, gr.size, fun j hj hn => gr.block j hj (fun e => hn e.symm)⟩) (hg.imp_right (by omega))
/-- A slice of pointers to blocks. -/
def ptrV (b : Nat) : Value := .pointer (some ⟨b, 0, none⟩)
theorem ptrV_one (b : Nat) : (ptrV b).oneCell' = true := rfl
end Go.Proofs.Ytkkjofefjepodaa
