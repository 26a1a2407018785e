/- 'l = append(l, x)' of one element of several cells, of whatever type, on a slice that the call itself has made: what it holds then, where it lies, what has turned; condition: it holds at most 100,000. -/
import Derived.Test.YtalkfnblnlcklaaDoorOwnM
import Derived.Deep.AppendLies
namespace Go.Proofs.YtalkfnblnlcklaaDoor
open Go.ChangeShapes Go.WideShapes Go.ChangeAt Go.RowKit
set_option linter.unusedVariables false

theorem pushM_lies {α : Type} {f : α → List Value} (e : TypeId) (w : World) (y : α) : ∀ j u, (f y)[j]? = some u → (w.alloc (.cells (f y).toArray e)).cell? ((⟨w.heap.size, 0, none⟩ : Addr).add j) = some u := by
  intro j u hj
  obtain ⟨lj, e⟩ := List.getElem?_eq_some_iff.1 hj
  rw [add_plain, Nat.zero_add]
  simp [lj, e]
theorem wp_pushM {α : Type} {mm : Nat} {f : α → List Value} {t e : TypeId} {z : Value} {bytes : Nat} (hu : Tryd.prog.underlying t = some (.slice e)) (hinfo : (Tryd.prog.info? e).map (fun i => (i.zero, i.size, i.bytes)) = some (some z, mm, bytes))
    (hz : z.cells.size = mm) (hm : 0 < mm) (hby : bytes ≤ 128) (hf : ∀ x, (f x).length = mm) (h1 : ∀ x, ∀ u ∈ f x, u.oneCell' = true) {w : World} {ops : Array Oper} {rest : List Oper} {o : Oper} {a : Act} {Q : Exit → Act → World → Prop} (hgd : o.guard = none) (s x : Operand)
    (ho : o.op = .call { callee := .builtin .append, args := #[s, x], argTypes := #[t, t] })
    (v : Value) (zs : List α) (hs : a.eval s = v) (hown : OwnM mm f e w v zs) (y : α) (hx : a.eval x = .slice (some ⟨w.heap.size, 0, none⟩) 1 1) (hl : zs.length ≤ 100000)
    (h : ∀ g c w', OwnM mm f e w' (.slice (some ⟨g, 0, none⟩) (zs.length + 1) c) (zs ++ [y]) → Keep (fun j => v.ownBlock = some j) w w' → (v.ownBlock = some g ∨ w.heap.size ≤ g) → wpList Tryd.prog ops Q rest (a.put o.dst (.slice (some ⟨g, 0, none⟩) (zs.length + 1) c)) w') :
    wpList Tryd.prog ops Q (o :: rest) a (w.alloc (.cells (f y).toArray e)) := by
  obtain ⟨i0, hi0, hz0, hz1, hz2⟩ := info_parts hinfo
  refine wpList_append_lies _ hgd s x t ho 0 e i0 z mm bytes hu hi0 hz0 hz1 hz2 hz hm v zs.length (zs.flatMap f) hs (World.ownsRow.alloc hown _) ⟨w.heap.size, 0, none⟩ 1 1 (f y) hx (by rw [hf]; omega) (pushM_lies e w y) (h1 y) (by decide) (by unfold maxLen; omega)
    (by have : (zs.length + 1) * bytes ≤ 100001 * 128 := Nat.mul_le_mul (by omega) hby
        omega) (Nat.zero_le _) (w.heap.size + 1) (by simp) ?_
  intro g c w' o1 gr hg _
  have e1 : OwnM mm f e w' (.slice (some ⟨g, 0, none⟩) (zs.length + 1) c) (zs ++ [y]) := by
    unfold OwnM
    simpa using o1
  have k0 := Keep.alloc (Keep.refl (fun j => v.ownBlock = some j) w) (.cells (f y).toArray e)
  exact h g c w' e1 (k0.trans ⟨gr.os, gr.tape, gr.output, gr.size, fun j hj hn => gr.block j hj (fun e => hn e.symm)⟩) (hg.imp_right (by omega))
/-- The same at a step of a region that draws its order. -/
theorem step_pushM {α : Type} {mm : Nat} {f : α → List Value} {t e : TypeId} {z : Value} {bytes : Nat} (hu : Tryd.prog.underlying t = some (.slice e)) (hinfo : (Tryd.prog.info? e).map (fun i => (i.zero, i.size, i.bytes)) = some (some z, mm, bytes))
    (hz : z.cells.size = mm) (hm : 0 < mm) (hby : bytes ≤ 128) (hf : ∀ x, (f x).length = mm) (h1 : ∀ x, ∀ u ∈ f x, u.oneCell' = true) {w : World} {ops : Array Oper} {o : Oper} {a : Act} {K : Act → World → Prop} {Q : Exit → Act → World → Prop} {E : Prop} (hgd : o.guard = none) (s x : Operand)
    (ho : o.op = .call { callee := .builtin .append, args := #[s, x], argTypes := #[t, t] })
    (v : Value) (zs : List α) (hs : a.eval s = v) (hown : OwnM mm f e w v zs) (y : α) (hx : a.eval x = .slice (some ⟨w.heap.size, 0, none⟩) 1 1) (hl : zs.length ≤ 100000)
    (h : ∀ g c w', OwnM mm f e w' (.slice (some ⟨g, 0, none⟩) (zs.length + 1) c) (zs ++ [y]) → Keep (fun j => v.ownBlock = some j) w w' → (v.ownBlock = some g ∨ w.heap.size ≤ g) → K (a.put o.dst (.slice (some ⟨g, 0, none⟩) (zs.length + 1) c)) w') :
    if Region.wanted o (yielded ops a.tmps) = true then Oper.wp Tryd.prog o a (w.alloc (.cells (f y).toArray e)) K Q else E := by
  obtain ⟨i0, hi0, hz0, hz1, hz2⟩ := info_parts hinfo
  refine step_append_lies _ hgd s x t ho 0 e i0 z mm bytes hu hi0 hz0 hz1 hz2 hz hm v zs.length (zs.flatMap f) hs (World.ownsRow.alloc hown _) ⟨w.heap.size, 0, none⟩ 1 1 (f y) hx (by rw [hf]; omega) (pushM_lies e w y) (h1 y) (by decide) (by unfold maxLen; omega)
    (by have : (zs.length + 1) * bytes ≤ 100001 * 128 := Nat.mul_le_mul (by omega) hby
        omega) (Nat.zero_le _) (w.heap.size + 1) (by simp) ?_
  intro g c w' o1 gr hg _
  have e1 : OwnM mm f e w' (.slice (some ⟨g, 0, none⟩) (zs.length + 1) c) (zs ++ [y]) := by
    unfold OwnM
    simpa using o1
  have k0 := Keep.alloc (Keep.refl (fun j => v.ownBlock = some j) w) (.cells (f y).toArray e)
  exact h g c w' e1 (k0.trans ⟨gr.os, gr.tape, gr.output, gr.size, fun j hj hn => gr.block j hj (fun e => hn e.symm)⟩) (hg.imp_right (by omega))
end Go.Proofs.YtalkfnblnlcklaaDoor
