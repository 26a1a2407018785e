/- Several texts, one behind the other: PushM, Push1, PushN. -/
import Derived.Test.YtalkfnblnlcklaaModelBaseDZaa
import Derived.Deep.AppendLies
/- 'l = append(l, x)' of one element of several cells, of whatever type, on a slice that the call itself has made: what it holds then, where it lies, what has turned; condition: it holds at most 100,000. -/
namespace Go.Proofs.Ytalkfnblnlcklaa
open Go.ChangeShapes Go.WideShapes Go.ChangeAt Go.RowKit
set_option linter.unusedVariables false

theorem pushM_lies {α : Type} {f : α → List Value} (e : TypeId) (w : World) (y : α) : ∀ j u, (f y)[j]? = some u → (w.alloc (.cells (f y).toArray e)).cell? ((⟨w.heap.size, 0, none⟩ : Addr).add j) = some u := by
 intro j u hj
 obtain ⟨lj, e⟩ := List.getElem?_eq_some_iff.1 hj
 rw [add_plain, Nat.zero_add]
 simp [lj, e]
theorem wp_pushM {α : Type} {mm : Nat} {f : α → List Value} {t e : TypeId} {z : Value} {bytes : Nat} (hu : Try.prog.underlying t = some (.slice e)) (hinfo : (Try.prog.info? e).map (fun i => (i.zero, i.size, i.bytes)) = some (some z, mm, bytes))
    (hz : z.cells.size = mm) (hm : 0 < mm) (hby : bytes ≤ 128) (hf : ∀ x, (f x).length = mm) (h1 : ∀ x, ∀ u ∈ f x, u.oneCell' = true) {w : World} {ops : Array Oper} {rest : List Oper} {o : Oper} {a : Act} {Q : Exit → Act → World → Prop} (hgd : o.guard = none) (s x : Operand)
    (ho : o.op = .call { callee := .builtin .append, args := #[s, x], argTypes := #[t, t] })
    (v : Value) (zs : List α) (hs : a.eval s = v) (hown : OwnM mm f e w v zs) (y : α) (hx : a.eval x = .slice (some ⟨w.heap.size, 0, none⟩) 1 1) (hl : zs.length ≤ 100000)
    (h : ∀ g c w', OwnM mm f e w' (.slice (some ⟨g, 0, none⟩) (zs.length + 1) c) (zs ++ [y]) → Keep (fun j => v.ownBlock = some j) w w' → (v.ownBlock = some g ∨ w.heap.size ≤ g) → wpList Try.prog ops Q rest (a.put o.dst (.slice (some ⟨g, 0, none⟩) (zs.length + 1) c)) w') :
    wpList Try.prog ops Q (o :: rest) a (w.alloc (.cells (f y).toArray e)) := by
  obtain ⟨i0, hi0, hz0, hz1, hz2⟩ := info_parts hinfo
  refine wpList_append_lies _ hgd s x t ho 0 e i0 z mm bytes hu hi0 hz0 hz1 hz2 hz hm v zs.length (zs.flatMap f) hs (World.ownsRow.alloc hown _) ⟨w.heap.size, 0, none⟩ 1 1 (f y) hx (by rw [hf]; omega) (pushM_lies e w y) (h1 y) (by decide) (by unfold maxLen; omega)
    (by have : (zs.length + 1) * bytes ≤ 100001 * 128 := Nat.mul_le_mul (by omega) hby
        omega) (Nat.zero_le _) (w.heap.size + 1) (by simp) ?_
  intro g c w' o1 gr hg _
  have e1 : OwnM mm f e w' (.slice (some ⟨g, 0, none⟩) (zs.length + 1) c) (zs ++ [y]) := by
    unfold OwnM
    simpa using o1
  have k0 := Keep.alloc (Keep.refl (fun j => v.ownBlock = some j) w) (.cells (f y).toArray e)
  exact h g c w' e1 (k0.trans ⟨gr.os, gr.tape, gr.output, gr.size, fun j hj hn => gr.block j hj (fun e => hn e.symm)⟩) (hg.imp_right (by omega))
/-- The same at a step of a region that draws its order. -/
theorem step_pushM {α : Type} {mm : Nat} {f : α → List Value} {t e : TypeId} {z : Value} {bytes : Nat} (hu : Try.prog.underlying t = some (.slice e)) (hinfo : (Try.prog.info? e).map (fun i => (i.zero, i.size, i.bytes)) = some (some z, mm, bytes))
    (hz : z.cells.size = mm) (hm : 0 < mm) (hby : bytes ≤ 128) (hf : ∀ x, (f x).length = mm) (h1 : ∀ x, ∀ u ∈ f x, u.oneCell' = true) {w : World} {ops : Array Oper} {o : Oper} {a : Act} {K : Act → World → Prop} {Q : Exit → Act → World → Prop} {E : Prop} (hgd : o.guard = none) (s x : Operand)
    (ho : o.op = .call { callee := .builtin .append, args := #[s, x], argTypes := #[t, t] })
    (v : Value) (zs : List α) (hs : a.eval s = v) (hown : OwnM mm f e w v zs) (y : α) (hx : a.eval x = .slice (some ⟨w.heap.size, 0, none⟩) 1 1) (hl : zs.length ≤ 100000)
    (h : ∀ g c w', OwnM mm f e w' (.slice (some ⟨g, 0, none⟩) (zs.length + 1) c) (zs ++ [y]) → Keep (fun j => v.ownBlock = some j) w w' → (v.ownBlock = some g ∨ w.heap.size ≤ g) → K (a.put o.dst (.slice (some ⟨g, 0, none⟩) (zs.length + 1) c)) w') :
    if Region.wanted o (yielded ops a.tmps) = true then Oper.wp Try.prog o a (w.alloc (.cells (f y).toArray e)) K Q else E := by
  obtain ⟨i0, hi0, hz0, hz1, hz2⟩ := info_parts hinfo
  refine step_append_lies _ hgd s x t ho 0 e i0 z mm bytes hu hi0 hz0 hz1 hz2 hz hm v zs.length (zs.flatMap f) hs (World.ownsRow.alloc hown _) ⟨w.heap.size, 0, none⟩ 1 1 (f y) hx (by rw [hf]; omega) (pushM_lies e w y) (h1 y) (by decide) (by unfold maxLen; omega)
    (by have : (zs.length + 1) * bytes ≤ 100001 * 128 := Nat.mul_le_mul (by omega) hby
        omega) (Nat.zero_le _) (w.heap.size + 1) (by simp) ?_
  intro g c w' o1 gr hg _
  have e1 : OwnM mm f e w' (.slice (some ⟨g, 0, none⟩) (zs.length + 1) c) (zs ++ [y]) := by
    unfold OwnM
    simpa using o1
  have k0 := Keep.alloc (Keep.refl (fun j => v.ownBlock = some j) w) (.cells (f y).toArray e)
  exact h g c w' e1 (k0.trans ⟨gr.os, gr.tape, gr.output, gr.size, fun j hj hn => gr.block j hj (fun e => hn e.symm)⟩) (hg.imp_right (by omega))
end Go.Proofs.Ytalkfnblnlcklaa
/- 'l = append(l, x)' of one element of one cell, of whatever type, on a slice that the call itself has made: what it holds then, where it lies, what has turned; condition: it holds at most 1,000,000. -/
namespace Go.Proofs.Ytalkfnblnlcklaa
open Go.ChangeShapes Go.WideShapes Go.ChangeAt Go.RowKit
set_option linter.unusedVariables false

/-- A slice of the call's own, from block B on (or nil), whose elements of one cell are zs by f. -/
abbrev OwnAt {α : Type} (B : Nat) (f : α → Value) (e : TypeId) (w : World) (v : Value) (zs : List α) : Prop := w.ownsRow B e 1 v zs.length (zs.map f)
theorem push1_lies (x : World) (u0 : Value) (e : TypeId) : ∀ j u, [u0][j]? = some u → (x.alloc (.cells #[u0] e)).cell? ((⟨x.heap.size, 0, none⟩ : Addr).add j) = some u := by
 intro j u hj
 match j, hj with
 | 0, hj => simp at hj; subst hj; simp [Addr.add]
theorem wp_push1 {α : Type} {f : α → Value} {t e : TypeId} {z : Value} {bytes : Nat} (hu : Try.prog.underlying t = some (.slice e)) (hinfo : (Try.prog.info? e).map (fun i => (i.zero, i.size, i.bytes)) = some (some z, 1, bytes))
    (hz : z.cells.size = 1) (hby : bytes ≤ 64) (h1 : ∀ x, (f x).oneCell' = true) {w : World} {ops : Array Oper} {rest : List Oper} {o : Oper} {a : Act} {Q : Exit → Act → World → Prop} (hgd : o.guard = none) (s x : Operand)
    (ho : o.op = .call { callee := .builtin .append, args := #[s, x], argTypes := #[t, t] })
    (B : Nat) (hB : B ≤ w.heap.size) (v : Value) (zs : List α) (hs : a.eval s = v) (hown : OwnAt B f e w v zs) (l : α) (hx : a.eval x = .slice (some ⟨w.heap.size, 0, none⟩) 1 1) (hl : zs.length ≤ 1000000)
    (h : ∀ g c w', OwnAt B f e w' (.slice (some ⟨g, 0, none⟩) (zs.length + 1) c) (zs ++ [l]) → Keep (fun j => v.ownBlock = some j) w w' → (v.ownBlock = some g ∨ w.heap.size ≤ g) → wpList Try.prog ops Q rest (a.put o.dst (.slice (some ⟨g, 0, none⟩) (zs.length + 1) c)) w') :
    wpList Try.prog ops Q (o :: rest) a (w.alloc (.cells #[f l] e)) := by
  obtain ⟨i0, hi0, hz0, hz1, hz2⟩ := info_parts hinfo
  refine wpList_append_lies _ hgd s x t ho B e i0 z 1 bytes hu hi0 hz0 hz1 hz2 hz (by decide) v zs.length (zs.map f) hs (World.ownsRow.alloc hown _) ⟨w.heap.size, 0, none⟩ 1 1 [f l] hx rfl (push1_lies w (f l) e) (by simp [h1]) (by decide) (by unfold maxLen; omega)
    (by have : (zs.length + 1) * bytes ≤ 1000001 * 64 := Nat.mul_le_mul (by omega) hby
        omega) (by simp; omega) (w.heap.size + 1) (by simp) ?_
  intro g c w' o1 gr hg _
  have e1 : OwnAt B f e w' (.slice (some ⟨g, 0, none⟩) (zs.length + 1) c) (zs ++ [l]) := by
    unfold OwnAt
    simpa using o1
  have k0 := Keep.alloc (Keep.refl (fun j => v.ownBlock = some j) w) (.cells #[f l] e)
  refine h g c w' e1 (k0.trans ⟨gr.os, gr.tape, gr.output, gr.size, fun j hj hn => gr.block j hj (fun e => hn e.symm)⟩) (hg.imp_right (by omega))
/-- A slice of pointers to blocks. -/
def ptrV (b : Nat) : Value := .pointer (some ⟨b, 0, none⟩)
theorem ptrV_one (b : Nat) : (ptrV b).oneCell' = true := rfl
end Go.Proofs.Ytalkfnblnlcklaa
/- 'l = append(l, x)' on a slice of ints that the call itself has made: what it holds then, where it lies, what has turned; condition: it holds at most 100,000. -/
namespace Go.Proofs.Ytalkfnblnlcklaa
open Go.ChangeShapes Go.WideShapes Go.ChangeAt Go.RowKit
set_option linter.unusedVariables false

/-- A slice of ints of the call's own, from block B on (or nil). -/
abbrev OwnN (B : Nat) (w : World) (v : Value) (zs : List Int) : Prop := w.ownsRow B 3 1 v zs.length (zs.map (Value.int .i64))
theorem OwnN.keep {B : Nat} {w w' : World} {v : Value} {zs : List Int} {S : Nat → Prop} (h : OwnN B w v zs) (k : Keep S w w') (hn : ∀ g, v.ownBlock = some g → ¬ S g) : OwnN B w' v zs := by
 obtain ⟨h1, h2⟩ := id h
 refine ⟨h1, ?_⟩
 rcases h2 with h2 | ⟨g, c, cur, hv, hg, hh, r⟩
 ·exact .inl h2
 ·subst hv
  exact .inr ⟨g, c, cur, rfl, hg, by rw [k.block g (lt_of_block hh) (hn g rfl)]; exact hh, r⟩
theorem OwnN.lt {B : Nat} {w : World} {v : Value} {zs : List Int} (h : OwnN B w v zs) {g : Nat} (hg : v.ownBlock = some g) : B ≤ g ∧ g < w.heap.size := World.ownsRow.lt h g hg
theorem OwnN.cell {B g n c : Nat} {w : World} {zs : List Int} (h : OwnN B w (.slice (some ⟨g, 0, none⟩) n c) zs) (i : Nat) (hi : i < zs.length) : w.cell? ⟨g, i, none⟩ = some (.int .i64 (zs.getD i 0)) := by
 have := Own.cell (Own.of_base (f := Value.int .i64) (zs := zs) h rfl rfl) i hi
 rw [this]
 simp [List.getD_eq_getElem?_getD, hi]
theorem info_pushN : (Try.prog.info? 3).map (fun i => (i.zero, i.size, i.bytes)) = some (some (.int .i64 0), 1, 8) := by kernel_rfl
theorem push_liesN (x : World) (l : Int) : ∀ j u, [Value.int .i64 l][j]? = some u → (x.alloc (.cells #[.int .i64 l] 3)).cell? ((⟨x.heap.size, 0, none⟩ : Addr).add j) = some u := by
 intro j u hj
 match j, hj with
 | 0, hj => simp at hj; subst hj; simp [Addr.add]
theorem wp_pushN {w : World} {ops : Array Oper} {rest : List Oper} {o : Oper} {a : Act} {Q : Exit → Act → World → Prop} (hgd : o.guard = none) (s x : Operand)
  (ho : o.op = .call { callee := .builtin .append, args := #[s, x], argTypes := #[96, 96] })
  (B : Nat) (hB : B ≤ w.heap.size) (v : Value) (zs : List Int) (hs : a.eval s = v) (hown : OwnN B w v zs) (l : Int) (hx : a.eval x = .slice (some ⟨w.heap.size, 0, none⟩) 1 1) (hl : zs.length ≤ 100000)
  (h : ∀ g c w', OwnN B w' (.slice (some ⟨g, 0, none⟩) (zs.length + 1) c) (zs ++ [l]) → Keep (fun j => v.ownBlock = some j) w w' → (v.ownBlock = some g ∨ w.heap.size ≤ g) → wpList Try.prog ops Q rest (a.put o.dst (.slice (some ⟨g, 0, none⟩) (zs.length + 1) c)) w') :
  wpList Try.prog ops Q (o :: rest) a (w.alloc (.cells #[.int .i64 l] 3)) := by
 obtain ⟨i0, hi0, hz0, hz1, hz2⟩ := info_parts info_pushN
 refine wpList_append_lies _ hgd s x 96 ho B 3 i0 (.int .i64 0) 1 8 Try.underlying96 hi0 hz0 hz1 hz2 rfl (by decide) v zs.length (zs.map (Value.int .i64)) hs (World.ownsRow.alloc hown _) ⟨w.heap.size, 0, none⟩ 1 1 [.int .i64 l] hx rfl (push_liesN w l) (by simp [Value.oneCell']) (by decide) (by unfold maxLen; omega) (by omega) (by simp; omega) (w.heap.size + 1) (by simp) ?_
 intro g c w' o1 gr hg _
 have e : OwnN B w' (.slice (some ⟨g, 0, none⟩) (zs.length + 1) c) (zs ++ [l]) := by
  unfold OwnN
  simpa using o1
 have k0 := Keep.alloc (Keep.refl (fun j => v.ownBlock = some j) w) (.cells #[.int .i64 l] 3)
 refine h g c w' e (k0.trans ⟨gr.os, gr.tape, gr.output, gr.size, fun j hj hn => gr.block j hj (fun e => hn e.symm)⟩) (hg.imp_right (by omega))
/-- A slice of the call's own, written out but for where it lies. -/
theorem OwnN.shapeN {B : Nat} {w : World} {v : Value} {zs : List Int} (h : OwnN B w v zs) : ∃ A c, v = .slice A zs.length c ∧ (A = none → zs = []) ∧ ∀ ad, A = some ad → ∃ g, ad = ⟨g, 0, none⟩ := by
 obtain ⟨h1, h2⟩ := id h
 rcases h2 with ⟨h3, h4⟩ | ⟨g, c, cur, hv, _⟩
 ·exact ⟨none, 0, by rw [h4]; exact h3, fun _ => List.length_eq_zero_iff.1 h4, fun ad h => by cases h⟩
 ·exact ⟨some ⟨g, 0, none⟩, c, hv, fun h => (by cases h), fun ad h => by cases h; exact ⟨g, rfl⟩⟩
end Go.Proofs.Ytalkfnblnlcklaa
