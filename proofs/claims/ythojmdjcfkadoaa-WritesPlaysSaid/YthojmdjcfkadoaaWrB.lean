/- Rows of pairs and of writes: that lie somewhere, or are the call's own; append of one; no condition. -/
import Derived.Test.YthojmdjcfkadoaaWrL
import Derived.Test.YthojmdjcfkadoaaOwnM
import Derived.Deep.AppendLies
import Derived.Deep.QuietTactic
import Derived.BigQuiet
namespace Go.Proofs.Ythojmdjcfkadoaa
open Go.ChangeShapes Go.WideShapes Go.ChangeAt Go.RowKit
set_option linter.unusedVariables false

/-- The slice value v reads as the pairs l. -/
def LiesP (w : World) (v : Value) (l : List PrI) : Prop := ∃ A c, v = .slice A l.length c ∧ l.length ≤ c ∧ (A = none → c = 0) ∧ (0 < l.length → ∃ b off, A = some ⟨b, off, none⟩ ∧ b < w.heap.size ∧ ∀ j p, l[j]? = some p → w.cell? ⟨b, off + j * 2, none⟩ = some (.int .i64 p.k) ∧ w.cell? ⟨b, off + j * 2 + 1, none⟩ = some (.int .i64 p.v))
def prC (p : PrI) : List Value := [.int .i64 p.k, .int .i64 p.v]
/-- A row of pairs of the call's own, from block B on (or nil). -/
abbrev OwnP (B : Nat) (w : World) (v : Value) (zs : List PrI) : Prop := w.ownsRow B 31 2 v zs.length (zs.flatMap prC)
theorem OwnP.keep {B : Nat} {w w' : World} {v : Value} {zs : List PrI} {S : Nat → Prop} (h : OwnP B w v zs) (k : Keep S w w') (hn : ∀ g, v.ownBlock = some g → ¬ S g) : OwnP B w' v zs := by
  obtain ⟨h1, h2⟩ := id h
  refine ⟨h1, ?_⟩
  rcases h2 with h2 | ⟨g, c, cur, hv, hg, hh, r⟩
  · exact .inl h2
  · subst hv
    exact .inr ⟨g, c, cur, rfl, hg, by rw [k.block g (lt_of_block hh) (hn g rfl)]; exact hh, r⟩
theorem OwnP.lt {B : Nat} {w : World} {v : Value} {zs : List PrI} (h : OwnP B w v zs) {g : Nat} (hg : v.ownBlock = some g) : B ≤ g ∧ g < w.heap.size := World.ownsRow.lt h g hg
theorem OwnP.lies {B : Nat} {w : World} {v : Value} {zs : List PrI} (h : OwnP B w v zs) : LiesP w v zs := by
  obtain ⟨h1, h2⟩ := id h
  rcases h2 with ⟨h3, h4⟩ | ⟨g, c, cur, hv, hB, hh, hc, _⟩
  · have : zs = [] := List.length_eq_zero_iff.1 h4
    subst this
    exact ⟨none, 0, h3, Nat.le_refl _, fun _ => rfl, fun h => absurd h (Nat.lt_irrefl _)⟩
  · subst hv
    refine ⟨_, c, rfl, hc, fun e => (by cases e), fun _ => ⟨g, 0, rfl, lt_of_block hh, fun j p hp => ?_⟩⟩
    have o : OwnM 2 prC 31 w (.slice (some ⟨g, 0, none⟩) zs.length c) zs := OwnM.of_base h rfl rfl
    obtain ⟨hi, ex⟩ := List.getElem?_eq_some_iff.1 hp
    have hf : ∀ x, (prC x).length = 2 := fun x => rfl
    have c0 := OwnM.cell hf o j 0 hi (by omega)
    have c1 := OwnM.cell hf o j 1 hi (by omega)
    rw [ex] at c0 c1
    rw [Nat.zero_add]
    exact ⟨c0, c1⟩
theorem info_pair : (Try.prog.info? 31).map (fun i => (i.zero, i.size, i.bytes)) = some (some (.agg #[.int .i64 0, .int .i64 0]), 2, 16) := by kernel_rfl
theorem pair_lies (w : World) (y : PrI) : ∀ j u, (prC y)[j]? = some u → (w.alloc (.cells #[.int .i64 y.k, .int .i64 y.v] 31)).cell? ((⟨w.heap.size, 0, none⟩ : Addr).add j) = some u := by
  intro j u hj
  match j, hj with
  | 0, hj => simp [prC] at hj; subst hj; simp [Addr.add]
  | 1, hj => simp [prC] at hj; subst hj; simp [Addr.add]
theorem wp_pushP {w : World} {ops : Array Oper} {rest : List Oper} {o : Oper} {a : Act} {Q : Exit → Act → World → Prop} (hgd : o.guard = none) (s x : Operand)
    (ho : o.op = .call { callee := .builtin .append, args := #[s, x], argTypes := #[32, 32] })
    (B : Nat) (hB : B ≤ w.heap.size) (v : Value) (zs : List PrI) (hs : a.eval s = v) (hown : OwnP B w v zs) (y : PrI) (hx : a.eval x = .slice (some ⟨w.heap.size, 0, none⟩) 1 1) (hl : zs.length ≤ 100000)
    (h : ∀ g c w', OwnP B w' (.slice (some ⟨g, 0, none⟩) (zs.length + 1) c) (zs ++ [y]) → Keep (fun j => v.ownBlock = some j) w w' → (v.ownBlock = some g ∨ w.heap.size ≤ g) → wpList Try.prog ops Q rest (a.put o.dst (.slice (some ⟨g, 0, none⟩) (zs.length + 1) c)) w') :
    wpList Try.prog ops Q (o :: rest) a (w.alloc (.cells #[.int .i64 y.k, .int .i64 y.v] 31)) := by
  obtain ⟨i0, hi0, hz0, hz1, hz2⟩ := info_parts info_pair
  refine wpList_append_lies _ hgd s x 32 ho B 31 i0 _ 2 16 Try.underlying32 hi0 hz0 hz1 hz2 rfl (by decide) v zs.length (zs.flatMap prC) hs (World.ownsRow.alloc hown _) ⟨w.heap.size, 0, none⟩ 1 1 (prC y) hx rfl (pair_lies w y) (by simp [prC, Value.oneCell']) (by decide) (by unfold maxLen; omega) (by omega) (by simp; omega) (w.heap.size + 1) (by simp) ?_
  intro g c w' o1 gr hg _
  have e : OwnP B w' (.slice (some ⟨g, 0, none⟩) (zs.length + 1) c) (zs ++ [y]) := by
    unfold OwnP
    simpa using o1
  have k0 := Keep.alloc (Keep.refl (fun j => v.ownBlock = some j) w) (.cells #[.int .i64 y.k, .int .i64 y.v] 31)
  refine h g c w' e (k0.trans ⟨gr.os, gr.tape, gr.output, gr.size, fun j hj hn => gr.block j hj (fun e => hn e.symm)⟩) (hg.imp_right (by omega))
def wrC (x : WrI) : List Value := [.int .i64 x.k, .int .i64 x.v, .bool x.g]
/-- A row of writes of the call's own, from block B on (or nil). -/
abbrev OwnW (B : Nat) (w : World) (v : Value) (zs : List WrI) : Prop := w.ownsRow B 38 3 v zs.length (zs.flatMap wrC)
theorem OwnW.keep {B : Nat} {w w' : World} {v : Value} {zs : List WrI} {S : Nat → Prop} (h : OwnW B w v zs) (k : Keep S w w') (hn : ∀ g, v.ownBlock = some g → ¬ S g) : OwnW B w' v zs := by
  obtain ⟨h1, h2⟩ := id h
  refine ⟨h1, ?_⟩
  rcases h2 with h2 | ⟨g, c, cur, hv, hg, hh, r⟩
  · exact .inl h2
  · subst hv
    exact .inr ⟨g, c, cur, rfl, hg, by rw [k.block g (lt_of_block hh) (hn g rfl)]; exact hh, r⟩
theorem OwnW.lt {B : Nat} {w : World} {v : Value} {zs : List WrI} (h : OwnW B w v zs) {g : Nat} (hg : v.ownBlock = some g) : B ≤ g ∧ g < w.heap.size := World.ownsRow.lt h g hg
theorem OwnW.shape {B : Nat} {w : World} {v : Value} {zs : List WrI} (h : OwnW B w v zs) : ∃ A c, v = .slice A zs.length c ∧ (A = none → zs = []) ∧ ∀ ad, A = some ad → ∃ g, ad = ⟨g, 0, none⟩ := by
  obtain ⟨h1, h2⟩ := id h
  rcases h2 with ⟨h3, h4⟩ | ⟨g, c, cur, hv, _⟩
  · exact ⟨none, 0, by rw [h4]; exact h3, fun _ => List.length_eq_zero_iff.1 h4, fun ad h => by cases h⟩
  · exact ⟨some ⟨g, 0, none⟩, c, hv, fun h => (by cases h), fun ad h => by cases h; exact ⟨g, rfl⟩⟩
theorem OwnW.cells {B g n c : Nat} {w : World} {zs : List WrI} (h : OwnW B w (.slice (some ⟨g, 0, none⟩) n c) zs) (i : Nat) (x : WrI) (hx : zs[i]? = some x) : w.cell? ⟨g, i * 3, none⟩ = some (.int .i64 x.k) ∧ w.cell? ⟨g, i * 3 + 1, none⟩ = some (.int .i64 x.v) ∧ w.cell? ⟨g, i * 3 + 2, none⟩ = some (.bool x.g) := by
  have o : OwnM 3 wrC 38 w (.slice (some ⟨g, 0, none⟩) n c) zs := OwnM.of_base h rfl rfl
  obtain ⟨hi, ex⟩ := List.getElem?_eq_some_iff.1 hx
  have hf : ∀ x, (wrC x).length = 3 := fun x => rfl
  have c0 := OwnM.cell hf o i 0 hi (by omega)
  have c1 := OwnM.cell hf o i 1 hi (by omega)
  have c2 := OwnM.cell hf o i 2 hi (by omega)
  rw [ex] at c0 c1 c2
  exact ⟨c0, c1, c2⟩
theorem info_wr : (Try.prog.info? 38).map (fun i => (i.zero, i.size, i.bytes)) = some (some (.agg #[.int .i64 0, .int .i64 0, .bool false]), 3, 24) := by kernel_rfl
theorem wr_lies (w : World) (y : WrI) : ∀ j u, (wrC y)[j]? = some u → (w.alloc (.cells #[.int .i64 y.k, .int .i64 y.v, .bool y.g] 38)).cell? ((⟨w.heap.size, 0, none⟩ : Addr).add j) = some u := by
  intro j u hj
  match j, hj with
  | 0, hj => simp [wrC] at hj; subst hj; simp [Addr.add]
  | 1, hj => simp [wrC] at hj; subst hj; simp [Addr.add]
  | 2, hj => simp [wrC] at hj; subst hj; simp [Addr.add]
theorem wp_pushW {w : World} {ops : Array Oper} {rest : List Oper} {o : Oper} {a : Act} {Q : Exit → Act → World → Prop} (hgd : o.guard = none) (s x : Operand)
    (ho : o.op = .call { callee := .builtin .append, args := #[s, x], argTypes := #[33, 33] })
    (B : Nat) (hB : B ≤ w.heap.size) (v : Value) (zs : List WrI) (hs : a.eval s = v) (hown : OwnW B w v zs) (y : WrI) (hx : a.eval x = .slice (some ⟨w.heap.size, 0, none⟩) 1 1) (hl : zs.length ≤ 100000)
    (h : ∀ g c w', OwnW B w' (.slice (some ⟨g, 0, none⟩) (zs.length + 1) c) (zs ++ [y]) → Keep (fun j => v.ownBlock = some j) w w' → (v.ownBlock = some g ∨ w.heap.size ≤ g) → wpList Try.prog ops Q rest (a.put o.dst (.slice (some ⟨g, 0, none⟩) (zs.length + 1) c)) w') :
    wpList Try.prog ops Q (o :: rest) a (w.alloc (.cells #[.int .i64 y.k, .int .i64 y.v, .bool y.g] 38)) := by
  obtain ⟨i0, hi0, hz0, hz1, hz2⟩ := info_parts info_wr
  refine wpList_append_lies _ hgd s x 33 ho B 38 i0 _ 3 24 Try.underlying33 hi0 hz0 hz1 hz2 rfl (by decide) v zs.length (zs.flatMap wrC) hs (World.ownsRow.alloc hown _) ⟨w.heap.size, 0, none⟩ 1 1 (wrC y) hx rfl (wr_lies w y) (by simp [wrC, Value.oneCell']) (by decide) (by unfold maxLen; omega) (by omega) (by simp; omega) (w.heap.size + 1) (by simp) ?_
  intro g c w' o1 gr hg _
  have e : OwnW B w' (.slice (some ⟨g, 0, none⟩) (zs.length + 1) c) (zs ++ [y]) := by
    unfold OwnW
    simpa using o1
  have k0 := Keep.alloc (Keep.refl (fun j => v.ownBlock = some j) w) (.cells #[.int .i64 y.k, .int .i64 y.v, .bool y.g] 38)
  refine h g c w' e (k0.trans ⟨gr.os, gr.tape, gr.output, gr.size, fun j hj hn => gr.block j hj (fun e => hn e.symm)⟩) (hg.imp_right (by omega))
/-- The slice value v reads as the writes zs. -/
def LiesW (w : World) (v : Value) (zs : List WrI) : Prop := ∃ A c, v = .slice A zs.length c ∧ zs.length ≤ c ∧ (0 < zs.length → ∃ b off, A = some ⟨b, off, none⟩ ∧ b < w.heap.size ∧ ∀ j x, zs[j]? = some x → w.cell? ⟨b, off + j * 3, none⟩ = some (.int .i64 x.k) ∧ w.cell? ⟨b, off + j * 3 + 1, none⟩ = some (.int .i64 x.v) ∧ w.cell? ⟨b, off + j * 3 + 2, none⟩ = some (.bool x.g))
theorem LiesW.same {w w' : World} {v : Value} {zs : List WrI} (h : LiesW w v zs) (k : Keep (fun _ => False) w w') : LiesW w' v zs := by
  obtain ⟨A, c, rfl, hc, hf⟩ := h
  refine ⟨A, c, rfl, hc, fun h0 => ?_⟩
  obtain ⟨b, off, rfl, hb, he⟩ := hf h0
  exact ⟨b, off, rfl, Nat.lt_of_lt_of_le hb k.size, fun j x hx => ⟨k.cell (he j x hx).1 id, k.cell (he j x hx).2.1 id, k.cell (he j x hx).2.2 id⟩⟩
theorem LiesW.at' {w : World} {A : Option Addr} {n c : Nat} {zs : List WrI} (h : LiesW w (.slice A n c) zs) (j : Nat) (x : WrI) (hx : zs[j]? = some x) : ∃ b off, A = some ⟨b, off, none⟩ ∧ w.cell? ⟨b, off + j * 3, none⟩ = some (.int .i64 x.k) ∧ w.cell? ⟨b, off + j * 3 + 1, none⟩ = some (.int .i64 x.v) ∧ w.cell? ⟨b, off + j * 3 + 2, none⟩ = some (.bool x.g) := by
  obtain ⟨A', c', e, hc, hf⟩ := h
  cases e
  obtain ⟨b, off, rfl, hb, he⟩ := hf (by have := (List.getElem?_eq_some_iff.1 hx).1; omega)
  exact ⟨b, off, rfl, he j x hx⟩
end Go.Proofs.Ythojmdjcfkadoaa
