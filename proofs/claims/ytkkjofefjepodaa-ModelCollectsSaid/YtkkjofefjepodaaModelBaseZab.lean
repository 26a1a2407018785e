/- Several texts, one behind the other: Keep, Own, OwnM, MdV, Res, Once, OnceC, ResS, Row, Acts. -/
import Derived.Test.YtkkjofefjepodaaRows
import Derived.Test.YtkkjofefjepodaaModelBaseZaa
import Derived.WalkKit
import Derived.ProofKit
import Derived.OpenShut
import Derived.WalkLawsBesides
import Derived.Below
import Derived.Lib.Hide
import Derived.Deep.Draws
import Derived.OwnWalk
import Derived.OneCell
import Derived.Laws.LoneSync
import Derived.Laws.Pointers
import Derived.Defers
import Derived.RegionTactic
import Derived.RegionCalls
import Derived.ChangeAlike
import Derived.ChangeOld
/- Plain facts on worlds, no dump: 'Keep S' (of the blocks that are there only those in S may have turned), a block of 64-bit words; no condition. -/
namespace Go.Proofs.Ytkkjofefjepodaa
open Go.ChangeShapes Go.WideShapes Go.ChangeAt Go.RowKit
set_option linter.unusedVariables false

/-- Of the blocks that are there in w none has turned but those in S; streams as they were; no block has gone. -/
structure Keep (S : Nat → Prop) (w w' : World) : Prop where
 os : w'.os = w.os
 tape : w'.tape = w.tape
 output : w'.output = w.output
 size : w.heap.size ≤ w'.heap.size
 block : ∀ k, k < w.heap.size → ¬ S k → w'.heap[k]? = w.heap[k]?

theorem Keep.refl (S : Nat → Prop) (w : World) : Keep S w w := ⟨rfl, rfl, rfl, Nat.le_refl _, fun _ _ _ => rfl⟩
theorem Keep.trans {S : Nat → Prop} {a b c : World} (h : Keep S a b) (k : Keep S b c) : Keep S a c :=
 ⟨k.os.trans h.os, k.tape.trans h.tape, k.output.trans h.output, Nat.le_trans h.size k.size, fun i hi n => (k.block i (Nat.lt_of_lt_of_le hi h.size) n).trans (h.block i hi n)⟩
theorem Keep.mono {S T : Nat → Prop} {w w' : World} (h : Keep S w w') (hs : ∀ k, S k → T k) : Keep T w w' := ⟨h.os, h.tape, h.output, h.size, fun k hk n => h.block k hk (fun x => n (hs k x))⟩
theorem Keep.setCell {S : Nat → Prop} {a w : World} (h : Keep S a w) {p : Addr} (hp : S p.block) (u : Value) : Keep S a (w.setCell p u) :=
 h.trans ⟨rfl, rfl, rfl, by simp [World.setCell], fun k _ n => Below.heap_setCell _ _ _ _ (fun e => n (e ▸ hp))⟩
theorem Keep.alloc {S : Nat → Prop} {a w : World} (h : Keep S a w) (o : Obj) : Keep S a (w.alloc o) :=
 h.trans ⟨rfl, rfl, rfl, by simp, fun k hk _ => Below.heap_alloc _ _ _ hk⟩
theorem Keep.drew {S : Nat → Prop} {a w : World} (h : Keep S a w) : Keep S a w.drew := ⟨h.os, h.tape, h.output, h.size, h.block⟩
theorem Keep.below {S : Nat → Prop} {w w' : World} (h : Keep S w w') {B : Nat} (hB : B ≤ w.heap.size) (hs : ∀ k, S k → B ≤ k) : Below B w w' :=
 ⟨h.os, h.tape, h.output, h.size, fun k hk => h.block k (by omega) (fun x => by have := hs k x; omega)⟩
theorem Keep.of_below {w w' : World} (h : Below w.heap.size w w') (S : Nat → Prop) : Keep S w w' := ⟨h.os, h.tape, h.output, h.size, fun k hk _ => h.block k hk⟩
theorem Keep.cell {S : Nat → Prop} {w w' : World} (h : Keep S w w') {a : Addr} {v : Value} (hc : w.cell? a = some v) (hn : ¬ S a.block) : w'.cell? a = some v := by
 have hlt : a.block < w.heap.size := by
  rcases Nat.lt_or_ge a.block w.heap.size with h' | h'
  ·exact h'
  ·simp [World.cell?, Array.getElem?_eq_none h'] at hc
 rw [World.cell?_of_block (w := w) (h.block _ hlt hn)]; exact hc
theorem lt_of_cell {w : World} {a : Addr} {v : Value} (hc : w.cell? a = some v) : a.block < w.heap.size := by
 rcases Nat.lt_or_ge a.block w.heap.size with h' | h'
 ·exact h'
 ·simp [World.cell?, Array.getElem?_eq_none h'] at hc
theorem Keep.frozen {S : Nat → Prop} {w w' : World} (h : Keep S w w') {a : Addr} (hlt : a.block < w.heap.size) (hn : ¬ S a.block) : w'.frozen? a = w.frozen? a :=
 World.frozen?_of_block (w := w) (h.block _ hlt hn)

theorem keep_one (w : World) (a : Addr) (u : Value) : Keep (fun z => z = a.block) w (w.setCell a u) := Keep.setCell (S := fun z => z = a.block) (Keep.refl _ w) rfl u
/-- Block b holds the numbers zs, one a cell, and each may be written. -/
structure RowU (w : World) (b : Nat) (zs : List Int) : Prop where
 cell : ∀ i, i < zs.length → w.cell? ⟨b, i, none⟩ = some (.int .u64 (zs.getD i 0))
 free : ∀ i, w.frozen? ⟨b, i, none⟩ = false
 lt : b < w.heap.size
/-- Every number is one of 64 bits. -/
def AllU (zs : List Int) : Prop := ∀ i, 0 ≤ zs.getD i 0 ∧ zs.getD i 0 ≤ 18446744073709551615
theorem RowU.keep {S : Nat → Prop} {w w' : World} {b : Nat} {zs : List Int} (h : RowU w b zs) (k : Keep S w w') (hn : ¬ S b) : RowU w' b zs :=
 ⟨fun i hi => k.cell (h.cell i hi) hn, fun i => (k.frozen (a := ⟨b, i, none⟩) h.lt hn).trans (h.free i), Nat.lt_of_lt_of_le h.lt k.size⟩
theorem RowU.set {w : World} {b : Nat} {zs : List Int} (h : RowU w b zs) (i : Nat) (hi : i < zs.length) (x : Int) : RowU (w.setCell ⟨b, i, none⟩ (.int .u64 x)) b (zs.set i x) := by
 refine ⟨fun j hj => ?_, fun j => by simpa using h.free j, by simpa [World.setCell] using h.lt⟩
 rw [List.length_set] at hj
 by_cases e : i = j
 ·subst e
  rw [World.cell?_setCell_same _ _ _ (h.cell i hi)]
  simp [List.getD_eq_getElem?_getD, hi]
 ·rw [World.cell?_setCell_other _ _ _ _ (by simp), h.cell j hj]
  simp [List.getD_eq_getElem?_getD, e]
theorem AllU.set {zs : List Int} (h : AllU zs) (i : Nat) {x : Int} (h0 : 0 ≤ x) (h1 : x ≤ 18446744073709551615) : AllU (zs.set i x) := by
 intro j
 simp only [List.getD_eq_getElem?_getD, List.getElem?_set]
 split
 ·split
  ·simpa using ⟨h0, h1⟩
  ·simp
 ·have := h j; rwa [List.getD_eq_getElem?_getD] at this
/-- Only the blocks S, and new ones, have turned; it now lies in S'. -/
def VKeep (S S' : Nat → Prop) (w w' : World) : Prop := Keep S w w' ∧ ∀ k, S' k → S k ∨ w.heap.size ≤ k
theorem drewN_keep (S : Nat → Prop) (w : World) (d : Nat) : Keep S w (w.drewN d) := ⟨rfl, rfl, rfl, Nat.le_refl _, fun _ _ _ => rfl⟩
theorem Keep.newer {w w' : World} (k : Keep (fun j => w.heap.size ≤ j) w w') : Keep (fun _ => False) w w' :=
 ⟨k.os, k.tape, k.output, k.size, fun j hj _ => k.block j hj (by omega)⟩
theorem Keep.older {S : Nat → Prop} {w w' a : World} (k : Keep (fun _ => False) w a) (h : Keep S a w') (hS : ∀ j, S j → w.heap.size ≤ j) : Keep (fun _ => False) w w' :=
 ⟨h.os.trans k.os, h.tape.trans k.tape, h.output.trans k.output, Nat.le_trans k.size h.size, fun j hj _ => (h.block j (Nat.lt_of_lt_of_le hj k.size) (fun y => by have := hS j y; omega)).trans (k.block j hj id)⟩
/-- Where the walk is to stand still: at the operation that fills slot n. -/
theorem wp_stop (n : Nat) {P : Program} {w : World} {ops : Array Oper} {rest : List Oper} {o : Oper} {a : Act} {Q : Exit → Act → World → Prop} (hd : o.dst = some n) (h : True → wpList P ops Q (o :: rest) a w) : wpList P ops Q (o :: rest) a w := h trivial
def U64 (x : Int) : Prop := 0 ≤ x ∧ x ≤ 18446744073709551615
end Go.Proofs.Ytkkjofefjepodaa
/- A slice that the call itself has made: what it holds, element by element; kept where other blocks turn; behind a store. No dump; no condition. -/
namespace Go.Proofs.Ytkkjofefjepodaa
open Go.ChangeShapes Go.WideShapes Go.ChangeAt Go.RowKit
set_option linter.unusedVariables false

/-- The slice value v is the call's own (or nil) and holds the elements zs, each of one cell, by f; e is the element's type. -/
def Own {α : Type} (f : α → Value) (e : TypeId) (w : World) (v : Value) (zs : List α) : Prop := w.ownsRow 0 e 1 v zs.length (zs.map f)
section
variable {α : Type} {f : α → Value} {e : TypeId} {w w' : World} {v : Value} {zs : List α}
theorem Own.form (h : Own f e w v zs) : (v = .slice none 0 0 ∧ zs = []) ∨ ∃ g c, v = .slice (some ⟨g, 0, none⟩) zs.length c ∧ g < w.heap.size ∧ zs.length ≤ c ∧ c ≤ maxLen := by
 obtain ⟨h1, h2⟩ := id h
 rcases h2 with ⟨h3, h4⟩ | ⟨g, c, cur, hv, _, hh, hc, hm, _⟩
 ·exact .inl ⟨h3, List.length_eq_zero_iff.1 h4⟩
 ·exact .inr ⟨g, c, hv, lt_of_block hh, hc, hm⟩
theorem Own.lt (h : Own f e w v zs) {g : Nat} (hg : v.ownBlock = some g) : g < w.heap.size := (World.ownsRow.lt h g hg).2
theorem Own.keep {S : Nat → Prop} (h : Own f e w v zs) (k : Keep S w w') (hn : ∀ g, v.ownBlock = some g → ¬ S g) : Own f e w' v zs := by
 obtain ⟨h1, h2⟩ := id h
 refine ⟨h1, ?_⟩
 rcases h2 with h2 | ⟨g, c, cur, hv, hg, hh, r⟩
 ·exact .inl h2
 ·subst hv
  exact .inr ⟨g, c, cur, rfl, hg, by rw [k.block g (lt_of_block hh) (hn g rfl)]; exact hh, r⟩
theorem Own.cell {g n c : Nat} (h : Own f e w (.slice (some ⟨g, 0, none⟩) n c) zs) (i : Nat) (hi : i < zs.length) : w.cell? ⟨g, i, none⟩ = some (f zs[i]) := by
 have hn : n = zs.length := by
  obtain ⟨h1, h2⟩ := id h
  rcases h2 with ⟨h2, _⟩ | ⟨g', c', cur, hv, _⟩
  ·simp at h2
  ·simp at hv; exact hv.2.1
 subst hn
 rw [World.ownsRow.cellAt h i (by omega)]
 simp [hi]
theorem Own.free {g n c : Nat} (h : Own f e w (.slice (some ⟨g, 0, none⟩) n c) zs) (i : Nat) : w.frozen? ⟨g, i, none⟩ = false := by
 have hn : n = zs.length := by
  obtain ⟨h1, h2⟩ := id h
  rcases h2 with ⟨h2, _⟩ | ⟨g', c', cur, hv, _⟩
  ·simp at h2
  ·simp at hv; exact hv.2.1
 subst hn
 exact World.ownsRow.frozenAt h i
theorem Own.set {g n c : Nat} (h : Own f e w (.slice (some ⟨g, 0, none⟩) n c) zs) (i : Nat) (x : α) : Own f e (w.setCell ⟨g, i, none⟩ (f x)) (.slice (some ⟨g, 0, none⟩) n c) (zs.set i x) := by
 have hn : n = zs.length := by
  obtain ⟨h1, h2⟩ := id h
  rcases h2 with ⟨h2, _⟩ | ⟨g', c', cur, hv, _⟩
  ·simp at h2
  ·simp at hv; exact hv.2.1
 subst hn
 have := World.ownsRow.stored h i (f x)
 unfold Own
 rw [List.length_set, List.map_set]
 exact this.1
theorem Own.nil : Own f e w (.slice none 0 0) ([] : List α) := World.ownsRow_nil _ _ _ _
theorem Own.of_base {base : Nat} {n : Nat} {xs : List Value} (h : w.ownsRow base e 1 v n xs) (hn : n = zs.length) (hx : xs = zs.map f) : Own f e w v zs := by
 subst hn; subst hx
 obtain ⟨h1, h2⟩ := h
 refine ⟨h1, ?_⟩
 rcases h2 with h2 | ⟨g, c, cur, hv, _, r⟩
 ·exact .inl h2
 ·exact .inr ⟨g, c, cur, hv, Nat.zero_le _, r⟩
/-- A slice of the call's own that is not nil, written out. -/
theorem own_some {base n : Nat} {xs : List Value} (h : w.ownsRow base e 1 v n xs) (hne : v ≠ .slice none 0 0) : ∃ g c, v = .slice (some ⟨g, 0, none⟩) n c ∧ base ≤ g ∧ g < w.heap.size := by
 obtain ⟨_, h2⟩ := h
 rcases h2 with ⟨h2, _⟩ | ⟨g, c, cur, hv, hb, hh, _⟩
 ·exact absurd h2 hne
 ·exact ⟨g, c, hv, hb, lt_of_block hh⟩
end
/-- Behind a law that ends in 'grownBy': what is written is new. -/
theorem keep_new {w w1 w' : World} {row : Option Nat} (b : Below w.heap.size w w1) (hg : w1.grownBy w' row) (hr : ∀ k, row = some k → w.heap.size ≤ k) : Below w.heap.size w w' := b.grown hg b.size hr
theorem Keep.grown {S : Nat → Prop} {w w1 w' : World} {row : Option Nat} (k : Keep S w w1) (hg : w1.grownBy w' row) (hr : ∀ j, row = some j → w.heap.size ≤ j) : Keep S w w' :=
 ⟨hg.os.trans k.os, hg.tape.trans k.tape, hg.output.trans k.output, Nat.le_trans k.size hg.size, fun j hj hn => (hg.block j (Nat.lt_of_lt_of_le hj k.size) (fun e => by have := hr j e.symm; omega)).trans (k.block j hj hn)⟩
end Go.Proofs.Ytkkjofefjepodaa
/- A slice that the call itself has made, of elements of several cells each: what it holds, element by element; kept where other blocks turn; behind a store. No dump; no condition. -/
namespace Go.Proofs.Ytkkjofefjepodaa
open Go.ChangeShapes Go.WideShapes Go.ChangeAt Go.RowKit
set_option linter.unusedVariables false

/-- The slice value v is the call's own (or nil) and holds the elements zs, each of m cells, by f. -/
def OwnM {α : Type} (m : Nat) (f : α → List Value) (e : TypeId) (w : World) (v : Value) (zs : List α) : Prop := w.ownsRow 0 e m v zs.length (zs.flatMap f)
section
variable {α : Type} {m : Nat} {f : α → List Value} {e : TypeId} {w w' : World} {v : Value} {zs : List α}
theorem flat_len (hf : ∀ x, (f x).length = m) (zs : List α) : (zs.flatMap f).length = zs.length * m := by
 induction zs with
 | nil => simp
 | cons z zs ih => simp only [List.flatMap_cons, List.length_append, hf, ih, List.length_cons, Nat.succ_mul]; omega
theorem flat_get (hf : ∀ x, (f x).length = m) (zs : List α) (i j : Nat) (hi : i < zs.length) (hj : j < m) : (zs.flatMap f)[i * m + j]? = (f zs[i])[j]? := by
  induction zs generalizing i with
  | nil => simp at hi
  | cons z zs ih =>
    rw [List.flatMap_cons]
    cases i with
    | zero => rw [Nat.zero_mul, Nat.zero_add, List.getElem?_append_left (by rw [hf]; exact hj)]; rfl
    | succ i =>
      have e : (i + 1) * m + j = (f z).length + (i * m + j) := by rw [hf, Nat.succ_mul]; omega
      rw [e, List.getElem?_append_right (by omega), Nat.add_sub_cancel_left, ih i (by simpa using hi)]
      rfl
theorem flat_set (hf : ∀ x, (f x).length = m) (zs : List α) (i j : Nat) (hi : i < zs.length) (hj : j < m) (u : Value) (x : α) (hx : f x = (f zs[i]).set j u) : (zs.flatMap f).set (i * m + j) u = (zs.set i x).flatMap f := by
  induction zs generalizing i with
  | nil => simp at hi
  | cons z zs ih =>
    cases i with
    | zero =>
      rw [Nat.zero_mul, Nat.zero_add, List.set_cons_zero, List.flatMap_cons, List.flatMap_cons, hx, List.set_append_left _ _ (by rw [hf]; exact hj)]
      rfl
    | succ i =>
      have e : (i + 1) * m + j = (f z).length + (i * m + j) := by rw [hf, Nat.succ_mul]; omega
      rw [e, List.flatMap_cons, List.set_append_right _ _ (by omega), Nat.add_sub_cancel_left, List.set_cons_succ, List.flatMap_cons, ih i (by simpa using hi) hx]
theorem OwnM.form (h : OwnM m f e w v zs) : (v = .slice none 0 0 ∧ zs = []) ∨ ∃ g c, v = .slice (some ⟨g, 0, none⟩) zs.length c ∧ g < w.heap.size ∧ zs.length ≤ c ∧ c ≤ maxLen := by
 obtain ⟨h1, h2⟩ := id h
 rcases h2 with ⟨h3, h4⟩ | ⟨g, c, cur, hv, _, hh, hc, hm, _⟩
 ·exact .inl ⟨h3, List.length_eq_zero_iff.1 h4⟩
 ·exact .inr ⟨g, c, hv, lt_of_block hh, hc, hm⟩
theorem OwnM.lt (h : OwnM m f e w v zs) {g : Nat} (hg : v.ownBlock = some g) : g < w.heap.size := (World.ownsRow.lt h g hg).2
theorem OwnM.keep {S : Nat → Prop} (h : OwnM m f e w v zs) (k : Keep S w w') (hn : ∀ g, v.ownBlock = some g → ¬ S g) : OwnM m f e w' v zs := by
 obtain ⟨h1, h2⟩ := id h
 refine ⟨h1, ?_⟩
 rcases h2 with h2 | ⟨g, c, cur, hv, hg, hh, r⟩
 ·exact .inl h2
 ·subst hv
  exact .inr ⟨g, c, cur, rfl, hg, by rw [k.block g (lt_of_block hh) (hn g rfl)]; exact hh, r⟩
theorem OwnM.n {g n c : Nat} (h : OwnM m f e w (.slice (some ⟨g, 0, none⟩) n c) zs) : n = zs.length := by
 obtain ⟨h1, h2⟩ := id h
 rcases h2 with ⟨h2, _⟩ | ⟨g', c', cur, hv, _⟩
 ·simp at h2
 ·simp at hv; exact hv.2.1
theorem OwnM.cell {g n c : Nat} (hf : ∀ x, (f x).length = m) (h : OwnM m f e w (.slice (some ⟨g, 0, none⟩) n c) zs) (i j : Nat) (hi : i < zs.length) (hj : j < m) : w.cell? ⟨g, i * m + j, none⟩ = (f zs[i])[j]? := by
 obtain rfl := h.n
 rw [World.ownsRow.cellAt h (i * m + j) (by have := Nat.mul_le_mul_right m (show i + 1 ≤ zs.length from hi); rw [Nat.succ_mul] at this; omega)]
 exact flat_get hf zs i j hi hj
theorem OwnM.free {g n c : Nat} (h : OwnM m f e w (.slice (some ⟨g, 0, none⟩) n c) zs) (i : Nat) : w.frozen? ⟨g, i, none⟩ = false := by
 obtain rfl := h.n
 exact World.ownsRow.frozenAt h i
theorem OwnM.set {g n c : Nat} (hf : ∀ x, (f x).length = m) (h : OwnM m f e w (.slice (some ⟨g, 0, none⟩) n c) zs) (i j : Nat) (hi : i < zs.length) (hj : j < m) (u : Value) (x : α) (hx : f x = (f zs[i]).set j u) :
  OwnM m f e (w.setCell ⟨g, i * m + j, none⟩ u) (.slice (some ⟨g, 0, none⟩) n c) (zs.set i x) := by
 obtain rfl := h.n
 have := (World.ownsRow.stored h (i * m + j) u).1
 rw [flat_set hf zs i j hi hj u x hx] at this
 unfold OwnM
 rw [List.length_set]
 exact this
theorem OwnM.nil : OwnM m f e w (.slice none 0 0) ([] : List α) := World.ownsRow_nil _ _ _ _
theorem OwnM.of_base {base : Nat} {n : Nat} {xs : List Value} (h : w.ownsRow base e m v n xs) (hn : n = zs.length) (hx : xs = zs.flatMap f) : OwnM m f e w v zs := by
 subst hn; subst hx
 obtain ⟨h1, h2⟩ := h
 refine ⟨h1, ?_⟩
 rcases h2 with h2 | ⟨g, c, cur, hv, _, r⟩
 ·exact .inl h2
 ·exact .inr ⟨g, c, cur, hv, Nat.zero_le _, r⟩
end
end Go.Proofs.Ytkkjofefjepodaa
/- The values that a Model of whole calls takes and gives (layer 19): calls, results, Pairs, Confs, Statuses. No condition. -/
namespace Go.Proofs.Ytkkjofefjepodaa
open Go.ChangeShapes Go.WideShapes Go.ChangeAt Go.RowKit
set_option linter.unusedVariables false

def prI (p : Int × Int) : List Value := [.int .i64 p.1, .int .i64 p.2]
theorem prI_len (p : Int × Int) : (prI p).length = 2 := rfl
abbrev OwnPr (w : World) (v : Value) (l : List (Int × Int)) : Prop := OwnM 2 prI 53 w v l
theorem info_pr : (Try.prog.info? 53).map (fun i => (i.zero, i.size, i.bytes)) = some (some (.agg #[.int .i64 0, .int .i64 0]), 2, 16) := by kernel_rfl
/-- What a call answers that tells a list of Pairs of its own. -/
def ToldPr (w : World) (l : List (Int × Int)) (e : Ending) (w' : World) : Prop := ∃ u, e = .returned u ∧ OwnPr w' u l ∧ (∀ g, u.ownBlock = some g → w.heap.size ≤ g) ∧ Keep (fun _ => False) w w'
/-- A result as a value, its Pairs told by u. -/
def reV (r : ReI) (u : Value) : Value := .agg #[.int .i64 r.e, .int .i64 r.val, u, .int .i64 r.over, .int .i64 r.reason]
/-- A call as a value. -/
def opV (o : OpI) : Value := .agg #[.int .i64 o.kind, .int .i64 o.key, .int .i64 o.hi, .int .i64 o.val]
/-- A Conf as a value. -/
def cfV (slots limit : Int) : Value := .agg #[.int .i64 slots, .int .u64 limit]
/-- A Status as a value; of a transaction. -/
def stV (l : Bool) (id' level st start ops : Int) : Value := .agg #[.bool l, .bool false, .bool false, .int .i64 id', .int .i64 level, .int .i64 st, .int .u64 start, .int .u64 0, .int .i64 ops]
/-- What is told of a session. -/
def MoI.statV (m : MoI) (s : Int) : Value := if s < 0 ∨ 7 < s then stV false 0 0 0 0 0 else if (m.s s.toNat).id = 0 then stV false 0 0 0 0 0 else stV true (m.s s.toNat).id (m.s s.toNat).level 1 (m.s s.toNat).start (m.s s.toNat).ops
end Go.Proofs.Ytkkjofefjepodaa
/- A result in a block of its own: its five cells, what a store of all of them leaves. No condition. -/
namespace Go.Proofs.Ytkkjofefjepodaa
open Go.ChangeShapes Go.WideShapes Go.ChangeAt Go.RowKit
set_option linter.unusedVariables false
/-- A result's cells at block N. -/
structure ResAt (w : World) (N : Nat) (r0 r1 r2 r3 r4 : Value) : Prop where
 r0 : w.cell? ⟨N, 0, none⟩ = some r0
 r1 : w.cell? ⟨N, 1, none⟩ = some r1
 r2 : w.cell? ⟨N, 2, none⟩ = some r2
 r3 : w.cell? ⟨N, 3, none⟩ = some r3
 r4 : w.cell? ⟨N, 4, none⟩ = some r4
 fz : ∀ i, w.frozen? ⟨N, i, none⟩ = false
theorem ResAt.keep {w w' : World} {N : Nat} {r0 r1 r2 r3 r4 : Value} {T : Nat → Prop} (h : ResAt w N r0 r1 r2 r3 r4) (k : Keep T w w') (hn : ¬ T N) : ResAt w' N r0 r1 r2 r3 r4 :=
 ⟨k.cell h.r0 hn, k.cell h.r1 hn, k.cell h.r2 hn, k.cell h.r3 hn, k.cell h.r4 hn, fun i => (k.frozen (a := ⟨N, i, none⟩) (lt_of_cell (a := ⟨N, 0, none⟩) h.r0) hn).trans (h.fz i)⟩
theorem res_box (w : World) : ∃ W, w.alloc (.cells #[.int .i64 0, .int .i64 0, .slice none 0 0, .int .i64 0, .int .i64 0] 30) = W ∧ ResAt W w.heap.size (.int .i64 0) (.int .i64 0) (.slice none 0 0) (.int .i64 0) (.int .i64 0) ∧ Keep (fun _ => False) w W :=
 ⟨_, rfl, ⟨by simp, by simp, by simp, by simp, by simp, fun i => by simp⟩, (Keep.refl _ _).alloc _⟩
theorem res_set {w6 W7 : World} {N : Nat} {r0 r1 r2 r3 r4 : Value} (h : ResAt w6 N r0 r1 r2 r3 r4) (v0 v1 v2 v3 v4 : Value)
  (e : ((((w6.setCell ⟨N, 0, none⟩ v0).setCell ⟨N, 1, none⟩ v1).setCell ⟨N, 2, none⟩ v2).setCell ⟨N, 3, none⟩ v3).setCell ⟨N, 4, none⟩ v4 = W7) : ResAt W7 N v0 v1 v2 v3 v4 ∧ Keep (fun j => j = N) w6 W7 := by
 subst e
 refine ⟨⟨?_, ?_, ?_, ?_, ?_, fun i => ?_⟩, (((((Keep.refl (fun j => j = N) w6).setCell (p := ⟨N, 0, none⟩) rfl _).setCell (p := ⟨N, 1, none⟩) rfl _).setCell (p := ⟨N, 2, none⟩) rfl _).setCell (p := ⟨N, 3, none⟩) rfl _).setCell (p := ⟨N, 4, none⟩) rfl _⟩
 ·rw [World.cell?_setCell_other _ _ _ _ (by first | (simp; done) | (simp; omega)), World.cell?_setCell_other _ _ _ _ (by first | (simp; done) | (simp; omega)), World.cell?_setCell_other _ _ _ _ (by first | (simp; done) | (simp; omega)), World.cell?_setCell_other _ _ _ _ (by first | (simp; done) | (simp; omega))]; exact World.cell?_setCell_same _ _ _ h.r0
 ·rw [World.cell?_setCell_other _ _ _ _ (by first | (simp; done) | (simp; omega)), World.cell?_setCell_other _ _ _ _ (by first | (simp; done) | (simp; omega)), World.cell?_setCell_other _ _ _ _ (by first | (simp; done) | (simp; omega))]; exact World.cell?_setCell_same _ _ _ (by rw [World.cell?_setCell_other _ _ _ _ (by first | (simp; done) | (simp; omega))]; exact h.r1)
 ·rw [World.cell?_setCell_other _ _ _ _ (by first | (simp; done) | (simp; omega)), World.cell?_setCell_other _ _ _ _ (by first | (simp; done) | (simp; omega))]; exact World.cell?_setCell_same _ _ _ (by rw [World.cell?_setCell_other _ _ _ _ (by first | (simp; done) | (simp; omega)), World.cell?_setCell_other _ _ _ _ (by first | (simp; done) | (simp; omega))]; exact h.r2)
 ·rw [World.cell?_setCell_other _ _ _ _ (by first | (simp; done) | (simp; omega))]; exact World.cell?_setCell_same _ _ _ (by rw [World.cell?_setCell_other _ _ _ _ (by first | (simp; done) | (simp; omega)), World.cell?_setCell_other _ _ _ _ (by first | (simp; done) | (simp; omega)), World.cell?_setCell_other _ _ _ _ (by first | (simp; done) | (simp; omega))]; exact h.r3)
 ·exact World.cell?_setCell_same _ _ _ (by rw [World.cell?_setCell_other _ _ _ _ (by first | (simp; done) | (simp; omega)), World.cell?_setCell_other _ _ _ _ (by first | (simp; done) | (simp; omega)), World.cell?_setCell_other _ _ _ _ (by first | (simp; done) | (simp; omega)), World.cell?_setCell_other _ _ _ _ (by first | (simp; done) | (simp; omega))]; exact h.r4)
 ·simp only [World.frozen?_setCell]; exact h.fz i
/-- A call's cells at block N. -/
structure OpAt (w : World) (N : Nat) (o : OpI) : Prop where
 o0 : w.cell? ⟨N, 0, none⟩ = some (.int .i64 o.kind)
 o1 : w.cell? ⟨N, 1, none⟩ = some (.int .i64 o.key)
 o2 : w.cell? ⟨N, 2, none⟩ = some (.int .i64 o.hi)
 o3 : w.cell? ⟨N, 3, none⟩ = some (.int .i64 o.val)
theorem OpAt.keep {w w' : World} {N : Nat} {o : OpI} {T : Nat → Prop} (h : OpAt w N o) (k : Keep T w w') (hn : ¬ T N) : OpAt w' N o := ⟨k.cell h.o0 hn, k.cell h.o1 hn, k.cell h.o2 hn, k.cell h.o3 hn⟩
theorem op_box (w : World) (o : OpI) : ∃ W, w.alloc (.cells #[.int .i64 o.kind, .int .i64 o.key, .int .i64 o.hi, .int .i64 o.val] 25) = W ∧ OpAt W w.heap.size o ∧ Keep (fun _ => False) w W :=
 ⟨_, rfl, ⟨by simp, by simp, by simp, by simp⟩, (Keep.refl _ _).alloc _⟩
end Go.Proofs.Ytkkjofefjepodaa
/- Contract of (*sync.Once).Do in one goroutine, for the closure that the package hands to it: not yet done and its lock free: the closure runs once, the Once is done, the lock is free again; done already: nothing. -/
namespace Go.Proofs.Ytkkjofefjepodaa
open Go.ChangeShapes Go.WideShapes Go.ChangeAt Go.RowKit
set_option linter.unusedVariables false

theorem race_disable (w : World) : (callFunc 115 #[]).run Try.prog w = .ok (.value (.tuple #[])) w := run_call_mark0 Try.func115 (by kernel_rfl) (by kernel_rfl) (by kernel_rfl) .disable (by kernel_rfl) w
theorem race_enable (w : World) : (callFunc 117 #[]).run Try.prog w = .ok (.value (.tuple #[])) w := run_call_mark0 Try.func117 (by kernel_rfl) (by kernel_rfl) (by kernel_rfl) .enable (by kernel_rfl) w
theorem race_acquire (a : Addr) (w : World) : (callFunc 118 #[.pointer (some a)]).run Try.prog w = .ok (.value (.tuple #[])) w := run_call_marked Try.func118 (by kernel_rfl) (by kernel_rfl) (by kernel_rfl) .acquire (by kernel_rfl) a w
theorem race_merge (a : Addr) (w : World) : (callFunc 120 #[.pointer (some a)]).run Try.prog w = .ok (.value (.tuple #[])) w := run_call_marked Try.func120 (by kernel_rfl) (by kernel_rfl) (by kernel_rfl) .releaseMerge (by kernel_rfl) a w
set_option maxRecDepth 100000 in
theorem bool_store (b o : Nat) (x : Value) (u : FrameMode) (w : World) (hc : w.cell? ⟨b, o, none⟩ = some x) (hz : w.frozen? ⟨b, o, none⟩ = false) :
  CallsD Try.prog 110 #[.pointer (some ⟨b, o, none⟩), .bool true] u w fun e u' w' => u' = u ∧ (e = .returned (.tuple #[]) ∧ w' = w.drew.setCell ⟨b, o, none⟩ (.int .u32 1)) := by
 have hc' : w.drew.cell? ⟨b, o, none⟩ = some x := hc
 have hz' : w.drew.frozen? ⟨b, o, none⟩ = false := hz
 have hst := run_call_store (P := Try.prog) Try.func113 (by kernel_rfl) (by kernel_rfl) (by kernel_rfl) (by kernel_rfl) (k := .u32) (y := 1) hc' hz'
 go_enter_d Try.func110, Try.ntmps110
 go_wp2
 go_region_calls
 all_goals (go_end0; exact ⟨rfl, rfl⟩)
set_option maxRecDepth 100000 in
theorem mu_unlock (b o : Nat) (u : FrameMode) (w : World) (hc : w.cell? ⟨b, o, none⟩ = some (.int .i32 1)) (hz : w.frozen? ⟨b, o, none⟩ = false) :
  CallsD Try.prog 109 #[.pointer (some ⟨b, o, none⟩)] u w fun e u' w' => u' = u ∧ (e = .returned (.tuple #[]) ∧ w' = w.setCell ⟨b, o, none⟩ (.int .i32 0)) := by
 have hd := race_disable
 have he := race_enable
 have hr := race_merge
 have hadd := run_call_add (P := Try.prog) Try.func121 (by kernel_rfl) (by kernel_rfl) (by kernel_rfl) .i32 (by kernel_rfl) (y := -1) (s := 0) hc hz (by simp [go_sem]; rfl)
 have hcv := run_convert_to_unsafe (P := Try.prog) (src := 182) (dst := 186) Try.underlying182 Try.underlying186 (by kernel_rfl) hc
 go_enter_d Try.func109, Try.ntmps109
 go_wp2
 go_end0
 go_wp2
 go_end0
 exact ⟨rfl, rfl⟩
set_option maxRecDepth 100000 in
theorem mu_lock (b o : Nat) (w : World) (hc : w.cell? ⟨b, o, none⟩ = some (.int .i32 0)) (hz : w.frozen? ⟨b, o, none⟩ = false) :
  Calls Try.prog 108 #[.pointer (some ⟨b, o, none⟩)] w fun e w' => e = .returned (.tuple #[]) ∧ w' = w.setCell ⟨b, o, none⟩ (.int .i32 1) := by
 have hd := race_disable
 have he := race_enable
 have ha := race_acquire
 have hcas := run_call_cas_hit (P := Try.prog) Try.func116 (by kernel_rfl) (by kernel_rfl) (by kernel_rfl) .i32 (by kernel_rfl) (y := 1) hc hz
 have hc' : (w.setCell ⟨b, o, none⟩ (.int .i32 1)).cell? ⟨b, o, none⟩ = some (.int .i32 1) := World.cell?_setCell_same w _ _ hc
 have hcv := run_convert_to_unsafe (P := Try.prog) (src := 182) (dst := 186) Try.underlying182 Try.underlying186 (by kernel_rfl) hc'
 go_enter Try.func108, Try.ntmps108
 go_wp2
 first | go_end0 | (simp only [Exit.inBlock, Exit.then]; refine bodyPost_ret (results_none rfl _ _ _) rfl ?_) | refine bodyPost_ret (results_none rfl _ _ _) rfl ?_
 go_wp2
 go_end0
 exact ⟨rfl, rfl⟩
end Go.Proofs.Ytkkjofefjepodaa
/- Contract of (*sync.Once).Do in one goroutine, for the closure that the package hands to it: not yet done and its lock free: the closure runs once, the Once is done, the lock is free again; done already: nothing. -/
namespace Go.Proofs.Ytkkjofefjepodaa
open Go.ChangeShapes Go.WideShapes Go.ChangeAt Go.RowKit
set_option linter.unusedVariables false

/-- What the closure leaves: R of its world, the Once's three cells as they were. -/
def Ran (R : World → Prop) (b o : Nat) (e : Ending) (w : World) : Prop :=
 e = .returned (.tuple #[]) ∧ R w ∧ w.cell? ⟨b, o, none⟩ = some (.int .u32 0) ∧ w.cell? ⟨b, o + 1, none⟩ = some (.int .i32 1) ∧ w.frozen? ⟨b, o, none⟩ = false ∧ w.frozen? ⟨b, o + 1, none⟩ = false
def OnceDid (R : World → Prop) (b o : Nat) (e : Ending) (w' : World) : Prop :=
 e = .returned (.tuple #[]) ∧ ∃ w2, R w2 ∧ w' = (w2.drew.setCell ⟨b, o, none⟩ (.int .u32 1)).setCell ⟨b, o + 1, none⟩ (.int .i32 0)
set_option maxRecDepth 100000 in
set_option maxHeartbeats 1600000 in
theorem once_slowM (b o : Nat) (caps : Array Value) (R : World → Prop) (w : World)
  (h0 : w.cell? ⟨b, o, none⟩ = some (.int .u32 0)) (h1 : w.cell? ⟨b, o + 1, none⟩ = some (.int .i32 0)) (f1 : w.frozen? ⟨b, o + 1, none⟩ = false)
  (hF : Calls Try.prog 102 caps (w.setCell ⟨b, o + 1, none⟩ (.int .i32 1)) (Ran R b o)) :
  Calls Try.prog 106 #[.pointer (some ⟨b, o, none⟩), .func (.func 102) #[] caps] w (OnceDid R b o) := by
 -- ntmps102
 have hl := run_call_load (P := Try.prog) Try.func107 (by kernel_rfl) (by kernel_rfl) (by kernel_rfl) .u32 (by kernel_rfl) (w := w.setCell ⟨b, o + 1, none⟩ (.int .i32 1)) (a := ⟨b, o, none⟩) (x := 0) ((World.cell?_setCell_other _ ⟨b, o + 1, none⟩ ⟨b, o, none⟩ _ (by simp)).trans h0)
 have hnot : ∀ (x : Bool) (w : World), (Op.unary .not (.bool x)).run Try.prog w = .ok (.bool (!x)) w := fun _ _ => rfl
 go_enter_defers Try.func106, Try.ntmps106
 go_wp2_with (first | (go_at_call 108; refine (mu_lock b (o + 1) _ h1 f1).mono ?_; rintro e w' ⟨rfl, rfl⟩) | (go_at_call 105; go_in))
 refine hF.mono ?_
 rintro e w2 ⟨rfl, hR, d0, d1, e0, e1⟩
 go_wp2
 refine leaves_cons (f := 110) (args := #[.pointer (some ⟨b, o, none⟩), .bool true]) (by simp) (by simp [go_sem]) ?_
 refine (bool_store b o (.int .u32 0) .returning w2 d0 e0).mono ?_
 rintro e u' w'' ⟨rfl, rfl, rfl⟩
 refine leaves_cons (f := 109) (args := #[.pointer (some ⟨b, o + 1, none⟩)]) (by simp [settle]) (by simp [go_sem]) ?_
 refine (mu_unlock b (o + 1) _ _ ?_ ?_).mono ?_
 ·exact (World.cell?_setCell_other _ ⟨b, o, none⟩ ⟨b, o + 1, none⟩ _ (by simp)).trans d1
 ·simpa using e1
 rintro e u' w'' ⟨rfl, rfl, rfl⟩
 simp [Leaves, settle, results, Try.results106]
 exact ⟨rfl, w2, hR, rfl⟩
theorem once_firstM (b o : Nat) (caps : Array Value) (R : World → Prop) (w : World)
  (h0 : w.cell? ⟨b, o, none⟩ = some (.int .u32 0)) (h1 : w.cell? ⟨b, o + 1, none⟩ = some (.int .i32 0)) (f1 : w.frozen? ⟨b, o + 1, none⟩ = false)
  (hF : Calls Try.prog 102 caps (w.setCell ⟨b, o + 1, none⟩ (.int .i32 1)) (Ran R b o)) :
  Calls Try.prog 101 #[.pointer (some ⟨b, o, none⟩), .func (.func 102) #[] caps] w (OnceDid R b o) := by
 -- ntmps102
 have hl := run_call_load (P := Try.prog) Try.func107 (by kernel_rfl) (by kernel_rfl) (by kernel_rfl) .u32 (by kernel_rfl) h0
 have hnot : ∀ (x : Bool) (w : World), (Op.unary .not (.bool x)).run Try.prog w = .ok (.bool (!x)) w := fun _ _ => rfl
 have hS := once_slowM b o caps R w h0 h1 f1 hF
 clear hF
 go_enter Try.func101, Try.ntmps101
 go_wp2_with (first | (go_at_call 106; refine hS.mono ?_; rintro e w' ⟨rfl, hD⟩) | (go_at_call 105; go_in))
 go_end0
 exact ⟨rfl, hD⟩
theorem once_done (b o : Nat) (fv : Value) (w : World) (h0 : w.cell? ⟨b, o, none⟩ = some (.int .u32 1)) :
  Calls Try.prog 101 #[.pointer (some ⟨b, o, none⟩), fv] w fun e w' => e = .returned (.tuple #[]) ∧ w = w' := by
 have hl := run_call_load (P := Try.prog) Try.func107 (by kernel_rfl) (by kernel_rfl) (by kernel_rfl) .u32 (by kernel_rfl) h0
 have hnot : ∀ (x : Bool) (w : World), (Op.unary .not (.bool x)).run Try.prog w = .ok (.bool (!x)) w := fun _ _ => rfl
 go_enter Try.func101, Try.ntmps101
 go_wp2_with (go_at_call 105; go_in)
 go_end0
 exact ⟨rfl, rfl⟩
end Go.Proofs.Ytkkjofefjepodaa
/- A Status in a block of its own: its nine cells, what a store of all of them leaves. No condition. -/
namespace Go.Proofs.Ytkkjofefjepodaa
open Go.ChangeShapes Go.WideShapes Go.ChangeAt Go.RowKit
set_option linter.unusedVariables false
set_option linter.unusedSimpArgs false

/-- A Status's box. -/
structure StAt (w : World) (N : Nat) (u0 u1 u2 u3 u4 u5 u6 u7 u8 : Value) : Prop where
 r0 : w.cell? ⟨N, 0, none⟩ = some u0
 r1 : w.cell? ⟨N, 1, none⟩ = some u1
 r2 : w.cell? ⟨N, 2, none⟩ = some u2
 r3 : w.cell? ⟨N, 3, none⟩ = some u3
 r4 : w.cell? ⟨N, 4, none⟩ = some u4
 r5 : w.cell? ⟨N, 5, none⟩ = some u5
 r6 : w.cell? ⟨N, 6, none⟩ = some u6
 r7 : w.cell? ⟨N, 7, none⟩ = some u7
 r8 : w.cell? ⟨N, 8, none⟩ = some u8
 fz : ∀ i, w.frozen? ⟨N, i, none⟩ = false
theorem st_box (w : World) : ∃ W, w.alloc (.cells #[.bool false, .bool false, .bool false, .int .i64 0, .int .i64 0, .int .i64 0, .int .u64 0, .int .u64 0, .int .i64 0] 56) = W ∧ StAt W w.heap.size (.bool false) (.bool false) (.bool false) (.int .i64 0) (.int .i64 0) (.int .i64 0) (.int .u64 0) (.int .u64 0) (.int .i64 0) ∧ Keep (fun _ => False) w W :=
 ⟨_, rfl, ⟨by simp, by simp, by simp, by simp, by simp, by simp, by simp, by simp, by simp, fun i => by simp⟩, (Keep.refl _ _).alloc _⟩
theorem StAt.keep {w w' : World} {N : Nat} {u0 u1 u2 u3 u4 u5 u6 u7 u8 : Value} {T : Nat → Prop} (h : StAt w N u0 u1 u2 u3 u4 u5 u6 u7 u8) (k : Keep T w w') (hn : ¬ T N) : StAt w' N u0 u1 u2 u3 u4 u5 u6 u7 u8 :=
 ⟨k.cell h.r0 hn, k.cell h.r1 hn, k.cell h.r2 hn, k.cell h.r3 hn, k.cell h.r4 hn, k.cell h.r5 hn, k.cell h.r6 hn, k.cell h.r7 hn, k.cell h.r8 hn, fun i => (k.frozen (a := ⟨N, i, none⟩) (lt_of_cell (a := ⟨N, 0, none⟩) h.r0) hn).trans (h.fz i)⟩
theorem st_set {w6 W7 : World} {N : Nat} {u0 u1 u2 u3 u4 u5 u6 u7 u8 : Value} (h : StAt w6 N u0 u1 u2 u3 u4 u5 u6 u7 u8) (v0 v1 v2 v3 v4 v5 v6 v7 v8 : Value) (e : (((((((((w6.setCell ⟨N, 0, none⟩ v0).setCell ⟨N, 1, none⟩ v1).setCell ⟨N, 2, none⟩ v2).setCell ⟨N, 3, none⟩ v3).setCell ⟨N, 4, none⟩ v4).setCell ⟨N, 5, none⟩ v5).setCell ⟨N, 6, none⟩ v6).setCell ⟨N, 7, none⟩ v7).setCell ⟨N, 8, none⟩ v8) = W7) : StAt W7 N v0 v1 v2 v3 v4 v5 v6 v7 v8 ∧ Keep (fun j => j = N) w6 W7 := by
 subst e
 refine ⟨⟨?_, ?_, ?_, ?_, ?_, ?_, ?_, ?_, ?_, fun i => ?_⟩, ((((((((((Keep.refl (fun j => j = N) w6).setCell (p := ⟨N, 0, none⟩) rfl _).setCell (p := ⟨N, 1, none⟩) rfl _).setCell (p := ⟨N, 2, none⟩) rfl _).setCell (p := ⟨N, 3, none⟩) rfl _).setCell (p := ⟨N, 4, none⟩) rfl _).setCell (p := ⟨N, 5, none⟩) rfl _).setCell (p := ⟨N, 6, none⟩) rfl _).setCell (p := ⟨N, 7, none⟩) rfl _).setCell (p := ⟨N, 8, none⟩) rfl _)⟩
 ·rw [World.cell?_setCell_other _ _ _ _ (by first | (simp; done) | (simp; omega)), World.cell?_setCell_other _ _ _ _ (by first | (simp; done) | (simp; omega)), World.cell?_setCell_other _ _ _ _ (by first | (simp; done) | (simp; omega)), World.cell?_setCell_other _ _ _ _ (by first | (simp; done) | (simp; omega)), World.cell?_setCell_other _ _ _ _ (by first | (simp; done) | (simp; omega)), World.cell?_setCell_other _ _ _ _ (by first | (simp; done) | (simp; omega)), World.cell?_setCell_other _ _ _ _ (by first | (simp; done) | (simp; omega)), World.cell?_setCell_other _ _ _ _ (by first | (simp; done) | (simp; omega))]; exact World.cell?_setCell_same _ _ _ h.r0
 ·rw [World.cell?_setCell_other _ _ _ _ (by first | (simp; done) | (simp; omega)), World.cell?_setCell_other _ _ _ _ (by first | (simp; done) | (simp; omega)), World.cell?_setCell_other _ _ _ _ (by first | (simp; done) | (simp; omega)), World.cell?_setCell_other _ _ _ _ (by first | (simp; done) | (simp; omega)), World.cell?_setCell_other _ _ _ _ (by first | (simp; done) | (simp; omega)), World.cell?_setCell_other _ _ _ _ (by first | (simp; done) | (simp; omega)), World.cell?_setCell_other _ _ _ _ (by first | (simp; done) | (simp; omega))]; exact World.cell?_setCell_same _ _ _ (by rw [World.cell?_setCell_other _ _ _ _ (by first | (simp; done) | (simp; omega))]; exact h.r1)
 ·rw [World.cell?_setCell_other _ _ _ _ (by first | (simp; done) | (simp; omega)), World.cell?_setCell_other _ _ _ _ (by first | (simp; done) | (simp; omega)), World.cell?_setCell_other _ _ _ _ (by first | (simp; done) | (simp; omega)), World.cell?_setCell_other _ _ _ _ (by first | (simp; done) | (simp; omega)), World.cell?_setCell_other _ _ _ _ (by first | (simp; done) | (simp; omega)), World.cell?_setCell_other _ _ _ _ (by first | (simp; done) | (simp; omega))]; exact World.cell?_setCell_same _ _ _ (by rw [World.cell?_setCell_other _ _ _ _ (by first | (simp; done) | (simp; omega)), World.cell?_setCell_other _ _ _ _ (by first | (simp; done) | (simp; omega))]; exact h.r2)
 ·rw [World.cell?_setCell_other _ _ _ _ (by first | (simp; done) | (simp; omega)), World.cell?_setCell_other _ _ _ _ (by first | (simp; done) | (simp; omega)), World.cell?_setCell_other _ _ _ _ (by first | (simp; done) | (simp; omega)), World.cell?_setCell_other _ _ _ _ (by first | (simp; done) | (simp; omega)), World.cell?_setCell_other _ _ _ _ (by first | (simp; done) | (simp; omega))]; exact World.cell?_setCell_same _ _ _ (by rw [World.cell?_setCell_other _ _ _ _ (by first | (simp; done) | (simp; omega)), World.cell?_setCell_other _ _ _ _ (by first | (simp; done) | (simp; omega)), World.cell?_setCell_other _ _ _ _ (by first | (simp; done) | (simp; omega))]; exact h.r3)
 ·rw [World.cell?_setCell_other _ _ _ _ (by first | (simp; done) | (simp; omega)), World.cell?_setCell_other _ _ _ _ (by first | (simp; done) | (simp; omega)), World.cell?_setCell_other _ _ _ _ (by first | (simp; done) | (simp; omega)), World.cell?_setCell_other _ _ _ _ (by first | (simp; done) | (simp; omega))]; exact World.cell?_setCell_same _ _ _ (by rw [World.cell?_setCell_other _ _ _ _ (by first | (simp; done) | (simp; omega)), World.cell?_setCell_other _ _ _ _ (by first | (simp; done) | (simp; omega)), World.cell?_setCell_other _ _ _ _ (by first | (simp; done) | (simp; omega)), World.cell?_setCell_other _ _ _ _ (by first | (simp; done) | (simp; omega))]; exact h.r4)
 ·rw [World.cell?_setCell_other _ _ _ _ (by first | (simp; done) | (simp; omega)), World.cell?_setCell_other _ _ _ _ (by first | (simp; done) | (simp; omega)), World.cell?_setCell_other _ _ _ _ (by first | (simp; done) | (simp; omega))]; exact World.cell?_setCell_same _ _ _ (by rw [World.cell?_setCell_other _ _ _ _ (by first | (simp; done) | (simp; omega)), World.cell?_setCell_other _ _ _ _ (by first | (simp; done) | (simp; omega)), World.cell?_setCell_other _ _ _ _ (by first | (simp; done) | (simp; omega)), World.cell?_setCell_other _ _ _ _ (by first | (simp; done) | (simp; omega)), World.cell?_setCell_other _ _ _ _ (by first | (simp; done) | (simp; omega))]; exact h.r5)
 ·rw [World.cell?_setCell_other _ _ _ _ (by first | (simp; done) | (simp; omega)), World.cell?_setCell_other _ _ _ _ (by first | (simp; done) | (simp; omega))]; exact World.cell?_setCell_same _ _ _ (by rw [World.cell?_setCell_other _ _ _ _ (by first | (simp; done) | (simp; omega)), World.cell?_setCell_other _ _ _ _ (by first | (simp; done) | (simp; omega)), World.cell?_setCell_other _ _ _ _ (by first | (simp; done) | (simp; omega)), World.cell?_setCell_other _ _ _ _ (by first | (simp; done) | (simp; omega)), World.cell?_setCell_other _ _ _ _ (by first | (simp; done) | (simp; omega)), World.cell?_setCell_other _ _ _ _ (by first | (simp; done) | (simp; omega))]; exact h.r6)
 ·rw [World.cell?_setCell_other _ _ _ _ (by first | (simp; done) | (simp; omega))]; exact World.cell?_setCell_same _ _ _ (by rw [World.cell?_setCell_other _ _ _ _ (by first | (simp; done) | (simp; omega)), World.cell?_setCell_other _ _ _ _ (by first | (simp; done) | (simp; omega)), World.cell?_setCell_other _ _ _ _ (by first | (simp; done) | (simp; omega)), World.cell?_setCell_other _ _ _ _ (by first | (simp; done) | (simp; omega)), World.cell?_setCell_other _ _ _ _ (by first | (simp; done) | (simp; omega)), World.cell?_setCell_other _ _ _ _ (by first | (simp; done) | (simp; omega)), World.cell?_setCell_other _ _ _ _ (by first | (simp; done) | (simp; omega))]; exact h.r7)
 ·exact World.cell?_setCell_same _ _ _ (by rw [World.cell?_setCell_other _ _ _ _ (by first | (simp; done) | (simp; omega)), World.cell?_setCell_other _ _ _ _ (by first | (simp; done) | (simp; omega)), World.cell?_setCell_other _ _ _ _ (by first | (simp; done) | (simp; omega)), World.cell?_setCell_other _ _ _ _ (by first | (simp; done) | (simp; omega)), World.cell?_setCell_other _ _ _ _ (by first | (simp; done) | (simp; omega)), World.cell?_setCell_other _ _ _ _ (by first | (simp; done) | (simp; omega)), World.cell?_setCell_other _ _ _ _ (by first | (simp; done) | (simp; omega)), World.cell?_setCell_other _ _ _ _ (by first | (simp; done) | (simp; omega))]; exact h.r8)
 ·simp only [World.frozen?_setCell]; exact h.fz i
end Go.Proofs.Ytkkjofefjepodaa
/- A slice of integers that came in: what its cells hold; no condition beyond the argument's own reading. -/
namespace Go.Proofs.Ytkkjofefjepodaa
open Go.ChangeShapes Go.WideShapes Go.ChangeAt Go.RowKit
set_option linter.unusedVariables false

/-- The slice at A of n elements reads as the numbers zs. -/
structure IsRow (k : IntKind) (w : World) (A : Option Addr) (n c : Nat) (zs : List Int) : Prop where
 len : zs.length = n
 cap : n ≤ c
 max : c ≤ 9223372036854775807
 cell : 0 < n → ∃ b off, A = some ⟨b, off, none⟩ ∧ b < w.heap.size ∧ ∀ j, j < n → w.cell? ⟨b, off + j, none⟩ = some (.int k (zs.getD j 0))
 wf : ∀ x ∈ zs, (Lit.int k x).wf = true
theorem is_row {H : Type} {enc : TypeId × Value → H} {P : Program} {w : World} {spare : Nat → Bool} {held : Bool} {t e : TypeId} {k : IntKind} {A : Option Addr} {n c : Nat} {d : DataW H} {ps : List MemPlace}
  (ht : P.underlying t = some (.slice e)) (he : P.underlying e = some (.int k)) (hc : P.cellsOf e = 1) (h : DataW.Trod enc P w 0 spare held t (.slice A n c) d ps) : ∃ zs, IsRow k w A n c zs := by
 obtain ⟨fuel, hf⟩ := h
 rcases open_ints ht he hc hf with ⟨h0, _⟩ | ⟨a, len, cap, zs, h0, _, hl, hm, hz, _, hcell, hwf⟩
 ·simp [Value.cells] at h0
  obtain ⟨rfl, rfl, rfl⟩ := h0
  exact ⟨[], rfl, Nat.le_refl _, by omega, fun h => by omega, by simp⟩
 ·simp [Value.cells] at h0
  obtain ⟨rfl, rfl, rfl⟩ := h0
  have hnl : n ≤ zs.length := by rw [hz]; split <;> omega
  refine ⟨zs.take n, by simp; omega, hl, by unfold maxLen at hm; omega, fun hp => ?_, fun x hx => hwf x (List.mem_of_mem_take hx)⟩
  obtain ⟨b, off, rfl, hb⟩ := ints_at hcell (by omega)
  refine ⟨b, off, rfl, lt_of_cell (hb 0 (by omega)), fun j hj => ?_⟩
  rw [hb j (by omega)]
  simp [List.getD_eq_getElem?_getD, hj]
/-- Every element fits 64 bits without a sign. -/
theorem IsRow.u64 {w : World} {A : Option Addr} {n c : Nat} {zs : List Int} (h : IsRow .u64 w A n c zs) (j : Nat) : 0 ≤ zs.getD j 0 ∧ zs.getD j 0 ≤ 18446744073709551615 := by
 have := range_u64 h.wf j
 rwa [List.getD_eq_getElem?_getD]

end Go.Proofs.Ytkkjofefjepodaa
/- Slices of api.Op and of vinculumlaw19.Act that came in: what their cells hold; no condition beyond the argument's own reading. -/
namespace Go.Proofs.Ytkkjofefjepodaa
open Go.ChangeShapes Go.WideShapes Go.ChangeAt Go.RowKit
set_option linter.unusedVariables false

/-- One call of the script. -/
structure ActI where
 kind : Int
 s : Int
 level : Int
 o : OpI
structure ClAt (w : World) (b o : Nat) (x : OpI) : Prop where
 c0 : w.cell? ⟨b, o, none⟩ = some (.int .i64 x.kind)
 c1 : w.cell? ⟨b, o + 1, none⟩ = some (.int .i64 x.key)
 c2 : w.cell? ⟨b, o + 2, none⟩ = some (.int .i64 x.hi)
 c3 : w.cell? ⟨b, o + 3, none⟩ = some (.int .i64 x.val)
structure ClOk (x : OpI) : Prop where
 b0 : -9223372036854775808 ≤ x.kind ∧ x.kind ≤ 9223372036854775807
 b1 : -9223372036854775808 ≤ x.key ∧ x.key ≤ 9223372036854775807
 b2 : -9223372036854775808 ≤ x.hi ∧ x.hi ≤ 9223372036854775807
 b3 : -9223372036854775808 ≤ x.val ∧ x.val ≤ 9223372036854775807
structure ActAt (w : World) (b o : Nat) (x : ActI) : Prop where
 c0 : w.cell? ⟨b, o, none⟩ = some (.int .i64 x.kind)
 c1 : w.cell? ⟨b, o + 1, none⟩ = some (.int .i64 x.s)
 c2 : w.cell? ⟨b, o + 2, none⟩ = some (.int .i64 x.level)
 c3 : w.cell? ⟨b, o + 3, none⟩ = some (.int .i64 x.o.kind)
 c4 : w.cell? ⟨b, o + 4, none⟩ = some (.int .i64 x.o.key)
 c5 : w.cell? ⟨b, o + 5, none⟩ = some (.int .i64 x.o.hi)
 c6 : w.cell? ⟨b, o + 6, none⟩ = some (.int .i64 x.o.val)
structure ActOk (x : ActI) : Prop where
 b0 : -9223372036854775808 ≤ x.kind ∧ x.kind ≤ 9223372036854775807
 b1 : -9223372036854775808 ≤ x.s ∧ x.s ≤ 9223372036854775807
 b2 : -9223372036854775808 ≤ x.level ∧ x.level ≤ 9223372036854775807
 b3 : ClOk x.o
structure IsCl (w : World) (A : Option Addr) (n c : Nat) (f : Nat → OpI) : Prop where
 cap : n ≤ c
 max : c ≤ 9223372036854775807
 cell : 0 < n → ∃ b off, A = some ⟨b, off, none⟩ ∧ b < w.heap.size ∧ ∀ j, j < n → ClAt w b (off + j * 4) (f j)
 ok : ∀ j, j < n → ClOk (f j)
structure IsActs (w : World) (A : Option Addr) (n c : Nat) (f : Nat → ActI) : Prop where
 cap : n ≤ c
 max : c ≤ 9223372036854775807
 cell : 0 < n → ∃ b off, A = some ⟨b, off, none⟩ ∧ b < w.heap.size ∧ ∀ j, j < n → ActAt w b (off + j * 7) (f j)
 ok : ∀ j, j < n → ActOk (f j)
theorem Addr.add_zero' (a : Addr) : a.add 0 = a := by simp [Addr.add]
theorem cells_cl : Try.prog.cellsOf 25 = 4 := by kernel_rfl
theorem cells_int : Try.prog.cellsOf 3 = 1 := by kernel_rfl

set_option maxRecDepth 100000 in
theorem trod_cl {H : Type} {enc : TypeId × Value → H} {w : World} {spare : Nat → Bool} {held : Bool} {m : Nat} {cs : List Value} {d : DataW H × List MemPlace} (hc : cs.length = 4) (ht : DataW.trod enc Try.prog w 0 spare held m 25 cs = some d) :
    ∃ x : OpI, cs = [.int .i64 x.kind, .int .i64 x.key, .int .i64 x.hi, .int .i64 x.val] ∧ ClOk x := by
  obtain ⟨xs, m', _, _, hl4, hxl, hx⟩ := DataW.trod_struct Try.underlying25 ht
  have f0 : DataW.trod enc Try.prog w 0 spare held m' 3 ((cs.drop 0).take (Try.prog.cellsOf 3)) = xs[0]? := hx 0 _ rfl
  have f1 : DataW.trod enc Try.prog w 0 spare held m' 3 ((cs.drop 1).take (Try.prog.cellsOf 3)) = xs[1]? := hx 1 _ rfl
  have f2 : DataW.trod enc Try.prog w 0 spare held m' 3 ((cs.drop 2).take (Try.prog.cellsOf 3)) = xs[2]? := hx 2 _ rfl
  have f3 : DataW.trod enc Try.prog w 0 spare held m' 3 ((cs.drop 3).take (Try.prog.cellsOf 3)) = xs[3]? := hx 3 _ rfl
  match cs, hc, xs, hxl with
  | [x0, x1, x2, x3], _, [y0, y1, y2, y3], _ =>
    simp only [cells_int, List.drop_zero, List.drop_succ_cons, List.take_succ_cons, List.take_zero, List.getElem?_cons_zero, List.getElem?_cons_succ] at f0 f1 f2 f3
    obtain ⟨v0, e0, _, g0⟩ := DataW.trod_int Try.underlying3 f0
    obtain ⟨v1, e1, _, g1⟩ := DataW.trod_int Try.underlying3 f1
    obtain ⟨v2, e2, _, g2⟩ := DataW.trod_int Try.underlying3 f2
    obtain ⟨v3, e3, _, g3⟩ := DataW.trod_int Try.underlying3 f3
    simp only [List.cons.injEq, and_true] at e0 e1 e2 e3
    subst e0 e1 e2 e3
    exact ⟨⟨v0, v1, v2, v3⟩, rfl, ⟨bounds_i64 g0, bounds_i64 g1, bounds_i64 g2, bounds_i64 g3⟩⟩
set_option maxRecDepth 100000 in
set_option maxHeartbeats 1000000 in
theorem is_cl {H : Type} {enc : TypeId × Value → H} {w : World} {spare : Nat → Bool} {held : Bool} {A : Option Addr} {n c : Nat} {d : DataW H} {ps : List MemPlace}
  (h : DataW.Trod enc Try.prog w 0 spare held 26 (.slice A n c) d ps) : ∃ f, IsCl w A n c f := by
 obtain ⟨fuel, hf⟩ := h
 rcases DataW.trod_slice Try.underlying26 hf with ⟨h0, _⟩ | ⟨a, len, cap, elems, rest, m, _, h0, _, _, hl, hm, hlen, hel, _, _⟩
 ·simp [Value.cells] at h0
  obtain ⟨rfl, rfl, rfl⟩ := h0
  exact ⟨fun _ => ⟨0, 0, 0, 0⟩, Nat.le_refl _, by omega, fun h => by omega, fun j hj => by omega⟩
 ·simp [Value.cells] at h0
  obtain ⟨rfl, rfl, rfl⟩ := h0
  rw [cells_cl] at hel
  have each : ∀ j, ∃ x : OpI, j < n → (w.cell? (a.add (j * 4)) = some (.int .i64 x.kind) ∧ w.cell? ((a.add (j * 4)).add 1) = some (.int .i64 x.key) ∧ w.cell? ((a.add (j * 4)).add 2) = some (.int .i64 x.hi) ∧ w.cell? ((a.add (j * 4)).add 3) = some (.int .i64 x.val)) ∧ ClOk x := by
   intro j
   by_cases hj : j < n
   ·have he := hel j hj
    rw [List.getElem?_eq_getElem (by omega), Option.bind_eq_some_iff] at he
    obtain ⟨cs, hcs, ht⟩ := he
    obtain ⟨_, hcl, hat⟩ := World.cells?_some hcs
    obtain ⟨x, rfl, ok⟩ := trod_cl hcl ht
    refine ⟨x, fun _ => ⟨⟨?_, hat 1 (by omega), hat 2 (by omega), hat 3 (by omega)⟩, ok⟩⟩
    have := hat 0 (by omega)
    rwa [Addr.add_zero'] at this
   ·exact ⟨⟨0, 0, 0, 0⟩, fun h => absurd h hj⟩
  obtain ⟨f, hf⟩ := Classical.axiomOfChoice each
  refine ⟨f, hl, by unfold maxLen at hm; omega, fun hp => ?_, fun j hj => (hf j hj).2⟩
  obtain ⟨b, off, spot⟩ := a
  have hs0 := (hf 0 hp).1.1
  have hspot : spot = none := by simpa [Addr.add] using World.cell?_spot hs0
  subst hspot
  refine ⟨b, off, rfl, lt_of_cell (by simpa [Addr.add] using hs0), fun j hj => ?_⟩
  obtain ⟨⟨d0, d1, d2, d3⟩, _⟩ := hf j hj
  have ad : ∀ i, (({ block := b, off := off, spot := none } : Addr).add (j * 4)).add i = ⟨b, off + j * 4 + i, none⟩ := fun i => by rw [add_plain, add_plain]
  rw [ad] at d1 d2 d3
  rw [add_plain] at d0
  exact ⟨d0, d1, d2, d3⟩
theorem cells_act : Try.prog.cellsOf 62 = 7 := by kernel_rfl
set_option maxRecDepth 100000 in
set_option maxHeartbeats 1000000 in
theorem is_acts {H : Type} {enc : TypeId × Value → H} {w : World} {spare : Nat → Bool} {held : Bool} {A : Option Addr} {n c : Nat} {d : DataW H} {ps : List MemPlace}
    (h : DataW.Trod enc Try.prog w 0 spare held 60 (.slice A n c) d ps) : ∃ f, IsActs w A n c f := by
  obtain ⟨fuel, hf⟩ := h
  rcases DataW.trod_slice Try.underlying60 hf with ⟨h0, _⟩ | ⟨a, len, cap, elems, rest, m, _, h0, _, _, hl, hm, hlen, hel, _, _⟩
  · simp [Value.cells] at h0
    obtain ⟨rfl, rfl, rfl⟩ := h0
    exact ⟨fun _ => ⟨0, 0, 0, ⟨0, 0, 0, 0⟩⟩, Nat.le_refl _, by omega, fun h => by omega, fun j hj => by omega⟩
  · simp [Value.cells] at h0
    obtain ⟨rfl, rfl, rfl⟩ := h0
    rw [cells_act] at hel
    have each : ∀ j, ∃ x : ActI, j < n → (w.cell? (a.add (j * 7)) = some (.int .i64 x.kind) ∧ w.cell? ((a.add (j * 7)).add 1) = some (.int .i64 x.s) ∧ w.cell? ((a.add (j * 7)).add 2) = some (.int .i64 x.level) ∧ w.cell? ((a.add (j * 7)).add 3) = some (.int .i64 x.o.kind) ∧ w.cell? ((a.add (j * 7)).add 4) = some (.int .i64 x.o.key) ∧ w.cell? ((a.add (j * 7)).add 5) = some (.int .i64 x.o.hi) ∧ w.cell? ((a.add (j * 7)).add 6) = some (.int .i64 x.o.val)) ∧ ActOk x := by
      intro j
      by_cases hj : j < n
      · have he := hel j hj
        rw [List.getElem?_eq_getElem (by omega), Option.bind_eq_some_iff] at he
        obtain ⟨cs, hcs, ht⟩ := he
        obtain ⟨_, hcl, hat⟩ := World.cells?_some hcs
        obtain ⟨xs, m', _, _, hl4, hxl, hx⟩ := DataW.trod_struct Try.underlying62 ht
        have f0 : DataW.trod enc Try.prog w 0 spare held m' 3 ((cs.drop 0).take (Try.prog.cellsOf 3)) = xs[0]? := hx 0 _ rfl
        have f1 : DataW.trod enc Try.prog w 0 spare held m' 3 ((cs.drop 1).take (Try.prog.cellsOf 3)) = xs[1]? := hx 1 _ rfl
        have f2 : DataW.trod enc Try.prog w 0 spare held m' 3 ((cs.drop 2).take (Try.prog.cellsOf 3)) = xs[2]? := hx 2 _ rfl
        have f3 : DataW.trod enc Try.prog w 0 spare held m' 25 ((cs.drop 3).take (Try.prog.cellsOf 25)) = xs[3]? := hx 3 _ rfl
        match cs, hcl, xs, hxl with
        | [x0, x1, x2, x3, x4, x5, x6], _, [y0, y1, y2, y3], _ =>
          simp only [cells_int, cells_cl, List.drop_zero, List.drop_succ_cons, List.take_succ_cons, List.take_zero, List.getElem?_cons_zero, List.getElem?_cons_succ] at f0 f1 f2 f3
          obtain ⟨v0, e0, _, g0⟩ := DataW.trod_int Try.underlying3 f0
          obtain ⟨v1, e1, _, g1⟩ := DataW.trod_int Try.underlying3 f1
          obtain ⟨v2, e2, _, g2⟩ := DataW.trod_int Try.underlying3 f2
          obtain ⟨o, eo, ok⟩ := trod_cl rfl f3
          simp only [List.cons.injEq, and_true] at e0 e1 e2 eo
          obtain ⟨rfl, rfl, rfl, rfl⟩ := eo
          subst e0 e1 e2
          refine ⟨⟨v0, v1, v2, o⟩, fun _ => ⟨⟨?_, hat 1 (by omega), hat 2 (by omega), hat 3 (by omega), hat 4 (by omega), hat 5 (by omega), hat 6 (by omega)⟩, ⟨bounds_i64 g0, bounds_i64 g1, bounds_i64 g2, ok⟩⟩⟩
          have := hat 0 (by omega)
          rwa [Addr.add_zero'] at this
      · exact ⟨⟨0, 0, 0, ⟨0, 0, 0, 0⟩⟩, fun h => absurd h hj⟩
    obtain ⟨f, hf⟩ := Classical.axiomOfChoice each
    refine ⟨f, hl, by unfold maxLen at hm; omega, fun hp => ?_, fun j hj => (hf j hj).2⟩
    obtain ⟨b, off, spot⟩ := a
    have hs0 := (hf 0 hp).1.1
    have hspot : spot = none := by simpa [Addr.add] using World.cell?_spot hs0
    subst hspot
    refine ⟨b, off, rfl, lt_of_cell (by simpa [Addr.add] using hs0), fun j hj => ?_⟩
    obtain ⟨⟨d0, d1, d2, d3, d4, d5, d6⟩, _⟩ := hf j hj
    have ad : ∀ i, (({ block := b, off := off, spot := none } : Addr).add (j * 7)).add i = ⟨b, off + j * 7 + i, none⟩ := fun i => by rw [add_plain, add_plain]
    rw [ad] at d1 d2 d3 d4 d5 d6
    rw [add_plain] at d0
    exact ⟨d0, d1, d2, d3, d4, d5, d6⟩
end Go.Proofs.Ytkkjofefjepodaa
