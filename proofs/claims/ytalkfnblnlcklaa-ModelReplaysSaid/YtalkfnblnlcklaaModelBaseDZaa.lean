/- Several texts, one behind the other: Keep, Own, OwnM, Once, OnceC, Row. -/
import Derived.Test.YtalkfnblnlcklaaRows
import Derived.WalkKit
import Derived.ProofKit
import Derived.OpenShut
import Derived.WalkLawsBesides
import Derived.Below
import Derived.Lib.Hide
import Derived.Deep.Draws
import Derived.OwnWalk
import Derived.OneCell
import Derived.Laws.LoneSync
import Derived.Laws.Pointers
import Derived.Defers
import Derived.RegionTactic
import Derived.RegionCalls
import Derived.ChangeAlike
import Derived.ChangeOld
/- Plain facts on worlds, no dump: 'Keep S' (of the blocks that are there only those in S may have turned), a block of 64-bit words; no condition. -/
namespace Go.Proofs.Ytalkfnblnlcklaa
open Go.ChangeShapes Go.WideShapes Go.ChangeAt Go.RowKit
set_option linter.unusedVariables false

/-- Of the blocks that are there in w none has turned but those in S; streams as they were; no block has gone. -/
structure Keep (S : Nat → Prop) (w w' : World) : Prop where
 os : w'.os = w.os
 tape : w'.tape = w.tape
 output : w'.output = w.output
 size : w.heap.size ≤ w'.heap.size
 block : ∀ k, k < w.heap.size → ¬ S k → w'.heap[k]? = w.heap[k]?

theorem Keep.refl (S : Nat → Prop) (w : World) : Keep S w w := ⟨rfl, rfl, rfl, Nat.le_refl _, fun _ _ _ => rfl⟩
theorem Keep.trans {S : Nat → Prop} {a b c : World} (h : Keep S a b) (k : Keep S b c) : Keep S a c :=
 ⟨k.os.trans h.os, k.tape.trans h.tape, k.output.trans h.output, Nat.le_trans h.size k.size, fun i hi n => (k.block i (Nat.lt_of_lt_of_le hi h.size) n).trans (h.block i hi n)⟩
theorem Keep.mono {S T : Nat → Prop} {w w' : World} (h : Keep S w w') (hs : ∀ k, S k → T k) : Keep T w w' := ⟨h.os, h.tape, h.output, h.size, fun k hk n => h.block k hk (fun x => n (hs k x))⟩
theorem Keep.setCell {S : Nat → Prop} {a w : World} (h : Keep S a w) {p : Addr} (hp : S p.block) (u : Value) : Keep S a (w.setCell p u) :=
 h.trans ⟨rfl, rfl, rfl, by simp [World.setCell], fun k _ n => Below.heap_setCell _ _ _ _ (fun e => n (e ▸ hp))⟩
theorem Keep.alloc {S : Nat → Prop} {a w : World} (h : Keep S a w) (o : Obj) : Keep S a (w.alloc o) :=
 h.trans ⟨rfl, rfl, rfl, by simp, fun k hk _ => Below.heap_alloc _ _ _ hk⟩
theorem Keep.drew {S : Nat → Prop} {a w : World} (h : Keep S a w) : Keep S a w.drew := ⟨h.os, h.tape, h.output, h.size, h.block⟩
theorem Keep.below {S : Nat → Prop} {w w' : World} (h : Keep S w w') {B : Nat} (hB : B ≤ w.heap.size) (hs : ∀ k, S k → B ≤ k) : Below B w w' :=
 ⟨h.os, h.tape, h.output, h.size, fun k hk => h.block k (by omega) (fun x => by have := hs k x; omega)⟩
theorem Keep.of_below {w w' : World} (h : Below w.heap.size w w') (S : Nat → Prop) : Keep S w w' := ⟨h.os, h.tape, h.output, h.size, fun k hk _ => h.block k hk⟩
theorem Keep.cell {S : Nat → Prop} {w w' : World} (h : Keep S w w') {a : Addr} {v : Value} (hc : w.cell? a = some v) (hn : ¬ S a.block) : w'.cell? a = some v := by
 have hlt : a.block < w.heap.size := by
  rcases Nat.lt_or_ge a.block w.heap.size with h' | h'
  ·exact h'
  ·simp [World.cell?, Array.getElem?_eq_none h'] at hc
 rw [World.cell?_of_block (w := w) (h.block _ hlt hn)]; exact hc
theorem lt_of_cell {w : World} {a : Addr} {v : Value} (hc : w.cell? a = some v) : a.block < w.heap.size := by
 rcases Nat.lt_or_ge a.block w.heap.size with h' | h'
 ·exact h'
 ·simp [World.cell?, Array.getElem?_eq_none h'] at hc
theorem Keep.frozen {S : Nat → Prop} {w w' : World} (h : Keep S w w') {a : Addr} (hlt : a.block < w.heap.size) (hn : ¬ S a.block) : w'.frozen? a = w.frozen? a :=
 World.frozen?_of_block (w := w) (h.block _ hlt hn)

theorem keep_one (w : World) (a : Addr) (u : Value) : Keep (fun z => z = a.block) w (w.setCell a u) := Keep.setCell (S := fun z => z = a.block) (Keep.refl _ w) rfl u
/-- Block b holds the numbers zs, one a cell, and each may be written. -/
structure RowU (w : World) (b : Nat) (zs : List Int) : Prop where
 cell : ∀ i, i < zs.length → w.cell? ⟨b, i, none⟩ = some (.int .u64 (zs.getD i 0))
 free : ∀ i, w.frozen? ⟨b, i, none⟩ = false
 lt : b < w.heap.size
/-- Every number is one of 64 bits. -/
def AllU (zs : List Int) : Prop := ∀ i, 0 ≤ zs.getD i 0 ∧ zs.getD i 0 ≤ 18446744073709551615
theorem RowU.keep {S : Nat → Prop} {w w' : World} {b : Nat} {zs : List Int} (h : RowU w b zs) (k : Keep S w w') (hn : ¬ S b) : RowU w' b zs :=
 ⟨fun i hi => k.cell (h.cell i hi) hn, fun i => (k.frozen (a := ⟨b, i, none⟩) h.lt hn).trans (h.free i), Nat.lt_of_lt_of_le h.lt k.size⟩
theorem RowU.set {w : World} {b : Nat} {zs : List Int} (h : RowU w b zs) (i : Nat) (hi : i < zs.length) (x : Int) : RowU (w.setCell ⟨b, i, none⟩ (.int .u64 x)) b (zs.set i x) := by
 refine ⟨fun j hj => ?_, fun j => by simpa using h.free j, by simpa [World.setCell] using h.lt⟩
 rw [List.length_set] at hj
 by_cases e : i = j
 ·subst e
  rw [World.cell?_setCell_same _ _ _ (h.cell i hi)]
  simp [List.getD_eq_getElem?_getD, hi]
 ·rw [World.cell?_setCell_other _ _ _ _ (by simp), h.cell j hj]
  simp [List.getD_eq_getElem?_getD, e]
theorem AllU.set {zs : List Int} (h : AllU zs) (i : Nat) {x : Int} (h0 : 0 ≤ x) (h1 : x ≤ 18446744073709551615) : AllU (zs.set i x) := by
 intro j
 simp only [List.getD_eq_getElem?_getD, List.getElem?_set]
 split
 ·split
  ·simpa using ⟨h0, h1⟩
  ·simp
 ·have := h j; rwa [List.getD_eq_getElem?_getD] at this
/-- Only the blocks S, and new ones, have turned; it now lies in S'. -/
def VKeep (S S' : Nat → Prop) (w w' : World) : Prop := Keep S w w' ∧ ∀ k, S' k → S k ∨ w.heap.size ≤ k
theorem drewN_keep (S : Nat → Prop) (w : World) (d : Nat) : Keep S w (w.drewN d) := ⟨rfl, rfl, rfl, Nat.le_refl _, fun _ _ _ => rfl⟩
theorem Keep.newer {w w' : World} (k : Keep (fun j => w.heap.size ≤ j) w w') : Keep (fun _ => False) w w' :=
 ⟨k.os, k.tape, k.output, k.size, fun j hj _ => k.block j hj (by omega)⟩
theorem Keep.older {S : Nat → Prop} {w w' a : World} (k : Keep (fun _ => False) w a) (h : Keep S a w') (hS : ∀ j, S j → w.heap.size ≤ j) : Keep (fun _ => False) w w' :=
 ⟨h.os.trans k.os, h.tape.trans k.tape, h.output.trans k.output, Nat.le_trans k.size h.size, fun j hj _ => (h.block j (Nat.lt_of_lt_of_le hj k.size) (fun y => by have := hS j y; omega)).trans (k.block j hj id)⟩
/-- Where the walk is to stand still: at the operation that fills slot n. -/
theorem wp_stop (n : Nat) {P : Program} {w : World} {ops : Array Oper} {rest : List Oper} {o : Oper} {a : Act} {Q : Exit → Act → World → Prop} (hd : o.dst = some n) (h : True → wpList P ops Q (o :: rest) a w) : wpList P ops Q (o :: rest) a w := h trivial
def U64 (x : Int) : Prop := 0 ≤ x ∧ x ≤ 18446744073709551615
end Go.Proofs.Ytalkfnblnlcklaa
/- A slice that the call itself has made: what it holds, element by element; kept where other blocks turn; behind a store. No dump; no condition. -/
namespace Go.Proofs.Ytalkfnblnlcklaa
open Go.ChangeShapes Go.WideShapes Go.ChangeAt Go.RowKit
set_option linter.unusedVariables false

/-- The slice value v is the call's own (or nil) and holds the elements zs, each of one cell, by f; e is the element's type. -/
def Own {α : Type} (f : α → Value) (e : TypeId) (w : World) (v : Value) (zs : List α) : Prop := w.ownsRow 0 e 1 v zs.length (zs.map f)
section
variable {α : Type} {f : α → Value} {e : TypeId} {w w' : World} {v : Value} {zs : List α}
theorem Own.form (h : Own f e w v zs) : (v = .slice none 0 0 ∧ zs = []) ∨ ∃ g c, v = .slice (some ⟨g, 0, none⟩) zs.length c ∧ g < w.heap.size ∧ zs.length ≤ c ∧ c ≤ maxLen := by
 obtain ⟨h1, h2⟩ := id h
 rcases h2 with ⟨h3, h4⟩ | ⟨g, c, cur, hv, _, hh, hc, hm, _⟩
 ·exact .inl ⟨h3, List.length_eq_zero_iff.1 h4⟩
 ·exact .inr ⟨g, c, hv, lt_of_block hh, hc, hm⟩
theorem Own.lt (h : Own f e w v zs) {g : Nat} (hg : v.ownBlock = some g) : g < w.heap.size := (World.ownsRow.lt h g hg).2
theorem Own.keep {S : Nat → Prop} (h : Own f e w v zs) (k : Keep S w w') (hn : ∀ g, v.ownBlock = some g → ¬ S g) : Own f e w' v zs := by
 obtain ⟨h1, h2⟩ := id h
 refine ⟨h1, ?_⟩
 rcases h2 with h2 | ⟨g, c, cur, hv, hg, hh, r⟩
 ·exact .inl h2
 ·subst hv
  exact .inr ⟨g, c, cur, rfl, hg, by rw [k.block g (lt_of_block hh) (hn g rfl)]; exact hh, r⟩
theorem Own.cell {g n c : Nat} (h : Own f e w (.slice (some ⟨g, 0, none⟩) n c) zs) (i : Nat) (hi : i < zs.length) : w.cell? ⟨g, i, none⟩ = some (f zs[i]) := by
 have hn : n = zs.length := by
  obtain ⟨h1, h2⟩ := id h
  rcases h2 with ⟨h2, _⟩ | ⟨g', c', cur, hv, _⟩
  ·simp at h2
  ·simp at hv; exact hv.2.1
 subst hn
 rw [World.ownsRow.cellAt h i (by omega)]
 simp [hi]
theorem Own.free {g n c : Nat} (h : Own f e w (.slice (some ⟨g, 0, none⟩) n c) zs) (i : Nat) : w.frozen? ⟨g, i, none⟩ = false := by
 have hn : n = zs.length := by
  obtain ⟨h1, h2⟩ := id h
  rcases h2 with ⟨h2, _⟩ | ⟨g', c', cur, hv, _⟩
  ·simp at h2
  ·simp at hv; exact hv.2.1
 subst hn
 exact World.ownsRow.frozenAt h i
theorem Own.set {g n c : Nat} (h : Own f e w (.slice (some ⟨g, 0, none⟩) n c) zs) (i : Nat) (x : α) : Own f e (w.setCell ⟨g, i, none⟩ (f x)) (.slice (some ⟨g, 0, none⟩) n c) (zs.set i x) := by
 have hn : n = zs.length := by
  obtain ⟨h1, h2⟩ := id h
  rcases h2 with ⟨h2, _⟩ | ⟨g', c', cur, hv, _⟩
  ·simp at h2
  ·simp at hv; exact hv.2.1
 subst hn
 have := World.ownsRow.stored h i (f x)
 unfold Own
 rw [List.length_set, List.map_set]
 exact this.1
theorem Own.nil : Own f e w (.slice none 0 0) ([] : List α) := World.ownsRow_nil _ _ _ _
theorem Own.of_base {base : Nat} {n : Nat} {xs : List Value} (h : w.ownsRow base e 1 v n xs) (hn : n = zs.length) (hx : xs = zs.map f) : Own f e w v zs := by
 subst hn; subst hx
 obtain ⟨h1, h2⟩ := h
 refine ⟨h1, ?_⟩
 rcases h2 with h2 | ⟨g, c, cur, hv, _, r⟩
 ·exact .inl h2
 ·exact .inr ⟨g, c, cur, hv, Nat.zero_le _, r⟩
/-- A slice of the call's own that is not nil, written out. -/
theorem own_some {base n : Nat} {xs : List Value} (h : w.ownsRow base e 1 v n xs) (hne : v ≠ .slice none 0 0) : ∃ g c, v = .slice (some ⟨g, 0, none⟩) n c ∧ base ≤ g ∧ g < w.heap.size := by
 obtain ⟨_, h2⟩ := h
 rcases h2 with ⟨h2, _⟩ | ⟨g, c, cur, hv, hb, hh, _⟩
 ·exact absurd h2 hne
 ·exact ⟨g, c, hv, hb, lt_of_block hh⟩
end
/-- Behind a law that ends in 'grownBy': what is written is new. -/
theorem keep_new {w w1 w' : World} {row : Option Nat} (b : Below w.heap.size w w1) (hg : w1.grownBy w' row) (hr : ∀ k, row = some k → w.heap.size ≤ k) : Below w.heap.size w w' := b.grown hg b.size hr
theorem Keep.grown {S : Nat → Prop} {w w1 w' : World} {row : Option Nat} (k : Keep S w w1) (hg : w1.grownBy w' row) (hr : ∀ j, row = some j → w.heap.size ≤ j) : Keep S w w' :=
 ⟨hg.os.trans k.os, hg.tape.trans k.tape, hg.output.trans k.output, Nat.le_trans k.size hg.size, fun j hj hn => (hg.block j (Nat.lt_of_lt_of_le hj k.size) (fun e => by have := hr j e.symm; omega)).trans (k.block j hj hn)⟩
end Go.Proofs.Ytalkfnblnlcklaa
/- A slice that the call itself has made, of elements of several cells each: what it holds, element by element; kept where other blocks turn; behind a store. No dump; no condition. -/
namespace Go.Proofs.Ytalkfnblnlcklaa
open Go.ChangeShapes Go.WideShapes Go.ChangeAt Go.RowKit
set_option linter.unusedVariables false

/-- The slice value v is the call's own (or nil) and holds the elements zs, each of m cells, by f. -/
def OwnM {α : Type} (m : Nat) (f : α → List Value) (e : TypeId) (w : World) (v : Value) (zs : List α) : Prop := w.ownsRow 0 e m v zs.length (zs.flatMap f)
section
variable {α : Type} {m : Nat} {f : α → List Value} {e : TypeId} {w w' : World} {v : Value} {zs : List α}
theorem flat_len (hf : ∀ x, (f x).length = m) (zs : List α) : (zs.flatMap f).length = zs.length * m := by
 induction zs with
 | nil => simp
 | cons z zs ih => simp only [List.flatMap_cons, List.length_append, hf, ih, List.length_cons, Nat.succ_mul]; omega
theorem flat_get (hf : ∀ x, (f x).length = m) (zs : List α) (i j : Nat) (hi : i < zs.length) (hj : j < m) : (zs.flatMap f)[i * m + j]? = (f zs[i])[j]? := by
  induction zs generalizing i with
  | nil => simp at hi
  | cons z zs ih =>
    rw [List.flatMap_cons]
    cases i with
    | zero => rw [Nat.zero_mul, Nat.zero_add, List.getElem?_append_left (by rw [hf]; exact hj)]; rfl
    | succ i =>
      have e : (i + 1) * m + j = (f z).length + (i * m + j) := by rw [hf, Nat.succ_mul]; omega
      rw [e, List.getElem?_append_right (by omega), Nat.add_sub_cancel_left, ih i (by simpa using hi)]
      rfl
theorem flat_set (hf : ∀ x, (f x).length = m) (zs : List α) (i j : Nat) (hi : i < zs.length) (hj : j < m) (u : Value) (x : α) (hx : f x = (f zs[i]).set j u) : (zs.flatMap f).set (i * m + j) u = (zs.set i x).flatMap f := by
  induction zs generalizing i with
  | nil => simp at hi
  | cons z zs ih =>
    cases i with
    | zero =>
      rw [Nat.zero_mul, Nat.zero_add, List.set_cons_zero, List.flatMap_cons, List.flatMap_cons, hx, List.set_append_left _ _ (by rw [hf]; exact hj)]
      rfl
    | succ i =>
      have e : (i + 1) * m + j = (f z).length + (i * m + j) := by rw [hf, Nat.succ_mul]; omega
      rw [e, List.flatMap_cons, List.set_append_right _ _ (by omega), Nat.add_sub_cancel_left, List.set_cons_succ, List.flatMap_cons, ih i (by simpa using hi) hx]
theorem OwnM.form (h : OwnM m f e w v zs) : (v = .slice none 0 0 ∧ zs = []) ∨ ∃ g c, v = .slice (some ⟨g, 0, none⟩) zs.length c ∧ g < w.heap.size ∧ zs.length ≤ c ∧ c ≤ maxLen := by
 obtain ⟨h1, h2⟩ := id h
 rcases h2 with ⟨h3, h4⟩ | ⟨g, c, cur, hv, _, hh, hc, hm, _⟩
 ·exact .inl ⟨h3, List.length_eq_zero_iff.1 h4⟩
 ·exact .inr ⟨g, c, hv, lt_of_block hh, hc, hm⟩
theorem OwnM.lt (h : OwnM m f e w v zs) {g : Nat} (hg : v.ownBlock = some g) : g < w.heap.size := (World.ownsRow.lt h g hg).2
theorem OwnM.keep {S : Nat → Prop} (h : OwnM m f e w v zs) (k : Keep S w w') (hn : ∀ g, v.ownBlock = some g → ¬ S g) : OwnM m f e w' v zs := by
 obtain ⟨h1, h2⟩ := id h
 refine ⟨h1, ?_⟩
 rcases h2 with h2 | ⟨g, c, cur, hv, hg, hh, r⟩
 ·exact .inl h2
 ·subst hv
  exact .inr ⟨g, c, cur, rfl, hg, by rw [k.block g (lt_of_block hh) (hn g rfl)]; exact hh, r⟩
theorem OwnM.n {g n c : Nat} (h : OwnM m f e w (.slice (some ⟨g, 0, none⟩) n c) zs) : n = zs.length := by
 obtain ⟨h1, h2⟩ := id h
 rcases h2 with ⟨h2, _⟩ | ⟨g', c', cur, hv, _⟩
 ·simp at h2
 ·simp at hv; exact hv.2.1
theorem OwnM.cell {g n c : Nat} (hf : ∀ x, (f x).length = m) (h : OwnM m f e w (.slice (some ⟨g, 0, none⟩) n c) zs) (i j : Nat) (hi : i < zs.length) (hj : j < m) : w.cell? ⟨g, i * m + j, none⟩ = (f zs[i])[j]? := by
 obtain rfl := h.n
 rw [World.ownsRow.cellAt h (i * m + j) (by have := Nat.mul_le_mul_right m (show i + 1 ≤ zs.length from hi); rw [Nat.succ_mul] at this; omega)]
 exact flat_get hf zs i j hi hj
theorem OwnM.free {g n c : Nat} (h : OwnM m f e w (.slice (some ⟨g, 0, none⟩) n c) zs) (i : Nat) : w.frozen? ⟨g, i, none⟩ = false := by
 obtain rfl := h.n
 exact World.ownsRow.frozenAt h i
theorem OwnM.set {g n c : Nat} (hf : ∀ x, (f x).length = m) (h : OwnM m f e w (.slice (some ⟨g, 0, none⟩) n c) zs) (i j : Nat) (hi : i < zs.length) (hj : j < m) (u : Value) (x : α) (hx : f x = (f zs[i]).set j u) :
  OwnM m f e (w.setCell ⟨g, i * m + j, none⟩ u) (.slice (some ⟨g, 0, none⟩) n c) (zs.set i x) := by
 obtain rfl := h.n
 have := (World.ownsRow.stored h (i * m + j) u).1
 rw [flat_set hf zs i j hi hj u x hx] at this
 unfold OwnM
 rw [List.length_set]
 exact this
theorem OwnM.nil : OwnM m f e w (.slice none 0 0) ([] : List α) := World.ownsRow_nil _ _ _ _
theorem OwnM.of_base {base : Nat} {n : Nat} {xs : List Value} (h : w.ownsRow base e m v n xs) (hn : n = zs.length) (hx : xs = zs.flatMap f) : OwnM m f e w v zs := by
 subst hn; subst hx
 obtain ⟨h1, h2⟩ := h
 refine ⟨h1, ?_⟩
 rcases h2 with h2 | ⟨g, c, cur, hv, _, r⟩
 ·exact .inl h2
 ·exact .inr ⟨g, c, cur, hv, Nat.zero_le _, r⟩
end
end Go.Proofs.Ytalkfnblnlcklaa
/- Contract of (*sync.Once).Do in one goroutine, for the closure that the package hands to it: not yet done and its lock free: the closure runs once, the Once is done, the lock is free again; done already: nothing. -/
namespace Go.Proofs.Ytalkfnblnlcklaa
open Go.ChangeShapes Go.WideShapes Go.ChangeAt Go.RowKit
set_option linter.unusedVariables false

theorem race_disable (w : World) : (callFunc 78 #[]).run Try.prog w = .ok (.value (.tuple #[])) w := run_call_mark0 Try.func78 (by kernel_rfl) (by kernel_rfl) (by kernel_rfl) .disable (by kernel_rfl) w
theorem race_enable (w : World) : (callFunc 80 #[]).run Try.prog w = .ok (.value (.tuple #[])) w := run_call_mark0 Try.func80 (by kernel_rfl) (by kernel_rfl) (by kernel_rfl) .enable (by kernel_rfl) w
theorem race_acquire (a : Addr) (w : World) : (callFunc 81 #[.pointer (some a)]).run Try.prog w = .ok (.value (.tuple #[])) w := run_call_marked Try.func81 (by kernel_rfl) (by kernel_rfl) (by kernel_rfl) .acquire (by kernel_rfl) a w
theorem race_merge (a : Addr) (w : World) : (callFunc 83 #[.pointer (some a)]).run Try.prog w = .ok (.value (.tuple #[])) w := run_call_marked Try.func83 (by kernel_rfl) (by kernel_rfl) (by kernel_rfl) .releaseMerge (by kernel_rfl) a w
set_option maxRecDepth 100000 in
theorem bool_store (b o : Nat) (x : Value) (u : FrameMode) (w : World) (hc : w.cell? ⟨b, o, none⟩ = some x) (hz : w.frozen? ⟨b, o, none⟩ = false) :
  CallsD Try.prog 73 #[.pointer (some ⟨b, o, none⟩), .bool true] u w fun e u' w' => u' = u ∧ (e = .returned (.tuple #[]) ∧ w' = w.drew.setCell ⟨b, o, none⟩ (.int .u32 1)) := by
 have hc' : w.drew.cell? ⟨b, o, none⟩ = some x := hc
 have hz' : w.drew.frozen? ⟨b, o, none⟩ = false := hz
 have hst := run_call_store (P := Try.prog) Try.func76 (by kernel_rfl) (by kernel_rfl) (by kernel_rfl) (by kernel_rfl) (k := .u32) (y := 1) hc' hz'
 go_enter_d Try.func73, Try.ntmps73
 go_wp2
 go_region_calls
 all_goals (go_end0; exact ⟨rfl, rfl⟩)
set_option maxRecDepth 100000 in
theorem mu_unlock (b o : Nat) (u : FrameMode) (w : World) (hc : w.cell? ⟨b, o, none⟩ = some (.int .i32 1)) (hz : w.frozen? ⟨b, o, none⟩ = false) :
  CallsD Try.prog 72 #[.pointer (some ⟨b, o, none⟩)] u w fun e u' w' => u' = u ∧ (e = .returned (.tuple #[]) ∧ w' = w.setCell ⟨b, o, none⟩ (.int .i32 0)) := by
 have hd := race_disable
 have he := race_enable
 have hr := race_merge
 have hadd := run_call_add (P := Try.prog) Try.func84 (by kernel_rfl) (by kernel_rfl) (by kernel_rfl) .i32 (by kernel_rfl) (y := -1) (s := 0) hc hz (by simp [go_sem]; rfl)
 have hcv := run_convert_to_unsafe (P := Try.prog) (src := 139) (dst := 143) Try.underlying139 Try.underlying143 (by kernel_rfl) hc
 go_enter_d Try.func72, Try.ntmps72
 go_wp2
 go_end0
 go_wp2
 go_end0
 exact ⟨rfl, rfl⟩
set_option maxRecDepth 100000 in
theorem mu_lock (b o : Nat) (w : World) (hc : w.cell? ⟨b, o, none⟩ = some (.int .i32 0)) (hz : w.frozen? ⟨b, o, none⟩ = false) :
  Calls Try.prog 71 #[.pointer (some ⟨b, o, none⟩)] w fun e w' => e = .returned (.tuple #[]) ∧ w' = w.setCell ⟨b, o, none⟩ (.int .i32 1) := by
 have hd := race_disable
 have he := race_enable
 have ha := race_acquire
 have hcas := run_call_cas_hit (P := Try.prog) Try.func79 (by kernel_rfl) (by kernel_rfl) (by kernel_rfl) .i32 (by kernel_rfl) (y := 1) hc hz
 have hc' : (w.setCell ⟨b, o, none⟩ (.int .i32 1)).cell? ⟨b, o, none⟩ = some (.int .i32 1) := World.cell?_setCell_same w _ _ hc
 have hcv := run_convert_to_unsafe (P := Try.prog) (src := 139) (dst := 143) Try.underlying139 Try.underlying143 (by kernel_rfl) hc'
 go_enter Try.func71, Try.ntmps71
 go_wp2
 first | go_end0 | (simp only [Exit.inBlock, Exit.then]; refine bodyPost_ret (results_none rfl _ _ _) rfl ?_) | refine bodyPost_ret (results_none rfl _ _ _) rfl ?_
 go_wp2
 go_end0
 exact ⟨rfl, rfl⟩
end Go.Proofs.Ytalkfnblnlcklaa
/- Contract of (*sync.Once).Do in one goroutine, for the closure that the package hands to it: not yet done and its lock free: the closure runs once, the Once is done, the lock is free again; done already: nothing. -/
namespace Go.Proofs.Ytalkfnblnlcklaa
open Go.ChangeShapes Go.WideShapes Go.ChangeAt Go.RowKit
set_option linter.unusedVariables false

/-- What the closure leaves: R of its world, the Once's three cells as they were. -/
def Ran (R : World → Prop) (b o : Nat) (e : Ending) (w : World) : Prop :=
 e = .returned (.tuple #[]) ∧ R w ∧ w.cell? ⟨b, o, none⟩ = some (.int .u32 0) ∧ w.cell? ⟨b, o + 1, none⟩ = some (.int .i32 1) ∧ w.frozen? ⟨b, o, none⟩ = false ∧ w.frozen? ⟨b, o + 1, none⟩ = false
def OnceDid (R : World → Prop) (b o : Nat) (e : Ending) (w' : World) : Prop :=
 e = .returned (.tuple #[]) ∧ ∃ w2, R w2 ∧ w' = (w2.drew.setCell ⟨b, o, none⟩ (.int .u32 1)).setCell ⟨b, o + 1, none⟩ (.int .i32 0)
set_option maxRecDepth 100000 in
set_option maxHeartbeats 1600000 in
theorem once_slowM (b o : Nat) (caps : Array Value) (R : World → Prop) (w : World)
  (h0 : w.cell? ⟨b, o, none⟩ = some (.int .u32 0)) (h1 : w.cell? ⟨b, o + 1, none⟩ = some (.int .i32 0)) (f1 : w.frozen? ⟨b, o + 1, none⟩ = false)
  (hF : Calls Try.prog 65 caps (w.setCell ⟨b, o + 1, none⟩ (.int .i32 1)) (Ran R b o)) :
  Calls Try.prog 69 #[.pointer (some ⟨b, o, none⟩), .func (.func 65) #[] caps] w (OnceDid R b o) := by
 -- ntmps65
 have hl := run_call_load (P := Try.prog) Try.func70 (by kernel_rfl) (by kernel_rfl) (by kernel_rfl) .u32 (by kernel_rfl) (w := w.setCell ⟨b, o + 1, none⟩ (.int .i32 1)) (a := ⟨b, o, none⟩) (x := 0) ((World.cell?_setCell_other _ ⟨b, o + 1, none⟩ ⟨b, o, none⟩ _ (by simp)).trans h0)
 have hnot : ∀ (x : Bool) (w : World), (Op.unary .not (.bool x)).run Try.prog w = .ok (.bool (!x)) w := fun _ _ => rfl
 go_enter_defers Try.func69, Try.ntmps69
 go_wp2_with (first | (go_at_call 71; refine (mu_lock b (o + 1) _ h1 f1).mono ?_; rintro e w' ⟨rfl, rfl⟩) | (go_at_call 68; go_in))
 refine hF.mono ?_
 rintro e w2 ⟨rfl, hR, d0, d1, e0, e1⟩
 go_wp2
 refine leaves_cons (f := 73) (args := #[.pointer (some ⟨b, o, none⟩), .bool true]) (by simp) (by simp [go_sem]) ?_
 refine (bool_store b o (.int .u32 0) .returning w2 d0 e0).mono ?_
 rintro e u' w'' ⟨rfl, rfl, rfl⟩
 refine leaves_cons (f := 72) (args := #[.pointer (some ⟨b, o + 1, none⟩)]) (by simp [settle]) (by simp [go_sem]) ?_
 refine (mu_unlock b (o + 1) _ _ ?_ ?_).mono ?_
 ·exact (World.cell?_setCell_other _ ⟨b, o, none⟩ ⟨b, o + 1, none⟩ _ (by simp)).trans d1
 ·simpa using e1
 rintro e u' w'' ⟨rfl, rfl, rfl⟩
 simp [Leaves, settle, results, Try.results69]
 exact ⟨rfl, w2, hR, rfl⟩
theorem once_firstM (b o : Nat) (caps : Array Value) (R : World → Prop) (w : World)
  (h0 : w.cell? ⟨b, o, none⟩ = some (.int .u32 0)) (h1 : w.cell? ⟨b, o + 1, none⟩ = some (.int .i32 0)) (f1 : w.frozen? ⟨b, o + 1, none⟩ = false)
  (hF : Calls Try.prog 65 caps (w.setCell ⟨b, o + 1, none⟩ (.int .i32 1)) (Ran R b o)) :
  Calls Try.prog 64 #[.pointer (some ⟨b, o, none⟩), .func (.func 65) #[] caps] w (OnceDid R b o) := by
 -- ntmps65
 have hl := run_call_load (P := Try.prog) Try.func70 (by kernel_rfl) (by kernel_rfl) (by kernel_rfl) .u32 (by kernel_rfl) h0
 have hnot : ∀ (x : Bool) (w : World), (Op.unary .not (.bool x)).run Try.prog w = .ok (.bool (!x)) w := fun _ _ => rfl
 have hS := once_slowM b o caps R w h0 h1 f1 hF
 clear hF
 go_enter Try.func64, Try.ntmps64
 go_wp2_with (first | (go_at_call 69; refine hS.mono ?_; rintro e w' ⟨rfl, hD⟩) | (go_at_call 68; go_in))
 go_end0
 exact ⟨rfl, hD⟩
theorem once_done (b o : Nat) (fv : Value) (w : World) (h0 : w.cell? ⟨b, o, none⟩ = some (.int .u32 1)) :
  Calls Try.prog 64 #[.pointer (some ⟨b, o, none⟩), fv] w fun e w' => e = .returned (.tuple #[]) ∧ w = w' := by
 have hl := run_call_load (P := Try.prog) Try.func70 (by kernel_rfl) (by kernel_rfl) (by kernel_rfl) .u32 (by kernel_rfl) h0
 have hnot : ∀ (x : Bool) (w : World), (Op.unary .not (.bool x)).run Try.prog w = .ok (.bool (!x)) w := fun _ _ => rfl
 go_enter Try.func64, Try.ntmps64
 go_wp2_with (go_at_call 68; go_in)
 go_end0
 exact ⟨rfl, rfl⟩
end Go.Proofs.Ytalkfnblnlcklaa
/- A slice of integers that came in: what its cells hold; no condition beyond the argument's own reading. -/
namespace Go.Proofs.Ytalkfnblnlcklaa
open Go.ChangeShapes Go.WideShapes Go.ChangeAt Go.RowKit
set_option linter.unusedVariables false

/-- The slice at A of n elements reads as the numbers zs. -/
structure IsRow (k : IntKind) (w : World) (A : Option Addr) (n c : Nat) (zs : List Int) : Prop where
 len : zs.length = n
 cap : n ≤ c
 max : c ≤ 9223372036854775807
 cell : 0 < n → ∃ b off, A = some ⟨b, off, none⟩ ∧ b < w.heap.size ∧ ∀ j, j < n → w.cell? ⟨b, off + j, none⟩ = some (.int k (zs.getD j 0))
 wf : ∀ x ∈ zs, (Lit.int k x).wf = true
theorem is_row {H : Type} {enc : TypeId × Value → H} {P : Program} {w : World} {spare : Nat → Bool} {held : Bool} {t e : TypeId} {k : IntKind} {A : Option Addr} {n c : Nat} {d : DataW H} {ps : List MemPlace}
  (ht : P.underlying t = some (.slice e)) (he : P.underlying e = some (.int k)) (hc : P.cellsOf e = 1) (h : DataW.Trod enc P w 0 spare held t (.slice A n c) d ps) : ∃ zs, IsRow k w A n c zs := by
 obtain ⟨fuel, hf⟩ := h
 rcases open_ints ht he hc hf with ⟨h0, _⟩ | ⟨a, len, cap, zs, h0, _, hl, hm, hz, _, hcell, hwf⟩
 ·simp [Value.cells] at h0
  obtain ⟨rfl, rfl, rfl⟩ := h0
  exact ⟨[], rfl, Nat.le_refl _, by omega, fun h => by omega, by simp⟩
 ·simp [Value.cells] at h0
  obtain ⟨rfl, rfl, rfl⟩ := h0
  have hnl : n ≤ zs.length := by rw [hz]; split <;> omega
  refine ⟨zs.take n, by simp; omega, hl, by unfold maxLen at hm; omega, fun hp => ?_, fun x hx => hwf x (List.mem_of_mem_take hx)⟩
  obtain ⟨b, off, rfl, hb⟩ := ints_at hcell (by omega)
  refine ⟨b, off, rfl, lt_of_cell (hb 0 (by omega)), fun j hj => ?_⟩
  rw [hb j (by omega)]
  simp [List.getD_eq_getElem?_getD, hj]
/-- Every element fits 64 bits without a sign. -/
theorem IsRow.u64 {w : World} {A : Option Addr} {n c : Nat} {zs : List Int} (h : IsRow .u64 w A n c zs) (j : Nat) : 0 ≤ zs.getD j 0 ∧ zs.getD j 0 ≤ 18446744073709551615 := by
 have := range_u64 h.wf j
 rwa [List.getD_eq_getElem?_getD]

end Go.Proofs.Ytalkfnblnlcklaa
