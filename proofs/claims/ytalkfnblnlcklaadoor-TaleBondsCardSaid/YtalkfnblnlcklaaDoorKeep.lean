/- Plain facts on worlds, no dump: 'Keep S' (of the blocks that are there only those in S may have turned), a block of 64-bit words; no condition. -/
import Derived.Test.YtalkfnblnlcklaaDoorRows
import Derived.WalkKit
import Derived.ProofKit
import Derived.OpenShut
import Derived.WalkLawsBesides
import Derived.Below
import Derived.Lib.Hide
import Derived.Deep.Draws
namespace Go.Proofs.YtalkfnblnlcklaaDoor
open Go.ChangeShapes Go.WideShapes Go.ChangeAt Go.RowKit
set_option linter.unusedVariables false

/-- Of the blocks that are there in w none has turned but those in S; streams as they were; no block has gone. -/
structure Keep (S : Nat → Prop) (w w' : World) : Prop where
  os : w'.os = w.os
  tape : w'.tape = w.tape
  output : w'.output = w.output
  size : w.heap.size ≤ w'.heap.size
  block : ∀ k, k < w.heap.size → ¬ S k → w'.heap[k]? = w.heap[k]?

theorem Keep.refl (S : Nat → Prop) (w : World) : Keep S w w := ⟨rfl, rfl, rfl, Nat.le_refl _, fun _ _ _ => rfl⟩
theorem Keep.trans {S : Nat → Prop} {a b c : World} (h : Keep S a b) (k : Keep S b c) : Keep S a c :=
  ⟨k.os.trans h.os, k.tape.trans h.tape, k.output.trans h.output, Nat.le_trans h.size k.size, fun i hi n => (k.block i (Nat.lt_of_lt_of_le hi h.size) n).trans (h.block i hi n)⟩
theorem Keep.mono {S T : Nat → Prop} {w w' : World} (h : Keep S w w') (hs : ∀ k, S k → T k) : Keep T w w' := ⟨h.os, h.tape, h.output, h.size, fun k hk n => h.block k hk (fun x => n (hs k x))⟩
theorem Keep.setCell {S : Nat → Prop} {a w : World} (h : Keep S a w) {p : Addr} (hp : S p.block) (u : Value) : Keep S a (w.setCell p u) :=
  h.trans ⟨rfl, rfl, rfl, by simp [World.setCell], fun k _ n => Below.heap_setCell _ _ _ _ (fun e => n (e ▸ hp))⟩
theorem Keep.alloc {S : Nat → Prop} {a w : World} (h : Keep S a w) (o : Obj) : Keep S a (w.alloc o) :=
  h.trans ⟨rfl, rfl, rfl, by simp, fun k hk _ => Below.heap_alloc _ _ _ hk⟩
theorem Keep.drew {S : Nat → Prop} {a w : World} (h : Keep S a w) : Keep S a w.drew := ⟨h.os, h.tape, h.output, h.size, h.block⟩
theorem Keep.below {S : Nat → Prop} {w w' : World} (h : Keep S w w') {B : Nat} (hB : B ≤ w.heap.size) (hs : ∀ k, S k → B ≤ k) : Below B w w' :=
  ⟨h.os, h.tape, h.output, h.size, fun k hk => h.block k (by omega) (fun x => by have := hs k x; omega)⟩
theorem Keep.of_below {w w' : World} (h : Below w.heap.size w w') (S : Nat → Prop) : Keep S w w' := ⟨h.os, h.tape, h.output, h.size, fun k hk _ => h.block k hk⟩
theorem Keep.cell {S : Nat → Prop} {w w' : World} (h : Keep S w w') {a : Addr} {v : Value} (hc : w.cell? a = some v) (hn : ¬ S a.block) : w'.cell? a = some v := by
  have hlt : a.block < w.heap.size := by
    rcases Nat.lt_or_ge a.block w.heap.size with h' | h'
    · exact h'
    · simp [World.cell?, Array.getElem?_eq_none h'] at hc
  rw [World.cell?_of_block (w := w) (h.block _ hlt hn)]; exact hc
theorem lt_of_cell {w : World} {a : Addr} {v : Value} (hc : w.cell? a = some v) : a.block < w.heap.size := by
  rcases Nat.lt_or_ge a.block w.heap.size with h' | h'
  · exact h'
  · simp [World.cell?, Array.getElem?_eq_none h'] at hc
theorem Keep.frozen {S : Nat → Prop} {w w' : World} (h : Keep S w w') {a : Addr} (hlt : a.block < w.heap.size) (hn : ¬ S a.block) : w'.frozen? a = w.frozen? a :=
  World.frozen?_of_block (w := w) (h.block _ hlt hn)

theorem keep_one (w : World) (a : Addr) (u : Value) : Keep (fun z => z = a.block) w (w.setCell a u) := Keep.setCell (S := fun z => z = a.block) (Keep.refl _ w) rfl u
/-- Block b holds the numbers zs, one a cell, and each may be written. -/
structure RowU (w : World) (b : Nat) (zs : List Int) : Prop where
  cell : ∀ i, i < zs.length → w.cell? ⟨b, i, none⟩ = some (.int .u64 (zs.getD i 0))
  free : ∀ i, w.frozen? ⟨b, i, none⟩ = false
  lt : b < w.heap.size
/-- Every number is one of 64 bits. -/
def AllU (zs : List Int) : Prop := ∀ i, 0 ≤ zs.getD i 0 ∧ zs.getD i 0 ≤ 18446744073709551615
theorem RowU.keep {S : Nat → Prop} {w w' : World} {b : Nat} {zs : List Int} (h : RowU w b zs) (k : Keep S w w') (hn : ¬ S b) : RowU w' b zs :=
  ⟨fun i hi => k.cell (h.cell i hi) hn, fun i => (k.frozen (a := ⟨b, i, none⟩) h.lt hn).trans (h.free i), Nat.lt_of_lt_of_le h.lt k.size⟩
theorem RowU.set {w : World} {b : Nat} {zs : List Int} (h : RowU w b zs) (i : Nat) (hi : i < zs.length) (x : Int) : RowU (w.setCell ⟨b, i, none⟩ (.int .u64 x)) b (zs.set i x) := by
  refine ⟨fun j hj => ?_, fun j => by simpa using h.free j, by simpa [World.setCell] using h.lt⟩
  rw [List.length_set] at hj
  by_cases e : i = j
  · subst e
    rw [World.cell?_setCell_same _ _ _ (h.cell i hi)]
    simp [List.getD_eq_getElem?_getD, hi]
  · rw [World.cell?_setCell_other _ _ _ _ (by simp), h.cell j hj]
    simp [List.getD_eq_getElem?_getD, e]
theorem AllU.set {zs : List Int} (h : AllU zs) (i : Nat) {x : Int} (h0 : 0 ≤ x) (h1 : x ≤ 18446744073709551615) : AllU (zs.set i x) := by
  intro j
  simp only [List.getD_eq_getElem?_getD, List.getElem?_set]
  split
  · split
    · simpa using ⟨h0, h1⟩
    · simp
  · have := h j; rwa [List.getD_eq_getElem?_getD] at this
/-- Only the blocks S, and new ones, have turned; it now lies in S'. -/
def VKeep (S S' : Nat → Prop) (w w' : World) : Prop := Keep S w w' ∧ ∀ k, S' k → S k ∨ w.heap.size ≤ k
theorem drewN_keep (S : Nat → Prop) (w : World) (d : Nat) : Keep S w (w.drewN d) := ⟨rfl, rfl, rfl, Nat.le_refl _, fun _ _ _ => rfl⟩
theorem Keep.newer {w w' : World} (k : Keep (fun j => w.heap.size ≤ j) w w') : Keep (fun _ => False) w w' :=
  ⟨k.os, k.tape, k.output, k.size, fun j hj _ => k.block j hj (by omega)⟩
theorem Keep.older {S : Nat → Prop} {w w' a : World} (k : Keep (fun _ => False) w a) (h : Keep S a w') (hS : ∀ j, S j → w.heap.size ≤ j) : Keep (fun _ => False) w w' :=
  ⟨h.os.trans k.os, h.tape.trans k.tape, h.output.trans k.output, Nat.le_trans k.size h.size, fun j hj _ => (h.block j (Nat.lt_of_lt_of_le hj k.size) (fun y => by have := hS j y; omega)).trans (k.block j hj id)⟩
/-- Where the walk is to stand still: at the operation that fills slot n. -/
theorem wp_stop (n : Nat) {P : Program} {w : World} {ops : Array Oper} {rest : List Oper} {o : Oper} {a : Act} {Q : Exit → Act → World → Prop} (hd : o.dst = some n) (h : True → wpList P ops Q (o :: rest) a w) : wpList P ops Q (o :: rest) a w := h trivial
def U64 (x : Int) : Prop := 0 ≤ x ∧ x ≤ 18446744073709551615
end Go.Proofs.YtalkfnblnlcklaaDoor
