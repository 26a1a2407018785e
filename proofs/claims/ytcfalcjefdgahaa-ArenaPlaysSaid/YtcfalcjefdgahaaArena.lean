/- Contracts of package arena, but for Words and Copy: what New, access, Load, Store, CAS, Add, Count and Len return and what becomes of the Arena; conditions: the Arena is one that New made, each number fits its kind. -/
import Derived.Test.YtcfalcjefdgahaaRows
import Derived.WalkKit
import Derived.ProofKit
import Derived.OpenShut
import Derived.WalkLawsBesides
import Derived.Below
import Derived.Laws.LoneSync
import Derived.Lib.Hide
namespace Go.Proofs.Ytcfalcjefdgahaa
open Go.ChangeShapes Go.WideShapes Go.ChangeAt Go.RowKit
set_option linter.unusedVariables false

/-- Of the blocks that are there in w none has turned but those in S; streams as they were; no block has gone. -/
structure Keep (S : Nat → Prop) (w w' : World) : Prop where
  os : w'.os = w.os
  tape : w'.tape = w.tape
  output : w'.output = w.output
  size : w.heap.size ≤ w'.heap.size
  block : ∀ k, k < w.heap.size → ¬ S k → w'.heap[k]? = w.heap[k]?

theorem Keep.refl (S : Nat → Prop) (w : World) : Keep S w w := ⟨rfl, rfl, rfl, Nat.le_refl _, fun _ _ _ => rfl⟩
theorem Keep.trans {S : Nat → Prop} {a b c : World} (h : Keep S a b) (k : Keep S b c) : Keep S a c :=
  ⟨k.os.trans h.os, k.tape.trans h.tape, k.output.trans h.output, Nat.le_trans h.size k.size, fun i hi n => (k.block i (Nat.lt_of_lt_of_le hi h.size) n).trans (h.block i hi n)⟩
theorem Keep.mono {S T : Nat → Prop} {w w' : World} (h : Keep S w w') (hs : ∀ k, S k → T k) : Keep T w w' := ⟨h.os, h.tape, h.output, h.size, fun k hk n => h.block k hk (fun x => n (hs k x))⟩
theorem Keep.setCell {S : Nat → Prop} {a w : World} (h : Keep S a w) {p : Addr} (hp : S p.block) (u : Value) : Keep S a (w.setCell p u) :=
  h.trans ⟨rfl, rfl, rfl, by simp [World.setCell], fun k _ n => Below.heap_setCell _ _ _ _ (fun e => n (e ▸ hp))⟩
theorem Keep.alloc {S : Nat → Prop} {a w : World} (h : Keep S a w) (o : Obj) : Keep S a (w.alloc o) :=
  h.trans ⟨rfl, rfl, rfl, by simp, fun k hk _ => Below.heap_alloc _ _ _ hk⟩
theorem Keep.drew {S : Nat → Prop} {a w : World} (h : Keep S a w) : Keep S a w.drew := ⟨h.os, h.tape, h.output, h.size, h.block⟩
theorem Keep.below {S : Nat → Prop} {w w' : World} (h : Keep S w w') {B : Nat} (hB : B ≤ w.heap.size) (hs : ∀ k, S k → B ≤ k) : Below B w w' :=
  ⟨h.os, h.tape, h.output, h.size, fun k hk => h.block k (by omega) (fun x => by have := hs k x; omega)⟩
theorem Keep.of_below {w w' : World} (h : Below w.heap.size w w') (S : Nat → Prop) : Keep S w w' := ⟨h.os, h.tape, h.output, h.size, fun k hk _ => h.block k hk⟩
theorem Keep.cell {S : Nat → Prop} {w w' : World} (h : Keep S w w') {a : Addr} {v : Value} (hc : w.cell? a = some v) (hn : ¬ S a.block) : w'.cell? a = some v := by
  have hlt : a.block < w.heap.size := by
    rcases Nat.lt_or_ge a.block w.heap.size with h' | h'
    · exact h'
    · simp [World.cell?, Array.getElem?_eq_none h'] at hc
  rw [World.cell?_of_block (w := w) (h.block _ hlt hn)]; exact hc
theorem lt_of_cell {w : World} {a : Addr} {v : Value} (hc : w.cell? a = some v) : a.block < w.heap.size := by
  rcases Nat.lt_or_ge a.block w.heap.size with h' | h'
  · exact h'
  · simp [World.cell?, Array.getElem?_eq_none h'] at hc
theorem Keep.frozen {S : Nat → Prop} {w w' : World} (h : Keep S w w') {a : Addr} (hlt : a.block < w.heap.size) (hn : ¬ S a.block) : w'.frozen? a = w.frozen? a :=
  World.frozen?_of_block (w := w) (h.block _ hlt hn)

/-- Block b holds the numbers zs, one a cell, and each may be written. -/
structure RowU (w : World) (b : Nat) (zs : List Int) : Prop where
  cell : ∀ i, i < zs.length → w.cell? ⟨b, i, none⟩ = some (.int .u64 (zs.getD i 0))
  free : ∀ i, w.frozen? ⟨b, i, none⟩ = false
  lt : b < w.heap.size
/-- Every number is one of 64 bits. -/
def AllU (zs : List Int) : Prop := ∀ i, 0 ≤ zs.getD i 0 ∧ zs.getD i 0 ≤ 18446744073709551615
/-- An Arena at block p: its words zs in block q, its count c. -/
structure Ar (w : World) (p q : Nat) (zs : List Int) (c : Int) : Prop where
  sl : w.cell? ⟨p, 0, none⟩ = some (.slice (some ⟨q, 0, none⟩) zs.length zs.length)
  cn : w.cell? ⟨p, 1, none⟩ = some (.int .i64 c)
  fc : ∀ i, w.frozen? ⟨p, i, none⟩ = false
  ws : RowU w q zs
  ne : p ≠ q
  len : zs.length ≤ 100000
  all : AllU zs
def Two (p q : Nat) (k : Nat) : Prop := k = p ∨ k = q

theorem RowU.keep {S : Nat → Prop} {w w' : World} {b : Nat} {zs : List Int} (h : RowU w b zs) (k : Keep S w w') (hn : ¬ S b) : RowU w' b zs :=
  ⟨fun i hi => k.cell (h.cell i hi) hn, fun i => (k.frozen (a := ⟨b, i, none⟩) h.lt hn).trans (h.free i), Nat.lt_of_lt_of_le h.lt k.size⟩
theorem Ar.keep {S : Nat → Prop} {w w' : World} {p q : Nat} {zs : List Int} {c : Int} (h : Ar w p q zs c) (k : Keep S w w') (hp : ¬ S p) (hq : ¬ S q) : Ar w' p q zs c :=
  ⟨k.cell h.sl hp, k.cell h.cn hp, fun i => (k.frozen (a := ⟨p, i, none⟩) (lt_of_cell (a := ⟨p, 0, none⟩) h.sl) hp).trans (h.fc i), h.ws.keep k hq, h.ne, h.len, h.all⟩
theorem Ar.lt {w : World} {p q : Nat} {zs : List Int} {c : Int} (h : Ar w p q zs c) : p < w.heap.size := lt_of_cell h.sl
theorem Ar.count {w : World} {p q : Nat} {zs : List Int} {c : Int} (h : Ar w p q zs c) (d : Int) : Ar (w.setCell ⟨p, 1, none⟩ (.int .i64 d)) p q zs d := by
  have hq : (⟨q, 0, none⟩ : Addr).block ≠ p := fun e => h.ne e.symm
  refine ⟨?_, World.cell?_setCell_same _ _ _ h.cn, fun i => ?_, ⟨fun i hi => ?_, fun i => ?_, by simpa [World.setCell] using h.ws.lt⟩, h.ne, h.len, h.all⟩
  · rw [World.cell?_setCell_other _ _ _ _ (by simp)]; exact h.sl
  · simpa using h.fc i
  · rw [World.cell?_setCell_other _ _ _ _ (by simp; intro e; exact absurd e h.ne)]; exact h.ws.cell i hi
  · simpa using h.ws.free i
theorem RowU.set {w : World} {b : Nat} {zs : List Int} (h : RowU w b zs) (i : Nat) (hi : i < zs.length) (x : Int) : RowU (w.setCell ⟨b, i, none⟩ (.int .u64 x)) b (zs.set i x) := by
  refine ⟨fun j hj => ?_, fun j => by simpa using h.free j, by simpa [World.setCell] using h.lt⟩
  rw [List.length_set] at hj
  by_cases e : i = j
  · subst e
    rw [World.cell?_setCell_same _ _ _ (h.cell i hi)]
    simp [List.getD_eq_getElem?_getD, hi]
  · rw [World.cell?_setCell_other _ _ _ _ (by simp), h.cell j hj]
    simp [List.getD_eq_getElem?_getD, e]
theorem AllU.set {zs : List Int} (h : AllU zs) (i : Nat) {x : Int} (h0 : 0 ≤ x) (h1 : x ≤ 18446744073709551615) : AllU (zs.set i x) := by
  intro j
  simp only [List.getD_eq_getElem?_getD, List.getElem?_set]
  split
  · split
    · simpa using ⟨h0, h1⟩
    · simp
  · have := h j; rwa [List.getD_eq_getElem?_getD] at this
theorem Ar.set {w : World} {p q : Nat} {zs : List Int} {c : Int} (h : Ar w p q zs c) (i : Nat) (hi : i < zs.length) {x : Int} (h0 : 0 ≤ x) (h1 : x ≤ 18446744073709551615) : Ar (w.setCell ⟨q, i, none⟩ (.int .u64 x)) p q (zs.set i x) c := by
  refine ⟨?_, ?_, fun i => by simpa using h.fc i, h.ws.set i hi x, h.ne, by simpa using h.len, h.all.set i h0 h1⟩
  · rw [World.cell?_setCell_other _ _ _ _ (by simp; intro e; exact absurd e.symm h.ne), List.length_set]; exact h.sl
  · rw [World.cell?_setCell_other _ _ _ _ (by simp; intro e; exact absurd e.symm h.ne)]; exact h.cn

theorem aload_any (a : Addr) (x : Int) (w : World) (hc : w.cell? a = some (.int .u64 x)) (hn : a.spot = none) :
    Calls Try.prog 22 #[.pointer (some a)] w fun e w' => e = .returned (.int .u64 x) ∧ w = w' := by
  have hl := run_call_load (P := Try.prog) Try.func29 (by kernel_rfl) (by kernel_rfl) (by kernel_rfl) .u64 (by kernel_rfl) hc
  obtain ⟨b, o, s⟩ := a
  obtain rfl : s = none := hn
  go_enter Try.func22, Try.ntmps22
  go_wp2
  go_ret
  exact ⟨rfl, rfl⟩
theorem astore_any (a : Addr) (u : Value) (x : Int) (w : World) (hc : w.cell? a = some u) (hz : w.frozen? a = false) (hn : a.spot = none) :
    Calls Try.prog 20 #[.pointer (some a), .int .u64 x] w fun e w' => e = .returned (.tuple #[]) ∧ w' = w.setCell a (.int .u64 x) := by
  have hl := run_call_store (P := Try.prog) Try.func27 (by kernel_rfl) (by kernel_rfl) (by kernel_rfl) (by kernel_rfl) (k := .u64) (y := x) hc hz
  obtain ⟨b, o, s⟩ := a
  obtain rfl : s = none := hn
  go_enter Try.func20, Try.ntmps20
  go_wp2
  go_end0
  exact ⟨rfl, rfl⟩
theorem acas_hit (a : Addr) (x y : Int) (w : World) (hc : w.cell? a = some (.int .u64 x)) (hz : w.frozen? a = false) (hn : a.spot = none) :
    Calls Try.prog 21 #[.pointer (some a), .int .u64 x, .int .u64 y] w fun e w' => e = .returned (.bool true) ∧ w' = w.setCell a (.int .u64 y) := by
  have hl := run_call_cas_hit (P := Try.prog) Try.func28 (by kernel_rfl) (by kernel_rfl) (by kernel_rfl) .u64 (by kernel_rfl) (y := y) hc hz
  obtain ⟨b, o, s⟩ := a
  obtain rfl : s = none := hn
  go_enter Try.func21, Try.ntmps21
  go_wp2
  go_ret
  exact ⟨rfl, rfl⟩
theorem acas_miss (a : Addr) (x o y : Int) (w : World) (hc : w.cell? a = some (.int .u64 x)) (hz : w.frozen? a = false) (hn : a.spot = none) (hne : ¬ x = o) :
    Calls Try.prog 21 #[.pointer (some a), .int .u64 o, .int .u64 y] w fun e w' => e = .returned (.bool false) ∧ w = w' := by
  have hl := run_call_cas_miss (P := Try.prog) Try.func28 (by kernel_rfl) (by kernel_rfl) (by kernel_rfl) .u64 (by kernel_rfl) (o := o) (y := y) hc hz hne
  obtain ⟨b, f, s⟩ := a
  obtain rfl : s = none := hn
  go_enter Try.func21, Try.ntmps21
  go_wp2
  go_ret
  exact ⟨rfl, rfl⟩
/-- The sum of 64 bits. -/
def addU (x y : Int) : Int := (x + y) % 18446744073709551616
theorem addU_b (x y : Int) : 0 ≤ addU x y ∧ addU x y ≤ 18446744073709551615 := by unfold addU; omega
theorem wrapU (x y : Int) : IntKind.u64.wrap (x + y) = addU x y := by rw [IntKind.wrap_u64]; rfl
theorem aadd_any (a : Addr) (x y : Int) (w : World) (hc : w.cell? a = some (.int .u64 x)) (hz : w.frozen? a = false) (hn : a.spot = none) :
    Calls Try.prog 25 #[.pointer (some a), .int .u64 y] w fun e w' => e = .returned (.int .u64 (addU x y)) ∧ w' = w.setCell a (.int .u64 (addU x y)) := by
  have hs : (Op.intArith .add .u64 x y).run Try.prog w = .ok (.int .u64 (addU x y)) w := by simp [go_sem, wrapU]
  have hl := run_call_add (P := Try.prog) Try.func32 (by kernel_rfl) (by kernel_rfl) (by kernel_rfl) .u64 (by kernel_rfl) hc hz hs
  clear hs
  obtain ⟨b, o, s⟩ := a
  obtain rfl : s = none := hn
  go_enter Try.func25, Try.ntmps25
  go_wp2
  go_ret
  exact ⟨rfl, rfl⟩
theorem cload_any (a : Addr) (x : Int) (w : World) (hc : w.cell? a = some (.int .i64 x)) (hn : a.spot = none) :
    Calls Try.prog 24 #[.pointer (some a)] w fun e w' => e = .returned (.int .i64 x) ∧ w = w' := by
  have hl := run_call_load (P := Try.prog) Try.func31 (by kernel_rfl) (by kernel_rfl) (by kernel_rfl) .i64 (by kernel_rfl) hc
  obtain ⟨b, o, s⟩ := a
  obtain rfl : s = none := hn
  go_enter Try.func24, Try.ntmps24
  go_wp2
  go_ret
  exact ⟨rfl, rfl⟩
theorem cstore_any (a : Addr) (u : Value) (x : Int) (w : World) (hc : w.cell? a = some u) (hz : w.frozen? a = false) (hn : a.spot = none) :
    Calls Try.prog 23 #[.pointer (some a), .int .i64 x] w fun e w' => e = .returned (.tuple #[]) ∧ w' = w.setCell a (.int .i64 x) := by
  have hl := run_call_store (P := Try.prog) Try.func30 (by kernel_rfl) (by kernel_rfl) (by kernel_rfl) (by kernel_rfl) (k := .i64) (y := x) hc hz
  obtain ⟨b, o, s⟩ := a
  obtain rfl : s = none := hn
  go_enter Try.func23, Try.ntmps23
  go_wp2
  go_end0
  exact ⟨rfl, rfl⟩
theorem cadd_any (a : Addr) (x : Int) (w : World) (hc : w.cell? a = some (.int .i64 x)) (hz : w.frozen? a = false) (hn : a.spot = none) (h0 : 0 ≤ x) (h1 : x < 9223372036854775807) :
    Calls Try.prog 26 #[.pointer (some a), .int .i64 1] w fun e w' => e = .returned (.int .i64 (x + 1)) ∧ w' = w.setCell a (.int .i64 (x + 1)) := by
  have hs : (Op.intArith .add .i64 x 1).run Try.prog w = .ok (.int .i64 (x + 1)) w := by
    simp [go_sem, IntKind.wrap_i64]
    omega
  have hl := run_call_add (P := Try.prog) Try.func33 (by kernel_rfl) (by kernel_rfl) (by kernel_rfl) .i64 (by kernel_rfl) hc hz hs
  clear hs
  obtain ⟨b, o, s⟩ := a
  obtain rfl : s = none := hn
  go_enter Try.func26, Try.ntmps26
  go_wp2
  go_ret
  exact ⟨rfl, rfl⟩
theorem access_in (p q : Nat) (zs : List Int) (c : Int) (i : Nat) (w : World) (h : Ar w p q zs c) (hi : i < zs.length) (h0 : 0 ≤ c) (h1 : c < 9223372036854775807) :
    Calls Try.prog 19 #[.pointer (some ⟨p, 0, none⟩), .int .i64 i] w fun e w' => e = .returned (.pointer (some ⟨q, i, none⟩)) ∧ w' = w.setCell ⟨p, 1, none⟩ (.int .i64 (c + 1)) := by
  have hs := h.sl
  have hl := h.len
  have hc1 := h.cn
  have hf := h.fc 1
  have hs' := (h.count (c + 1)).sl
  go_enter Try.func19, Try.ntmps19
  go_wp2_with (go_at_call 26; refine (cadd_any _ c _ hc1 hf rfl h0 h1).mono ?_; rintro e w' ⟨rfl, rfl⟩)
  go_ret
  exact ⟨rfl, rfl⟩
theorem access_no (p q : Nat) (zs : List Int) (c : Int) (i : Int) (w : World) (h : Ar w p q zs c) (hi : i < 0 ∨ zs.length ≤ i) :
    Calls Try.prog 19 #[.pointer (some ⟨p, 0, none⟩), .int .i64 i] w fun e w' => e = .returned (.pointer none) ∧ w = w' := by
  have hs := h.sl
  have hl := h.len
  rcases hi with hi | hi
  · go_enter Try.func19, Try.ntmps19
    go_wp2
    go_ret
    exact ⟨rfl, rfl⟩
  · have hn : ¬ i < 0 := by omega
    go_enter Try.func19, Try.ntmps19
    go_wp2
    go_ret
    exact ⟨rfl, rfl⟩
