/- Several texts, one behind the other: RmA, RmB, RmC. -/
import Derived.Test.YtkkjofefjepodaaLawModelPlaysZaj
import Derived.Test.YtkkjofefjepodaaLawModelPlaysZab
import Derived.Test.YtkkjofefjepodaaLawModelPlaysZaa
import Derived.Test.YtkkjofefjepodaaLawModelPlaysZaf
import Derived.Deep.LoopGhost
import Derived.Deep.QuietTactic
import Derived.Deep.CutRange
import Derived.Deep.CutBlock
import Derived.Deep.RegionHeld3
import Derived.StillTailTactics
import Derived.BigQuiet
/- The document's own Model (vinculumref19) in memory: a struct of 53 cells, versions in one slice, each session's two lists; kept where other blocks turn. No condition. -/
namespace Go.Proofs.Ytkkjofefjepodaa
open Go.ChangeShapes Go.WideShapes Go.ChangeAt Go.RowKit
set_option linter.unusedVariables false

/-- A version's cells; a read's; a transaction as a value. -/
def vrC (x : VrI) : List Value := [.int .i64 x.key, .int .i64 x.val, .int .i64 x.bY, .int .i64 x.ended, .int .u64 x.start, .int .u64 x.stop, .bool x.dead]
def rrC (x : RdI) : List Value := [.int .i64 x.lo, .int .i64 x.hi, .bool x.found, .bool x.scan]
def txV (t : TxI) (a b : Value) : Value := .agg #[.int .i64 t.id, .int .i64 t.level, .int .i64 t.ops, .int .u64 t.start, a, b]
theorem vrC_len (x : VrI) : (vrC x).length = 7 := rfl
theorem rrC_len (x : RdI) : (rrC x).length = 4 := rfl
abbrev OwnRv (w : World) (v : Value) (l : List VrI) : Prop := OwnM 7 vrC 119 w v l
abbrev OwnR (w : World) (v : Value) (l : List RdI) : Prop := OwnM 4 rrC 125 w v l
/-- A Model at m: vv the versions' slice, sw and sr the sessions' lists. -/
structure RmAt (w : World) (m : Nat) (vv : Value) (sw sr : Nat → Value) (x : MoI) : Prop where
 c0 : w.cell? ⟨m, 0, none⟩ = some (.int .i64 x.slots)
 c1 : w.cell? ⟨m, 1, none⟩ = some (.int .u64 x.limit)
 c2 : w.cell? ⟨m, 2, none⟩ = some vv
 s0 : ∀ i, i < 8 → w.cell? ⟨m, 3 + i * 6, none⟩ = some (.int .i64 (x.s i).id)
 s1 : ∀ i, i < 8 → w.cell? ⟨m, 3 + i * 6 + 1, none⟩ = some (.int .i64 (x.s i).level)
 s2 : ∀ i, i < 8 → w.cell? ⟨m, 3 + i * 6 + 2, none⟩ = some (.int .i64 (x.s i).ops)
 s3 : ∀ i, i < 8 → w.cell? ⟨m, 3 + i * 6 + 3, none⟩ = some (.int .u64 (x.s i).start)
 s4 : ∀ i, i < 8 → w.cell? ⟨m, 3 + i * 6 + 4, none⟩ = some (sw i)
 s5 : ∀ i, i < 8 → w.cell? ⟨m, 3 + i * 6 + 5, none⟩ = some (sr i)
 c51 : w.cell? ⟨m, 51, none⟩ = some (.int .u64 x.time)
 c52 : w.cell? ⟨m, 52, none⟩ = some (.int .i64 x.made)
 fz : ∀ i, w.frozen? ⟨m, i, none⟩ = false
 ov : OwnRv w vv x.v
 ow : ∀ i, i < 8 → OwnN 0 w (sw i) (x.s i).wrote
 or' : ∀ i, i < 8 → OwnR w (sr i) (x.s i).reads
 vm : vv.ownBlock ≠ some m
 wm : ∀ i, i < 8 → (sw i).ownBlock ≠ some m
 rm : ∀ i, i < 8 → (sr i).ownBlock ≠ some m
 vw : ∀ i g, i < 8 → vv.ownBlock = some g → (sw i).ownBlock ≠ some g
 vr : ∀ i g, i < 8 → vv.ownBlock = some g → (sr i).ownBlock ≠ some g
 ww : ∀ i j g, i < 8 → j < 8 → i ≠ j → (sw i).ownBlock = some g → (sw j).ownBlock ≠ some g
 rr : ∀ i j g, i < 8 → j < 8 → i ≠ j → (sr i).ownBlock = some g → (sr j).ownBlock ≠ some g
 wr : ∀ i j g, i < 8 → j < 8 → (sw i).ownBlock = some g → (sr j).ownBlock ≠ some g
/-- Its blocks. -/
def FootR (m : Nat) (vv : Value) (sw sr : Nat → Value) (g : Nat) : Prop := g = m ∨ vv.ownBlock = some g ∨ ∃ i, i < 8 ∧ ((sw i).ownBlock = some g ∨ (sr i).ownBlock = some g)
section
variable {w w' : World} {m : Nat} {vv : Value} {sw sr : Nat → Value} {x : MoI} {T : Nat → Prop}
theorem RmAt.mlt (h : RmAt w m vv sw sr x) : m < w.heap.size := lt_of_cell (a := ⟨m, 0, none⟩) h.c0
theorem RmAt.keep (h : RmAt w m vv sw sr x) (k : Keep T w w') (hn : ∀ g, FootR m vv sw sr g → ¬ T g) : RmAt w' m vv sw sr x :=
  have nm : ¬ T m := hn m (.inl rfl)
  { c0 := k.cell h.c0 nm, c1 := k.cell h.c1 nm, c2 := k.cell h.c2 nm
    s0 := fun i hi => k.cell (h.s0 i hi) nm, s1 := fun i hi => k.cell (h.s1 i hi) nm, s2 := fun i hi => k.cell (h.s2 i hi) nm
    s3 := fun i hi => k.cell (h.s3 i hi) nm, s4 := fun i hi => k.cell (h.s4 i hi) nm, s5 := fun i hi => k.cell (h.s5 i hi) nm
    c51 := k.cell h.c51 nm, c52 := k.cell h.c52 nm
    fz := fun i => (k.frozen (a := ⟨m, i, none⟩) h.mlt nm).trans (h.fz i)
    ov := h.ov.keep k fun g hg => hn g (.inr (.inl hg))
    ow := fun i hi => OwnN.keep (h.ow i hi) k fun g hg => hn g (.inr (.inr ⟨i, hi, .inl hg⟩))
    or' := fun i hi => (h.or' i hi).keep k fun g hg => hn g (.inr (.inr ⟨i, hi, .inr hg⟩))
    vm := h.vm, wm := h.wm, rm := h.rm, vw := h.vw, vr := h.vr, ww := h.ww, rr := h.rr, wr := h.wr }
theorem RmAt.same (h : RmAt w m vv sw sr x) (k : Keep (fun _ => False) w w') : RmAt w' m vv sw sr x := h.keep k fun _ _ => id
theorem RmAt.lt (h : RmAt w m vv sw sr x) (g : Nat) (hg : FootR m vv sw sr g) : g < w.heap.size := by
 rcases hg with rfl | hg | ⟨i, hi, hg | hg⟩
 ·exact h.mlt
 ·exact h.ov.lt hg
 ·exact (OwnN.lt (h.ow i hi) hg).2
 ·exact (h.or' i hi).lt hg
/-- A version's cells where it stands. -/
structure VAt7 (w : World) (g i : Nat) (y : VrI) : Prop where
 a0 : w.cell? ⟨g, i * 7, none⟩ = some (.int .i64 y.key)
 a1 : w.cell? ⟨g, i * 7 + 1, none⟩ = some (.int .i64 y.val)
 a2 : w.cell? ⟨g, i * 7 + 2, none⟩ = some (.int .i64 y.bY)
 a3 : w.cell? ⟨g, i * 7 + 3, none⟩ = some (.int .i64 y.ended)
 a4 : w.cell? ⟨g, i * 7 + 4, none⟩ = some (.int .u64 y.start)
 a5 : w.cell? ⟨g, i * 7 + 5, none⟩ = some (.int .u64 y.stop)
 a6 : w.cell? ⟨g, i * 7 + 6, none⟩ = some (.bool y.dead)
theorem ver_at {g n c : Nat} {l : List VrI} (o : OwnRv w (.slice (some ⟨g, 0, none⟩) n c) l) (i : Nat) (y : VrI) (hy : l[i]? = some y) : VAt7 w g i y := by
 obtain ⟨li, e⟩ := List.getElem?_eq_some_iff.1 hy
 have h := fun j hj => OwnM.cell vrC_len o i j li hj
 rw [e] at h
 exact ⟨h 0 (by omega), h 1 (by omega), h 2 (by omega), h 3 (by omega), h 4 (by omega), h 5 (by omega), h 6 (by omega)⟩
/-- The versions' slice, written out. -/
theorem RmAt.vers (h : RmAt w m vv sw sr x) : ∃ A c, vv = .slice A x.v.length c ∧ x.v.length ≤ c ∧ ∀ i y, x.v[i]? = some y → ∃ g, A = some ⟨g, 0, none⟩ ∧ VAt7 w g i y := by
 rcases h.ov.form with ⟨h1, h2⟩ | ⟨g, c, h1, _, hc, _⟩
 ·exact ⟨none, 0, by rw [h1, h2]; rfl, by rw [h2]; exact Nat.le_refl _, fun i y hy => by rw [h2] at hy; simp at hy⟩
 ·have o := h.ov
  rw [h1] at o
  exact ⟨some ⟨g, 0, none⟩, c, h1, hc, fun i y hy => ⟨g, rfl, ver_at o i y hy⟩⟩
end
end Go.Proofs.Ytkkjofefjepodaa
/- The document's own Model, second part: which version a transaction sees, whether a key was turned later, its own version, what is there at a time; a list of ints has a number. Conditions: at most 100,000 versions. -/
namespace Go.Proofs.Ytkkjofefjepodaa
open Go.ChangeShapes Go.WideShapes Go.ChangeAt Go.RowKit
set_option linter.unusedVariables false
set_option linter.unusedSimpArgs false

/-- A place as a number: below 0: none. -/
def idxV : Option Nat → Int
 | some i => i
 | none => -1
theorem elder_cases (id key at' : Int) (y : VrI) : (elderV id key at' y = true ∧ (y.key != key) = false ∧ y.dead = false ∧ (y.ended == id) = false ∧ (y.bY != 0) = false ∧ decide (at' < y.start) = false ∧ ((y.ended != 0) = true ∨ ((y.ended != 0) = false ∧ (y.stop == 0) = true) ∨ ((y.ended != 0) = false ∧ (y.stop == 0) = false ∧ decide (at' < y.stop) = true))) ∨
  (elderV id key at' y = false ∧ ((y.key != key) = true ∨ ((y.key != key) = false ∧ y.dead = true) ∨ ((y.key != key) = false ∧ y.dead = false ∧ (y.ended == id) = true) ∨ ((y.key != key) = false ∧ y.dead = false ∧ (y.ended == id) = false ∧ (y.bY != 0) = true) ∨
   ((y.key != key) = false ∧ y.dead = false ∧ (y.ended == id) = false ∧ (y.bY != 0) = false ∧ decide (at' < y.start) = true) ∨ ((y.key != key) = false ∧ y.dead = false ∧ (y.ended == id) = false ∧ (y.bY != 0) = false ∧ decide (at' < y.start) = false ∧ (y.ended != 0) = false ∧ (y.stop == 0) = false ∧ decide (at' < y.stop) = false))) := by
 unfold elderV
 by_cases h1 : y.key = key <;> by_cases h2 : y.dead = true <;> by_cases h3 : y.ended = id <;> by_cases h4 : y.bY = 0 <;> by_cases h5 : at' < y.start <;> by_cases h6 : y.ended = 0 <;> by_cases h7 : y.stop = 0 <;> by_cases h8 : at' < y.stop <;> simp [h1, h2, h3, h4, h5, h6, h7, h8] <;> omega
theorem find_at {α : Type} {p : α → Bool} {l : List α} {i : Nat} {y : α} (h : ∀ (j : Nat) (z : α), j < i → l[j]? = some z → p z = false) (hy : l[i]? = some y) (hp : p y = true) : l.findIdx? p = some i := by
 obtain ⟨li, e⟩ := List.getElem?_eq_some_iff.1 hy
 rw [List.findIdx?_eq_some_iff_getElem]
 refine ⟨li, by rw [e]; exact hp, fun j hj => ?_⟩
 rw [h j l[j] hj (List.getElem?_eq_getElem (by omega))]
 simp
theorem find_no {α : Type} {p : α → Bool} {l : List α} (h : ∀ (j : Nat) (z : α), l[j]? = some z → p z = false) : l.findIdx? p = none := by
 rw [List.findIdx?_eq_none_iff]
 intro z hz
 obtain ⟨j, hj, e⟩ := List.getElem_of_mem hz
 exact h j z (by rw [List.getElem?_eq_getElem hj, e])
/-- None of those ahead of place i. -/
def NoneTo {α : Type} (p : α → Bool) (l : List α) (i : Nat) : Prop := ∀ (j : Nat) (z : α), j < i → l[j]? = some z → p z = false
theorem NoneTo.next {α : Type} {p : α → Bool} {l : List α} {i : Nat} {y : α} (h : NoneTo p l i) (hy : l[i]? = some y) (hp : p y = false) : NoneTo p l (i + 1) := fun j z hj hz => by
 by_cases e : j = i
 ·subst e; rw [hy] at hz; cases hz; exact hp
 ·exact h j z (by omega) hz
theorem NoneTo.all {α : Type} {p : α → Bool} {l : List α} (h : NoneTo p l l.length) : l.findIdx? p = none := find_no fun j z hz => h j z (List.getElem?_eq_some_iff.1 hz).1 hz
theorem NoneTo.any {α : Type} {p : α → Bool} {l : List α} (h : NoneTo p l l.length) : l.any p = false := by
 rw [List.any_eq_false]
 intro z hz
 obtain ⟨j, hj, e⟩ := List.getElem_of_mem hz
 rw [h j z hj (by rw [List.getElem?_eq_getElem hj, e])]
 simp
theorem mine_cases (id key : Int) (y : VrI) : (mineV id key y = true ∧ (y.key != key) = false ∧ y.dead = false ∧ (y.ended == id) = false ∧ (y.bY == id) = true) ∨
  (mineV id key y = false ∧ ((y.key != key) = true ∨ ((y.key != key) = false ∧ y.dead = true) ∨ ((y.key != key) = false ∧ y.dead = false ∧ (y.ended == id) = true) ∨ ((y.key != key) = false ∧ y.dead = false ∧ (y.ended == id) = false ∧ (y.bY == id) = false))) := by
 unfold mineV
 by_cases h1 : y.key = key <;> by_cases h2 : y.dead = true <;> by_cases h3 : y.ended = id <;> by_cases h4 : y.bY = id <;> simp [h1, h2, h3, h4]
theorem own_cases (id key : Int) (y : VrI) : (ownV id key y = true ∧ (y.key == key) = true ∧ (y.bY == id) = true ∧ y.dead = false) ∨
  (ownV id key y = false ∧ ((y.key == key) = false ∨ ((y.key == key) = true ∧ (y.bY == id) = false) ∨ ((y.key == key) = true ∧ (y.bY == id) = true ∧ y.dead = true))) := by
 unfold ownV
 by_cases h1 : y.key = key <;> by_cases h2 : y.dead = true <;> by_cases h4 : y.bY = id <;> simp [h1, h2, h4]
theorem there_cases (key at' : Int) (y : VrI) : (thereV key at' y = true ∧ (y.key == key) = true ∧ y.dead = false ∧ (y.bY == 0) = true ∧ decide (y.start ≤ at') = true ∧ ((y.stop == 0) = true ∨ ((y.stop == 0) = false ∧ decide (at' < y.stop) = true))) ∨
  (thereV key at' y = false ∧ ((y.key == key) = false ∨ ((y.key == key) = true ∧ y.dead = true) ∨ ((y.key == key) = true ∧ y.dead = false ∧ (y.bY == 0) = false) ∨ ((y.key == key) = true ∧ y.dead = false ∧ (y.bY == 0) = true ∧ decide (y.start ≤ at') = false) ∨
   ((y.key == key) = true ∧ y.dead = false ∧ (y.bY == 0) = true ∧ decide (y.start ≤ at') = true ∧ (y.stop == 0) = false ∧ decide (at' < y.stop) = false))) := by
 unfold thereV
 by_cases h1 : y.key = key <;> by_cases h2 : y.dead = true <;> by_cases h4 : y.bY = 0 <;> by_cases h5 : y.start ≤ at' <;> by_cases h7 : y.stop = 0 <;> by_cases h8 : at' < y.stop <;> simp [h1, h2, h4, h5, h7, h8] <;> omega
theorem later_cases (key at' : Int) (y : VrI) : (laterV key at' y = true ∧ (y.key == key) = true ∧ y.dead = false ∧ (((y.bY == 0) = true ∧ decide (at' < y.start) = true) ∨ ((y.bY == 0) = true ∧ decide (at' < y.start) = false ∧ decide (at' < y.stop) = true) ∨ ((y.bY == 0) = false ∧ decide (at' < y.stop) = true))) ∨
  (laterV key at' y = false ∧ ((y.key == key) = false ∨ ((y.key == key) = true ∧ y.dead = true) ∨ ((y.key == key) = true ∧ y.dead = false ∧ (y.bY == 0) = true ∧ decide (at' < y.start) = false ∧ decide (at' < y.stop) = false) ∨ ((y.key == key) = true ∧ y.dead = false ∧ (y.bY == 0) = false ∧ decide (at' < y.stop) = false))) := by
 unfold laterV
 by_cases h1 : y.key = key <;> by_cases h2 : y.dead = true <;> by_cases h4 : y.bY = 0 <;> by_cases h5 : at' < y.start <;> by_cases h8 : at' < y.stop <;> simp [h1, h2, h4, h5, h8] <;> omega
/-- A transaction in a box. -/
structure TxAt (w : World) (N : Nat) (t : TxI) (a b : Value) : Prop where
 b0 : w.cell? ⟨N, 0, none⟩ = some (.int .i64 t.id)
 b1 : w.cell? ⟨N, 1, none⟩ = some (.int .i64 t.level)
 b2 : w.cell? ⟨N, 2, none⟩ = some (.int .i64 t.ops)
 b3 : w.cell? ⟨N, 3, none⟩ = some (.int .u64 t.start)
 b4 : w.cell? ⟨N, 4, none⟩ = some a
 b5 : w.cell? ⟨N, 5, none⟩ = some b
theorem TxAt.keep {w w' : World} {N : Nat} {t : TxI} {a b : Value} (h : TxAt w N t a b) (k : Keep (fun _ => False) w w') : TxAt w' N t a b := ⟨k.cell h.b0 id, k.cell h.b1 id, k.cell h.b2 id, k.cell h.b3 id, k.cell h.b4 id, k.cell h.b5 id⟩
theorem tx_box (w : World) (t : TxI) (a b : Value) : ∃ W, w.alloc (.cells #[.int .i64 t.id, .int .i64 t.level, .int .i64 t.ops, .int .u64 t.start, a, b] 79) = W ∧ TxAt W w.heap.size t a b ∧ Keep (fun _ => False) w W :=
 ⟨_, rfl, ⟨by simp, by simp, by simp, by simp, by simp, by simp⟩, (Keep.refl _ _).alloc _⟩
section
variable {w w' : World} {m : Nat} {vv : Value} {sw sr : Nat → Value} {x : MoI} {T : Nat → Prop}
def RS (l : List VrI) (p : VrI → Bool) (W : World) (i : Nat) (iv : Value) (wr : World) : Prop := i ≤ l.length ∧ iv = .int .i64 i ∧ NoneTo p l i ∧ Keep (fun _ => False) W wr
set_option maxRecDepth 100000 in
set_option maxHeartbeats 1000000 in
theorem rsees_any (h : RmAt w m vv sw sr x) (hl : x.v.length ≤ 100000) (t : TxI) (a b : Value) (key : Int) :
  Calls Try.prog 62 #[.pointer (some ⟨m, 0, none⟩), txV t a b, .int .i64 key] w fun e w' => e = .returned (.int .i64 (idxV (seesI x.v t.id t.start key))) ∧ Keep (fun _ => False) w w' := by
 obtain ⟨A, c, rfl, hc, hv⟩ := h.vers
 obtain ⟨n, en⟩ : ∃ n, x.v.length = n := ⟨_, rfl⟩
 obtain ⟨W, eW, tb, kW⟩ := tx_box w t a b
 have H := Lib.hid (h.same kW)
 have EN := Lib.hid en
 have TB := Lib.hid tb
 have EW := Lib.hid eW
 obtain ⟨N, eN⟩ : ∃ N, w.heap.size = N := ⟨_, rfl⟩
 obtain ⟨id', level, ops, start, wrote, reads⟩ := t
 rw [en] at hc hl H
 clear h en hv tb eW
 unfold txV
 go_enter Try.func62, Try.ntmps62
 go_wp2
 go_loopw [7, 8] (fun i _ wr => ∃ k : Nat, RS x.v (mineV id' key) W k i wr) (fun i _ _ => n - (intOf i).toNat)
 case atStart => exact ⟨0, Nat.zero_le _, rfl, fun j z hj => absurd hj (Nat.not_lt_zero j), by rw [← EW.out]; exact Keep.refl _ _⟩
 case round =>
  obtain ⟨k, hk, rfl, hno, k1⟩ := hrel
  rw [EN.out] at hk
  have wk : IntKind.i64.wrap ((k : Int) + 1) = (k : Int) + 1 := IntWalk.i64_in _ (by omega)
  have c2 := (H.out.same k1).c2
  obtain ⟨t0, t1, t2, t3, t4, t5⟩ := TB.out.keep k1
  rw [eN] at t0 t1 t2 t3 t4 t5
  have hN : N < wr.heap.size := lt_of_cell (a := ⟨N, 0, none⟩) t0
  clear t1 t2 t4 t5
  have NO := Lib.hid hno
  clear hno
  by_cases hlt : k < n
  ·obtain ⟨y, hy⟩ : ∃ y, x.v[k]? = some y := ⟨_, List.getElem?_eq_getElem (by rw [EN.out]; exact hlt)⟩
   obtain ⟨A0, c0, eA, hc0, hv⟩ := (H.out.same k1).vers
   obtain ⟨g, eg, a0, a1, a2, a3, a4, a5, a6⟩ := hv k y hy
   cases eA
   subst eg
   have mc := mine_cases id' key y
   have kA := fun o => k1.alloc o
   have YV := Lib.hid hy
   obtain ⟨yk, yv, yb, ye, ya, yo, yd⟩ := y
   clear hv hc0 hy
   rcases mc with ⟨mt, h1, rfl, h3, h4⟩ | ⟨mf, h1 | ⟨h1, rfl⟩ | ⟨h1, rfl, h3⟩ | ⟨h1, rfl, h3, h4⟩⟩
   ·have F := Lib.hid (show seesI x.v id' start key = some k by unfold seesI; rw [find_at NO.out YV.out mt])
    go_wp2
    go_ret
    exact ⟨by rw [F.out]; rfl, kW.trans (kA _)⟩
   all_goals
    have NX := Lib.hid (NO.out.next YV.out mf)
    go_wp2
    first | exact ⟨⟨k + 1, by omega, by go_num, NX.out, kA _⟩, by simp [intOf]; omega⟩ | (refine ⟨?rel2, ?meas2⟩; (case meas2 => (simp [intOf]; omega)); (case rel2 => ((repeat apply Exists.intro); exact ⟨⟨k + 1, by omega, by go_num, NX.out, kA _⟩, rfl⟩)))
  ·obtain rfl : k = n := by omega
   have NM := Lib.hid (show x.v.findIdx? (mineV id' key) = none by have := NO.out; rw [← EN.out] at this; exact this.all)
   clear hlt hk NO
   go_wp2
   go_loopw [9, 10] (fun i _ wr => ∃ j : Nat, RS x.v (elderV id' key start) W j i wr) (fun i _ _ => k - (intOf i).toNat)
   case atStart => exact ⟨0, Nat.zero_le _, rfl, fun j z hj => absurd hj (Nat.not_lt_zero j), k1⟩
   case round =>
    clear k1 c2 t0 t3 hN wk
    obtain ⟨j, hj, rfl, hno, k2⟩ := hrel
    rw [EN.out] at hj
    have wj : IntKind.i64.wrap ((j : Int) + 1) = (j : Int) + 1 := IntWalk.i64_in _ (by omega)
    have c2 := (H.out.same k2).c2
    obtain ⟨t0, t1, t2, t3, t4, t5⟩ := TB.out.keep k2
    rw [eN] at t0 t1 t2 t3 t4 t5
    have hN : N < wr.heap.size := lt_of_cell (a := ⟨N, 0, none⟩) t0
    clear t1 t2 t4 t5
    have NO := Lib.hid hno
    clear hno
    by_cases hlt : j < k
    ·obtain ⟨y, hy⟩ : ∃ y, x.v[j]? = some y := ⟨_, List.getElem?_eq_getElem (by rw [EN.out]; exact hlt)⟩
     obtain ⟨A0, c0, eA, hc0, hv⟩ := (H.out.same k2).vers
     obtain ⟨g, eg, a0, a1, a2, a3, a4, a5, a6⟩ := hv j y hy
     cases eA
     subst eg
     have mc := elder_cases id' key start y
     have kA := fun o => k2.alloc o
     have YV := Lib.hid hy
     obtain ⟨yk, yv, yb, ye, ya, yo, yd⟩ := y
     clear hv hc0 hy
     rcases mc with ⟨mt, h1, rfl, h3, h4, h5, h6 | ⟨h6, h7⟩ | ⟨h6, h7, h8⟩⟩ | ⟨mf, h1 | ⟨h1, rfl⟩ | ⟨h1, rfl, h3⟩ | ⟨h1, rfl, h3, h4⟩ | ⟨h1, rfl, h3, h4, h5⟩ | ⟨h1, rfl, h3, h4, h5, h6, h7, h8⟩⟩
     iterate 3
      ·have F := Lib.hid (show seesI x.v id' start key = some j by unfold seesI; rw [NM.out, find_at NO.out YV.out mt])
       go_wp2
       go_ret
       exact ⟨by rw [F.out]; rfl, kW.trans (kA _)⟩
     all_goals
      have NX := Lib.hid (NO.out.next YV.out mf)
      go_wp2
      first | exact ⟨⟨j + 1, by omega, by go_num, NX.out, kA _⟩, by simp [intOf]; omega⟩ | (refine ⟨?rel2, ?meas2⟩; (case meas2 => (simp [intOf]; omega)); (case rel2 => ((repeat apply Exists.intro); exact ⟨⟨j + 1, by omega, by go_num, NX.out, kA _⟩, rfl⟩)))
    ·obtain rfl : j = k := by omega
     have F := Lib.hid (show seesI x.v id' start key = none by unfold seesI; rw [NM.out]; have := NO.out; rw [← EN.out] at this; exact this.all)
     clear hlt hj NO
     go_wp2
     go_ret
     exact ⟨by rw [F.out]; rfl, kW.trans k2⟩
set_option maxRecDepth 100000 in
set_option maxHeartbeats 1000000 in
theorem rown_any (h : RmAt w m vv sw sr x) (hl : x.v.length ≤ 100000) (id' key : Int) :
  Calls Try.prog 88 #[.pointer (some ⟨m, 0, none⟩), .int .i64 id', .int .i64 key] w fun e w' => e = .returned (.int .i64 (idxV (x.v.findIdx? (ownV id' key)))) ∧ Keep (fun _ => False) w w' := by
 obtain ⟨A, c, rfl, hc, hv⟩ := h.vers
 obtain ⟨n, en⟩ : ∃ n, x.v.length = n := ⟨_, rfl⟩
 have H := Lib.hid h
 have EN := Lib.hid en
 rw [en] at hc hl H
 clear h en hv
 go_enter Try.func88, Try.ntmps88
 go_wp2
 go_loopw [7] (fun i wr => ∃ k : Nat, RS x.v (ownV id' key) w k i wr) (fun i _ => n - (intOf i).toNat)
 case atStart => exact ⟨0, Nat.zero_le _, rfl, fun j z hj => absurd hj (Nat.not_lt_zero j), Keep.refl _ _⟩
 case round =>
  obtain ⟨k, hk, rfl, hno, k1⟩ := hrel
  rw [EN.out] at hk
  have wk : IntKind.i64.wrap ((k : Int) + 1) = (k : Int) + 1 := IntWalk.i64_in _ (by omega)
  have c2 := (H.out.same k1).c2
  have NO := Lib.hid hno
  clear hno
  by_cases hlt : k < n
  ·obtain ⟨y, hy⟩ : ∃ y, x.v[k]? = some y := ⟨_, List.getElem?_eq_getElem (by rw [EN.out]; exact hlt)⟩
   obtain ⟨A0, c0, eA, hc0, hv⟩ := (H.out.same k1).vers
   obtain ⟨g, eg, a0, a1, a2, a3, a4, a5, a6⟩ := hv k y hy
   cases eA
   subst eg
   have mc := own_cases id' key y
   have kA := k1
   have YV := Lib.hid hy
   obtain ⟨yk, yv, yb, ye, ya, yo, yd⟩ := y
   clear hv hc0 hy
   rcases mc with ⟨mt, h1, h2, rfl⟩ | ⟨mf, h1 | ⟨h1, h2⟩ | ⟨h1, h2, rfl⟩⟩
   iterate 1
    ·have F := Lib.hid (find_at NO.out YV.out mt)
     go_wp2
     go_ret
     exact ⟨by rw [F.out]; rfl, kA⟩
   all_goals
    have NX := Lib.hid (NO.out.next YV.out mf)
    go_wp2
    first | exact ⟨⟨k + 1, by omega, by go_num, NX.out, kA⟩, by simp [intOf]; omega⟩ | (refine ⟨?rel2, ?meas2⟩; (case meas2 => (simp [intOf]; omega)); (case rel2 => ((repeat apply Exists.intro); exact ⟨⟨k + 1, by omega, by go_num, NX.out, kA⟩, rfl⟩)))
  ·obtain rfl : k = n := by omega
   have F := Lib.hid (show x.v.findIdx? (ownV id' key) = none by have := NO.out; rw [← EN.out] at this; exact this.all)
   clear hlt hk NO
   go_wp2
   go_ret
   exact ⟨by rw [F.out]; rfl, k1⟩
set_option maxRecDepth 100000 in
set_option maxHeartbeats 1000000 in
theorem rthere_any (h : RmAt w m vv sw sr x) (hl : x.v.length ≤ 100000) (key at' : Int) :
  Calls Try.prog 98 #[.pointer (some ⟨m, 0, none⟩), .int .i64 key, .int .u64 at'] w fun e w' => e = .returned (.int .i64 (idxV (x.v.findIdx? (thereV key at')))) ∧ Keep (fun _ => False) w w' := by
 obtain ⟨A, c, rfl, hc, hv⟩ := h.vers
 obtain ⟨n, en⟩ : ∃ n, x.v.length = n := ⟨_, rfl⟩
 have H := Lib.hid h
 have EN := Lib.hid en
 rw [en] at hc hl H
 clear h en hv
 go_enter Try.func98, Try.ntmps98
 go_wp2
 go_loopw [7, 8] (fun i _ wr => ∃ k : Nat, RS x.v (thereV key at') w k i wr) (fun i _ _ => n - (intOf i).toNat)
 case atStart => exact ⟨0, Nat.zero_le _, rfl, fun j z hj => absurd hj (Nat.not_lt_zero j), Keep.refl _ _⟩
 case round =>
  obtain ⟨k, hk, rfl, hno, k1⟩ := hrel
  rw [EN.out] at hk
  have wk : IntKind.i64.wrap ((k : Int) + 1) = (k : Int) + 1 := IntWalk.i64_in _ (by omega)
  have c2 := (H.out.same k1).c2
  have NO := Lib.hid hno
  clear hno
  by_cases hlt : k < n
  ·obtain ⟨y, hy⟩ : ∃ y, x.v[k]? = some y := ⟨_, List.getElem?_eq_getElem (by rw [EN.out]; exact hlt)⟩
   obtain ⟨A0, c0, eA, hc0, hv⟩ := (H.out.same k1).vers
   obtain ⟨g, eg, a0, a1, a2, a3, a4, a5, a6⟩ := hv k y hy
   cases eA
   subst eg
   have mc := there_cases key at' y
   have kA := fun o => k1.alloc o
   have YV := Lib.hid hy
   obtain ⟨yk, yv, yb, ye, ya, yo, yd⟩ := y
   clear hv hc0 hy
   rcases mc with ⟨mt, h1, rfl, h3, h4, h5 | ⟨h5, h6⟩⟩ | ⟨mf, h1 | ⟨h1, rfl⟩ | ⟨h1, rfl, h3⟩ | ⟨h1, rfl, h3, h4⟩ | ⟨h1, rfl, h3, h4, h5, h6⟩⟩
   iterate 2
    ·have F := Lib.hid (find_at NO.out YV.out mt)
     go_wp2
     go_ret
     exact ⟨by rw [F.out]; rfl, (kA _)⟩
   all_goals
    have NX := Lib.hid (NO.out.next YV.out mf)
    go_wp2
    first | exact ⟨⟨k + 1, by omega, by go_num, NX.out, (kA _)⟩, by simp [intOf]; omega⟩ | (refine ⟨?rel2, ?meas2⟩; (case meas2 => (simp [intOf]; omega)); (case rel2 => ((repeat apply Exists.intro); exact ⟨⟨k + 1, by omega, by go_num, NX.out, (kA _)⟩, rfl⟩)))
  ·obtain rfl : k = n := by omega
   have F := Lib.hid (show x.v.findIdx? (thereV key at') = none by have := NO.out; rw [← EN.out] at this; exact this.all)
   clear hlt hk NO
   go_wp2
   go_ret
   exact ⟨by rw [F.out]; rfl, k1⟩
set_option maxRecDepth 100000 in
set_option maxHeartbeats 1000000 in
theorem rlater_any (h : RmAt w m vv sw sr x) (hl : x.v.length ≤ 100000) (key at' : Int) :
  Calls Try.prog 99 #[.pointer (some ⟨m, 0, none⟩), .int .i64 key, .int .u64 at'] w fun e w' => e = .returned (.bool (x.v.any (laterV key at'))) ∧ Keep (fun _ => False) w w' := by
 obtain ⟨A, c, rfl, hc, hv⟩ := h.vers
 obtain ⟨n, en⟩ : ∃ n, x.v.length = n := ⟨_, rfl⟩
 have H := Lib.hid h
 have EN := Lib.hid en
 rw [en] at hc hl H
 clear h en hv
 go_enter Try.func99, Try.ntmps99
 go_wp2
 go_loopw [7, 8] (fun i _ wr => ∃ k : Nat, RS x.v (laterV key at') w k i wr) (fun i _ _ => n - (intOf i).toNat)
 case atStart => exact ⟨0, Nat.zero_le _, rfl, fun j z hj => absurd hj (Nat.not_lt_zero j), Keep.refl _ _⟩
 case round =>
  obtain ⟨k, hk, rfl, hno, k1⟩ := hrel
  rw [EN.out] at hk
  have wk : IntKind.i64.wrap ((k : Int) + 1) = (k : Int) + 1 := IntWalk.i64_in _ (by omega)
  have c2 := (H.out.same k1).c2
  have NO := Lib.hid hno
  clear hno
  by_cases hlt : k < n
  ·obtain ⟨y, hy⟩ : ∃ y, x.v[k]? = some y := ⟨_, List.getElem?_eq_getElem (by rw [EN.out]; exact hlt)⟩
   obtain ⟨A0, c0, eA, hc0, hv⟩ := (H.out.same k1).vers
   obtain ⟨g, eg, a0, a1, a2, a3, a4, a5, a6⟩ := hv k y hy
   cases eA
   subst eg
   have mc := later_cases key at' y
   have kA := fun o => k1.alloc o
   have YV := Lib.hid hy
   obtain ⟨yk, yv, yb, ye, ya, yo, yd⟩ := y
   clear hv hc0 hy
   rcases mc with ⟨mt, h1, rfl, ⟨h3, h4⟩ | ⟨h3, h4, h5⟩ | ⟨h3, h4⟩⟩ | ⟨mf, h1 | ⟨h1, rfl⟩ | ⟨h1, rfl, h3, h4, h5⟩ | ⟨h1, rfl, h3, h4⟩⟩
   iterate 3
    ·have F := Lib.hid (List.any_eq_true.2 ⟨_, List.mem_of_getElem? YV.out, mt⟩)
     go_wp2
     go_ret
     exact ⟨by rw [F.out]; rfl, (kA _)⟩
   all_goals
    have NX := Lib.hid (NO.out.next YV.out mf)
    go_wp2
    first | exact ⟨⟨k + 1, by omega, by go_num, NX.out, (kA _)⟩, by simp [intOf]; omega⟩ | (refine ⟨?rel2, ?meas2⟩; (case meas2 => (simp [intOf]; omega)); (case rel2 => ((repeat apply Exists.intro); exact ⟨⟨k + 1, by omega, by go_num, NX.out, (kA _)⟩, rfl⟩)))
  ·obtain rfl : k = n := by omega
   have F := Lib.hid (show x.v.any (laterV key at') = false by have := NO.out; rw [← EN.out] at this; exact this.any)
   clear hlt hk NO
   go_wp2
   go_ret
   exact ⟨by rw [F.out]; rfl, k1⟩
end
end Go.Proofs.Ytkkjofefjepodaa
/- The document's own Model, third part: a number in a list; whether a key may not be written first; what is seen of a range; whether what was read holds. Conditions: at most 1000 versions, ranges of keys. -/
namespace Go.Proofs.Ytkkjofefjepodaa
open Go.ChangeShapes Go.WideShapes Go.ChangeAt Go.RowKit
set_option linter.unusedVariables false
set_option linter.unusedSimpArgs false

section
variable {w w' : World} {m : Nat} {vv : Value} {sw sr : Nat → Value} {x : MoI} {T : Nat → Prop}
def RH (w : World) (l : List Int) (n : Int) (k : Nat) (i : Value) (wr : World) : Prop := k ≤ l.length ∧ i = .int .i64 k ∧ w = wr ∧ ∀ j, j < k → l.getD j 0 ≠ n
set_option maxRecDepth 100000 in
theorem rhas_any {v : Value} {l : List Int} (o : OwnN 0 w v l) (hl : l.length ≤ 100000) (n : Int) (b : Bool) (hb : decide (n ∈ l) = b) :
    Calls Try.prog 63 #[v, .int .i64 n] w fun e w' => e = .returned (.bool b) ∧ w = w' := by
  obtain ⟨A, c, rfl, hA0, hA1⟩ := OwnN.shapeN o
  obtain ⟨q, eq⟩ : ∃ q, l.length = q := ⟨_, rfl⟩
  have EQ := Lib.hid eq
  have O := Lib.hid o
  have HB := Lib.hid hb
  have HA := Lib.hid hA1
  rw [eq] at hl ⊢
  clear o hb eq hA0 hA1
  go_enter Try.func63, Try.ntmps63
  go_wp2
  go_loopw [5] (fun i wr => ∃ k : Nat, RH w l n k i wr) (fun i _ => q - (intOf i).toNat)
  case atStart => exact ⟨0, Nat.zero_le _, rfl, rfl, fun j hj => absurd hj (Nat.not_lt_zero j)⟩
  case round =>
    obtain ⟨k, hk, rfl, rfl, hno⟩ := hrel
    rw [EQ.out] at hk
    have wk : IntKind.i64.wrap ((k : Int) + 1) = (k : Int) + 1 := IntWalk.i64_in _ (by omega)
    have NO := Lib.hid hno
    clear hno
    by_cases hlt : k < q
    · obtain ⟨g, rfl⟩ : ∃ g, A = some ⟨g, 0, none⟩ := by
        cases A with
        | none =>
          exfalso
          have := O.out
          rcases this.2 with ⟨_, h⟩ | ⟨g, c, cur, hv, _⟩
          · have := EQ.out; omega
          · cases hv
        | some ad => obtain ⟨g, rfl⟩ := HA.out _ rfl; exact ⟨g, rfl⟩
      have ck := OwnN.cell O.out k (by rw [EQ.out]; exact hlt)
      obtain ⟨y, ey⟩ : ∃ y, l.getD k 0 = y := ⟨_, rfl⟩
      rw [ey] at ck
      by_cases hy : y = n
      · have h1 : (y == n) = true := beq_iff_eq.2 hy
        obtain rfl : b = true := by
          rw [← HB.out]
          refine decide_eq_true ?_
          rw [← hy, ← ey, List.getD_eq_getElem?_getD, List.getElem?_eq_getElem (by rw [EQ.out]; exact hlt)]
          exact List.getElem_mem _
        clear hy ey
        go_wp2
        go_ret
        exact ⟨rfl, rfl⟩
      · have h1 : (y == n) = false := beq_eq_false_iff_ne.2 hy
        have NX := Lib.hid (show ∀ j, j < k + 1 → l.getD j 0 ≠ n from fun j hj => by
          by_cases e : j = k
          · subst e; rw [ey]; exact hy
          · exact NO.out j (by omega))
        clear hy ey
        go_wp2
        first | exact ⟨⟨k + 1, by rw [EQ.out]; omega, by go_num, rfl, NX.out⟩, by simp [intOf]; omega⟩ | (refine ⟨?rel2, ?meas2⟩; (case meas2 => (simp [intOf]; omega)); (case rel2 => ((repeat apply Exists.intro); exact ⟨⟨k + 1, by rw [EQ.out]; omega, by go_num, rfl, NX.out⟩, rfl⟩)))
    · obtain rfl : k = q := by omega
      obtain rfl : b = false := by
        rw [← HB.out]
        refine decide_eq_false fun hm => ?_
        obtain ⟨j, hj, e⟩ := List.getElem_of_mem hm
        refine NO.out j (by rw [← EQ.out]; exact hj) ?_
        rw [List.getD_eq_getElem?_getD, List.getElem?_eq_getElem hj]
        exact e
      clear hlt hk
      go_wp2
      go_ret
      exact ⟨rfl, rfl⟩
/-- A session that bars a key. -/
def barS (x : MoI) (id' key : Int) (i : Nat) : Bool := decide ((x.s i).id ≠ 0 ∧ (x.s i).id ≠ id' ∧ key ∈ (x.s i).wrote)
def RTk (x : MoI) (id' key : Int) (W : World) (i : Nat) (iv : Value) (wr : World) : Prop := i ≤ 8 ∧ iv = .int .i64 i ∧ (∀ j, j < i → barS x id' key j = false) ∧ Keep (fun _ => False) W wr
set_option maxRecDepth 100000 in
set_option maxHeartbeats 2000000 in
theorem rtaken_any (h : RmAt w m vv sw sr x) (hl : x.v.length ≤ 100000) (hw : ∀ i, i < 8 → (x.s i).wrote.length ≤ 100000) (t : TxI) (a b : Value) (key : Int) :
  Calls Try.prog 87 #[.pointer (some ⟨m, 0, none⟩), txV t a b, .int .i64 key] w fun e w' => e = .returned (.bool (x.taken t.id t.start key)) ∧ Keep (fun _ => False) w w' := by
 obtain ⟨W, eW, tb, kW⟩ := tx_box w t a b
 have H := Lib.hid (h.same kW)
 have TB := Lib.hid tb
 have EW := Lib.hid eW
 have HW := Lib.hid hw
 obtain ⟨N, eN⟩ : ∃ N, w.heap.size = N := ⟨_, rfl⟩
 obtain ⟨id', level, ops, start, wrote, reads⟩ := t
 clear h tb eW hw
 unfold txV
 go_enter Try.func87, Try.ntmps87
 go_wp2
 go_loopw [7] (fun i wr => ∃ k : Nat, RTk x id' key W k i wr) (fun i _ => 8 - (intOf i).toNat)
 case atStart => exact ⟨0, Nat.zero_le _, rfl, fun j hj => absurd hj (Nat.not_lt_zero j), by rw [← EW.out]; exact Keep.refl _ _⟩
 case round =>
  obtain ⟨k, hk, rfl, hno, k1⟩ := hrel
  have wk : IntKind.i64.wrap ((k : Int) + 1) = (k : Int) + 1 := IntWalk.i64_in _ (by omega)
  obtain ⟨t0, t1, t2, t3, t4, t5⟩ := TB.out.keep k1
  rw [eN] at t0 t1 t2 t3 t4 t5
  have NO := Lib.hid hno
  clear hno
  by_cases hlt : k < 8
  ·have H1 := Lib.hid (H.out.same k1)
   have s0 := H1.out.s0 k hlt
   have s4 := H1.out.s4 k hlt
   have hlt2 : (k : Int) < 8 := by omega
   obtain ⟨sid, es⟩ : ∃ z, (x.s k).id = z := ⟨_, rfl⟩
   rw [es] at s0
   have kd := k1.drew
   have bar : barS x id' key k = decide (sid ≠ 0 ∧ sid ≠ id' ∧ key ∈ (x.s k).wrote) := by unfold barS; rw [es]
   have BAR := Lib.hid bar
   clear bar es t1 t2 t4 t5
   by_cases h1 : sid = 0
   ·have d1 : (sid != 0) = false := by rw [h1]; rfl
    have NX := Lib.hid (show ∀ j, j < k + 1 → barS x id' key j = false from fun j hj => by
     by_cases e : j = k
     ·subst e; rw [BAR.out]; exact decide_eq_false (fun q => q.1 h1)
     ·exact NO.out j (by omega))
    clear h1
    go_wp2_with fail
    refine wp_region_held_drew (S := fun w' => w'.cell? ⟨m, 3 + k * 6, none⟩ = some (.int .i64 sid)) (by kernel_rfl) s0 (fun hHeld => ?_)
    refine tk 0 (v := ?qvu59) ?qyu59 ?qru59; case qyu59 => ((intro w hSw; (try dsimp only at hSw); go_simp); try (with_reducible rfl))
    (try simp only [tA, tS, tZ, Act.put, uA, uS, uZ])
    refine tk 1 (v := ?qvu60) ?qyu60 ?qru60; case qyu60 => ((intro w hSw; (try dsimp only at hSw); go_simp); try (with_reducible rfl))
    (try simp only [tA, tS, tZ, Act.put, uA, uS, uZ])
    refine tk 2 (v := ?qvu61) ?qyu61 ?qru61; case qyu61 => ((intro w hSw; (try dsimp only at hSw); go_simp); try (with_reducible rfl))
    (try simp only [tA, tS, tZ, Act.put, uA, uS, uZ])
    refine tk 3 (v := ?qvu62) ?qyu62 ?qru62; case qyu62 => ((intro w hSw; (try dsimp only at hSw); go_simp); try (with_reducible rfl))
    (try simp only [tA, tS, tZ, Act.put, uA, uS, uZ])
    refine tk 4 (v := ?qvu63) ?qyu63 ?qru63; case qyu63 => ((intro w hSw; (try dsimp only at hSw); go_simp); try (with_reducible rfl))
    (try simp only [tA, tS, tZ, Act.put, uA, uS, uZ])
    refine tk 5 (v := ?qvu64) ?qyu64 ?qru64; case qyu64 => ((intro w hSw; (try dsimp only at hSw); go_simp); try (with_reducible rfl))
    (try simp only [tA, tS, tZ, Act.put, uA, uS, uZ])
    refine tk 6 (v := ?qvu65) ?qyu65 ?qru65; case qyu65 => ((intro w hSw; (try dsimp only at hSw); go_simp); try (with_reducible rfl))
    (try simp only [tA, tS, tZ, Act.put, uA, uS, uZ])
    refine tk 7 (v := ?qvu66) ?qyu66 ?qru66; case qyu66 => ((intro w hSw; (try dsimp only at hSw); go_simp); try (with_reducible rfl))
    (try simp only [tA, tS, tZ, Act.put, uA, uS, uZ])
    refine tk 8 (v := ?qvu67) ?qyu67 ?qru67; case qyu67 => ((intro w hSw; (try dsimp only at hSw); go_simp); try (with_reducible rfl))
    (try simp only [tA, tS, tZ, Act.put, uA, uS, uZ])
    refine wpAnyH_take (i := 9) (v := undef) rfl (by kernel_rfl) (by kernel_rfl) (by kernel_rfl) (fun _ _ _ h => h) (Or.inr ⟨by rfl, rfl⟩) (by assumption) ?qru68
    (try simp only [tA, tS, tZ, Act.put, uA, uS, uZ])
    refine wpAnyH_take (i := 10) (v := undef) rfl (by kernel_rfl) (by kernel_rfl) (by kernel_rfl) (fun _ _ _ h => h) (Or.inr ⟨by rfl, rfl⟩) (by assumption) ?qru69
    (try simp only [tA, tS, tZ, Act.put, uA, uS, uZ])
    refine wpAnyH_take (i := 11) (v := undef) rfl (by kernel_rfl) (by kernel_rfl) (by kernel_rfl) (fun _ _ _ h => h) (Or.inr ⟨by rfl, rfl⟩) (by assumption) ?qru70
    (try simp only [tA, tS, tZ, Act.put, uA, uS, uZ])
    refine wpAnyH_take (i := 12) (v := undef) rfl (by kernel_rfl) (by kernel_rfl) (by kernel_rfl) (fun _ _ _ h => h) (Or.inr ⟨by rfl, rfl⟩) (by assumption) ?qru71
    (try simp only [tA, tS, tZ, Act.put, uA, uS, uZ])
    refine wpAnyH_take (i := 13) (v := undef) rfl (by kernel_rfl) (by kernel_rfl) (by kernel_rfl) (fun _ _ _ h => h) (Or.inr ⟨by rfl, rfl⟩) (by assumption) ?qru72
    (try simp only [tA, tS, tZ, Act.put, uA, uS, uZ])
    refine wpAnyH_take (i := 14) (v := undef) rfl (by kernel_rfl) (by kernel_rfl) (by kernel_rfl) (fun _ _ _ h => h) (Or.inr ⟨by rfl, rfl⟩) (by assumption) ?qru73
    (try simp only [tA, tS, tZ, Act.put, uA, uS, uZ])
    refine wpAnyH_take (i := 15) (v := undef) rfl (by kernel_rfl) (by kernel_rfl) (by kernel_rfl) (fun _ _ _ h => h) (Or.inr ⟨by rfl, rfl⟩) (by assumption) ?qru74
    (try simp only [tA, tS, tZ, Act.put, uA, uS, uZ])
    refine wpAnyH_take (i := 16) (v := undef) rfl (by kernel_rfl) (by kernel_rfl) (by kernel_rfl) (fun _ _ _ h => h) (Or.inr ⟨by rfl, rfl⟩) (by assumption) ?qru75
    (try simp only [tA, tS, tZ, Act.put, uA, uS, uZ])
    refine wpAnyH_take (i := 17) (v := undef) rfl (by kernel_rfl) (by kernel_rfl) (by kernel_rfl) (fun _ _ _ h => h) (Or.inr ⟨by rfl, rfl⟩) (by assumption) ?qru76
    (try simp only [tA, tS, tZ, Act.put, uA, uS, uZ])
    refine wpAnyH_take (i := 18) (v := undef) rfl (by kernel_rfl) (by kernel_rfl) (by kernel_rfl) (fun _ _ _ h => h) (Or.inr ⟨by rfl, rfl⟩) (by assumption) ?qru77
    (try simp only [tA, tS, tZ, Act.put, uA, uS, uZ])
    refine tk 19 (v := ?qvu78) ?qyu78 ?qru78; case qyu78 => ((intro w hSw; (try dsimp only at hSw); go_simp); try (with_reducible rfl))
    (try simp only [tA, tS, tZ, Act.put, uA, uS, uZ])
    refine tk 20 (v := ?qvu79) ?qyu79 ?qru79; case qyu79 => ((intro w hSw; (try dsimp only at hSw); go_simp); try (with_reducible rfl))
    (try simp only [tA, tS, tZ, Act.put, uA, uS, uZ])
    refine wpAnyH_take (i := 21) (v := undef) rfl (by kernel_rfl) (by kernel_rfl) (by kernel_rfl) (fun _ _ _ h => h) (Or.inr ⟨by rfl, rfl⟩) (by assumption) ?qru80
    (try simp only [tA, tS, tZ, Act.put, uA, uS, uZ])
    refine wpAnyH_take (i := 22) (v := undef) rfl (by kernel_rfl) (by kernel_rfl) (by kernel_rfl) (fun _ _ _ h => h) (Or.inr ⟨by rfl, rfl⟩) (by assumption) ?qru81
    (try simp only [tA, tS, tZ, Act.put, uA, uS, uZ])
    refine wpAnyH_take (i := 23) (v := undef) rfl (by kernel_rfl) (by kernel_rfl) (by kernel_rfl) (fun _ _ _ h => h) (Or.inr ⟨by rfl, rfl⟩) (by assumption) ?qru82
    (try simp only [tA, tS, tZ, Act.put, uA, uS, uZ])
    refine wpAnyH_take (i := 24) (v := undef) rfl (by kernel_rfl) (by kernel_rfl) (by kernel_rfl) (fun _ _ _ h => h) (Or.inr ⟨by rfl, rfl⟩) (by assumption) ?qru83
    (try simp only [tA, tS, tZ, Act.put, uA, uS, uZ])
    refine wpAnyH_take (i := 25) (v := undef) rfl (by kernel_rfl) (by kernel_rfl) (by kernel_rfl) (fun _ _ _ h => h) (Or.inr ⟨by rfl, rfl⟩) (by assumption) ?qru84
    (try simp only [tA, tS, tZ, Act.put, uA, uS, uZ])
    refine wpAnyH_take (i := 26) (v := undef) rfl (by kernel_rfl) (by kernel_rfl) (by kernel_rfl) (fun _ _ _ h => h) (Or.inr ⟨by rfl, rfl⟩) (by assumption) ?qru85
    (try simp only [tA, tS, tZ, Act.put, uA, uS, uZ])
    refine wpAnyH_take (i := 27) (v := undef) rfl (by kernel_rfl) (by kernel_rfl) (by kernel_rfl) (fun _ _ _ h => h) (Or.inr ⟨by rfl, rfl⟩) (by assumption) ?qru86
    (try simp only [tA, tS, tZ, Act.put, uA, uS, uZ])
    refine wpAnyH_take (i := 28) (v := undef) rfl (by kernel_rfl) (by kernel_rfl) (by kernel_rfl) (fun _ _ _ h => h) (Or.inr ⟨by rfl, rfl⟩) (by assumption) ?qru87
    (try simp only [tA, tS, tZ, Act.put, uA, uS, uZ])
    refine wpAnyH_take (i := 29) (v := undef) rfl (by kernel_rfl) (by kernel_rfl) (by kernel_rfl) (fun _ _ _ h => h) (Or.inr ⟨by rfl, rfl⟩) (by assumption) ?qru88
    (try simp only [tA, tS, tZ, Act.put, uA, uS, uZ])
    refine tk 30 (v := ?qvu89) ?qyu89 ?qru89; case qyu89 => ((intro w hSw; (try dsimp only at hSw); go_simp); try (with_reducible rfl))
    (try simp only [tA, tS, tZ, Act.put, uA, uS, uZ])
    refine wpAnyH_done (by kernel_rfl) ?_ _
    go_wp2
    first | exact ⟨⟨k + 1, by omega, by go_num, NX.out, kd⟩, by simp [intOf]; omega⟩ | (refine ⟨?rel2, ?meas2⟩; (case meas2 => (simp [intOf]; omega)); (case rel2 => ((repeat apply Exists.intro); exact ⟨⟨k + 1, by omega, by go_num, NX.out, kd⟩, rfl⟩)))
   ·have d1 : (sid != 0) = true := by simpa using h1
    by_cases h2 : sid = id'
    ·have d2 : (sid != id') = false := by rw [h2]; simp
     have NX := Lib.hid (show ∀ j, j < k + 1 → barS x id' key j = false from fun j hj => by
      by_cases e : j = k
      ·subst e; rw [BAR.out]; exact decide_eq_false (fun q => q.2.1 h2)
      ·exact NO.out j (by omega))
     clear h1 h2
     go_wp2_with fail
     refine wp_region_held_drew (S := fun w' => w'.cell? ⟨m, 3 + k * 6, none⟩ = some (.int .i64 sid) ∧ w'.cell? ⟨N, 0, none⟩ = some (.int .i64 id')) (by kernel_rfl) ⟨s0, t0⟩ (fun hHeld => ?_)
     refine tk 0 (v := ?qvu90) ?qyu90 ?qru90; case qyu90 => ((intro w hSw; (try dsimp only at hSw); go_simp); try (with_reducible rfl))
     (try simp only [tA, tS, tZ, Act.put, uA, uS, uZ])
     refine tk 1 (v := ?qvu91) ?qyu91 ?qru91; case qyu91 => ((intro w hSw; (try dsimp only at hSw); go_simp); try (with_reducible rfl))
     (try simp only [tA, tS, tZ, Act.put, uA, uS, uZ])
     refine tk 2 (v := ?qvu92) ?qyu92 ?qru92; case qyu92 => ((intro w hSw; (try dsimp only at hSw); go_simp); try (with_reducible rfl))
     (try simp only [tA, tS, tZ, Act.put, uA, uS, uZ])
     refine tk 3 (v := ?qvu93) ?qyu93 ?qru93; case qyu93 => ((intro w hSw; (try dsimp only at hSw); go_simp); try (with_reducible rfl))
     (try simp only [tA, tS, tZ, Act.put, uA, uS, uZ])
     refine tk 4 (v := ?qvu94) ?qyu94 ?qru94; case qyu94 => ((intro w hSw; (try dsimp only at hSw); go_simp); try (with_reducible rfl))
     (try simp only [tA, tS, tZ, Act.put, uA, uS, uZ])
     refine tk 5 (v := ?qvu95) ?qyu95 ?qru95; case qyu95 => ((intro w hSw; (try dsimp only at hSw); go_simp); try (with_reducible rfl))
     (try simp only [tA, tS, tZ, Act.put, uA, uS, uZ])
     refine tk 6 (v := ?qvu96) ?qyu96 ?qru96; case qyu96 => ((intro w hSw; (try dsimp only at hSw); go_simp); try (with_reducible rfl))
     (try simp only [tA, tS, tZ, Act.put, uA, uS, uZ])
     refine tk 7 (v := ?qvu97) ?qyu97 ?qru97; case qyu97 => ((intro w hSw; (try dsimp only at hSw); go_simp); try (with_reducible rfl))
     (try simp only [tA, tS, tZ, Act.put, uA, uS, uZ])
     refine tk 8 (v := ?qvu98) ?qyu98 ?qru98; case qyu98 => ((intro w hSw; (try dsimp only at hSw); go_simp); try (with_reducible rfl))
     (try simp only [tA, tS, tZ, Act.put, uA, uS, uZ])
     refine tk 9 (v := ?qvu99) ?qyu99 ?qru99; case qyu99 => ((intro w hSw; (try dsimp only at hSw); go_simp); try (with_reducible rfl))
     (try simp only [tA, tS, tZ, Act.put, uA, uS, uZ])
     refine tk 10 (v := ?qvu100) ?qyu100 ?qru100; case qyu100 => ((intro w hSw; (try dsimp only at hSw); go_simp); try (with_reducible rfl))
     (try simp only [tA, tS, tZ, Act.put, uA, uS, uZ])
     refine tk 11 (v := ?qvu101) ?qyu101 ?qru101; case qyu101 => ((intro w hSw; (try dsimp only at hSw); go_simp); try (with_reducible rfl))
     (try simp only [tA, tS, tZ, Act.put, uA, uS, uZ])
     refine tk 12 (v := ?qvu102) ?qyu102 ?qru102; case qyu102 => ((intro w hSw; (try dsimp only at hSw); go_simp); try (with_reducible rfl))
     (try simp only [tA, tS, tZ, Act.put, uA, uS, uZ])
     refine tk 13 (v := ?qvu103) ?qyu103 ?qru103; case qyu103 => ((intro w hSw; (try dsimp only at hSw); go_simp); try (with_reducible rfl))
     (try simp only [tA, tS, tZ, Act.put, uA, uS, uZ])
     refine tk 14 (v := ?qvu104) ?qyu104 ?qru104; case qyu104 => ((intro w hSw; (try dsimp only at hSw); go_simp); try (with_reducible rfl))
     (try simp only [tA, tS, tZ, Act.put, uA, uS, uZ])
     refine tk 15 (v := ?qvu105) ?qyu105 ?qru105; case qyu105 => ((intro w hSw; (try dsimp only at hSw); go_simp); try (with_reducible rfl))
     (try simp only [tA, tS, tZ, Act.put, uA, uS, uZ])
     refine tk 16 (v := ?qvu106) ?qyu106 ?qru106; case qyu106 => ((intro w hSw; (try dsimp only at hSw); go_simp); try (with_reducible rfl))
     (try simp only [tA, tS, tZ, Act.put, uA, uS, uZ])
     refine tk 17 (v := ?qvu107) ?qyu107 ?qru107; case qyu107 => ((intro w hSw; (try dsimp only at hSw); go_simp); try (with_reducible rfl))
     (try simp only [tA, tS, tZ, Act.put, uA, uS, uZ])
     refine tk 18 (v := ?qvu108) ?qyu108 ?qru108; case qyu108 => ((intro w hSw; (try dsimp only at hSw); go_simp); try (with_reducible rfl))
     (try simp only [tA, tS, tZ, Act.put, uA, uS, uZ])
     refine tk 19 (v := ?qvu109) ?qyu109 ?qru109; case qyu109 => ((intro w hSw; (try dsimp only at hSw); go_simp); try (with_reducible rfl))
     (try simp only [tA, tS, tZ, Act.put, uA, uS, uZ])
     refine tk 20 (v := ?qvu110) ?qyu110 ?qru110; case qyu110 => ((intro w hSw; (try dsimp only at hSw); go_simp); try (with_reducible rfl))
     (try simp only [tA, tS, tZ, Act.put, uA, uS, uZ])
     refine wpAnyH_take (i := 21) (v := undef) rfl (by kernel_rfl) (by kernel_rfl) (by kernel_rfl) (fun _ _ _ h => h) (Or.inr ⟨by rfl, rfl⟩) (by assumption) ?qru111
     (try simp only [tA, tS, tZ, Act.put, uA, uS, uZ])
     refine wpAnyH_take (i := 22) (v := undef) rfl (by kernel_rfl) (by kernel_rfl) (by kernel_rfl) (fun _ _ _ h => h) (Or.inr ⟨by rfl, rfl⟩) (by assumption) ?qru112
     (try simp only [tA, tS, tZ, Act.put, uA, uS, uZ])
     refine wpAnyH_take (i := 23) (v := undef) rfl (by kernel_rfl) (by kernel_rfl) (by kernel_rfl) (fun _ _ _ h => h) (Or.inr ⟨by rfl, rfl⟩) (by assumption) ?qru113
     (try simp only [tA, tS, tZ, Act.put, uA, uS, uZ])
     refine wpAnyH_take (i := 24) (v := undef) rfl (by kernel_rfl) (by kernel_rfl) (by kernel_rfl) (fun _ _ _ h => h) (Or.inr ⟨by rfl, rfl⟩) (by assumption) ?qru114
     (try simp only [tA, tS, tZ, Act.put, uA, uS, uZ])
     refine wpAnyH_take (i := 25) (v := undef) rfl (by kernel_rfl) (by kernel_rfl) (by kernel_rfl) (fun _ _ _ h => h) (Or.inr ⟨by rfl, rfl⟩) (by assumption) ?qru115
     (try simp only [tA, tS, tZ, Act.put, uA, uS, uZ])
     refine wpAnyH_take (i := 26) (v := undef) rfl (by kernel_rfl) (by kernel_rfl) (by kernel_rfl) (fun _ _ _ h => h) (Or.inr ⟨by rfl, rfl⟩) (by assumption) ?qru116
     (try simp only [tA, tS, tZ, Act.put, uA, uS, uZ])
     refine wpAnyH_take (i := 27) (v := undef) rfl (by kernel_rfl) (by kernel_rfl) (by kernel_rfl) (fun _ _ _ h => h) (Or.inr ⟨by rfl, rfl⟩) (by assumption) ?qru117
     (try simp only [tA, tS, tZ, Act.put, uA, uS, uZ])
     refine wpAnyH_take (i := 28) (v := undef) rfl (by kernel_rfl) (by kernel_rfl) (by kernel_rfl) (fun _ _ _ h => h) (Or.inr ⟨by rfl, rfl⟩) (by assumption) ?qru118
     (try simp only [tA, tS, tZ, Act.put, uA, uS, uZ])
     refine wpAnyH_take (i := 29) (v := undef) rfl (by kernel_rfl) (by kernel_rfl) (by kernel_rfl) (fun _ _ _ h => h) (Or.inr ⟨by rfl, rfl⟩) (by assumption) ?qru119
     (try simp only [tA, tS, tZ, Act.put, uA, uS, uZ])
     refine tk 30 (v := ?qvu120) ?qyu120 ?qru120; case qyu120 => ((intro w hSw; (try dsimp only at hSw); go_simp); try (with_reducible rfl))
     (try simp only [tA, tS, tZ, Act.put, uA, uS, uZ])
     refine wpAnyH_done (by kernel_rfl) ?_ _
     go_wp2
     first | exact ⟨⟨k + 1, by omega, by go_num, NX.out, kd⟩, by simp [intOf]; omega⟩ | (refine ⟨?rel2, ?meas2⟩; (case meas2 => (simp [intOf]; omega)); (case rel2 => ((repeat apply Exists.intro); exact ⟨⟨k + 1, by omega, by go_num, NX.out, kd⟩, rfl⟩)))
    ·have d2 : (sid != id') = true := by simpa using h2
     obtain ⟨r, er⟩ : ∃ r, decide (key ∈ (x.s k).wrote) = r := ⟨_, rfl⟩
     have br : barS x id' key k = r := by rw [BAR.out, ← er]; simp [h1, h2]
     have ER := Lib.hid er
     obtain ⟨A5, c5, e5, _, _⟩ := OwnN.shapeN (H1.out.ow k hlt)
     rw [e5] at s4
     have hh := rhas_any (OwnN.keep (H1.out.ow k hlt) (Keep.refl (fun _ => False) wr).drew (by simp)) (HW.out k hlt) key r er
     rw [e5] at hh
     have HH := Lib.hid hh
     clear h1 h2 er hh e5
     go_wp2_with fail
     refine wp_region_held_drew (S := fun w' => w'.cell? ⟨m, 3 + k * 6, none⟩ = some (.int .i64 sid) ∧ w'.cell? ⟨N, 0, none⟩ = some (.int .i64 id') ∧ w'.cell? ⟨m, 3 + k * 6 + 4, none⟩ = some (.slice A5 (x.s k).wrote.length c5)) (by kernel_rfl) ⟨s0, t0, s4⟩ (fun hHeld => ?_)
     refine tk 0 (v := ?qvu121) ?qyu121 ?qru121; case qyu121 => ((intro w hSw; (try dsimp only at hSw); go_simp); try (with_reducible rfl))
     (try simp only [tA, tS, tZ, Act.put, uA, uS, uZ])
     refine tk 1 (v := ?qvu122) ?qyu122 ?qru122; case qyu122 => ((intro w hSw; (try dsimp only at hSw); go_simp); try (with_reducible rfl))
     (try simp only [tA, tS, tZ, Act.put, uA, uS, uZ])
     refine tk 2 (v := ?qvu123) ?qyu123 ?qru123; case qyu123 => ((intro w hSw; (try dsimp only at hSw); go_simp); try (with_reducible rfl))
     (try simp only [tA, tS, tZ, Act.put, uA, uS, uZ])
     refine tk 3 (v := ?qvu124) ?qyu124 ?qru124; case qyu124 => ((intro w hSw; (try dsimp only at hSw); go_simp); try (with_reducible rfl))
     (try simp only [tA, tS, tZ, Act.put, uA, uS, uZ])
     refine tk 4 (v := ?qvu125) ?qyu125 ?qru125; case qyu125 => ((intro w hSw; (try dsimp only at hSw); go_simp); try (with_reducible rfl))
     (try simp only [tA, tS, tZ, Act.put, uA, uS, uZ])
     refine tk 5 (v := ?qvu126) ?qyu126 ?qru126; case qyu126 => ((intro w hSw; (try dsimp only at hSw); go_simp); try (with_reducible rfl))
     (try simp only [tA, tS, tZ, Act.put, uA, uS, uZ])
     refine tk 6 (v := ?qvu127) ?qyu127 ?qru127; case qyu127 => ((intro w hSw; (try dsimp only at hSw); go_simp); try (with_reducible rfl))
     (try simp only [tA, tS, tZ, Act.put, uA, uS, uZ])
     refine tk 7 (v := ?qvu128) ?qyu128 ?qru128; case qyu128 => ((intro w hSw; (try dsimp only at hSw); go_simp); try (with_reducible rfl))
     (try simp only [tA, tS, tZ, Act.put, uA, uS, uZ])
     refine tk 8 (v := ?qvu129) ?qyu129 ?qru129; case qyu129 => ((intro w hSw; (try dsimp only at hSw); go_simp); try (with_reducible rfl))
     (try simp only [tA, tS, tZ, Act.put, uA, uS, uZ])
     refine tk 9 (v := ?qvu130) ?qyu130 ?qru130; case qyu130 => ((intro w hSw; (try dsimp only at hSw); go_simp); try (with_reducible rfl))
     (try simp only [tA, tS, tZ, Act.put, uA, uS, uZ])
     refine tk 10 (v := ?qvu131) ?qyu131 ?qru131; case qyu131 => ((intro w hSw; (try dsimp only at hSw); go_simp); try (with_reducible rfl))
     (try simp only [tA, tS, tZ, Act.put, uA, uS, uZ])
     refine tk 11 (v := ?qvu132) ?qyu132 ?qru132; case qyu132 => ((intro w hSw; (try dsimp only at hSw); go_simp); try (with_reducible rfl))
     (try simp only [tA, tS, tZ, Act.put, uA, uS, uZ])
     refine tk 12 (v := ?qvu133) ?qyu133 ?qru133; case qyu133 => ((intro w hSw; (try dsimp only at hSw); go_simp); try (with_reducible rfl))
     (try simp only [tA, tS, tZ, Act.put, uA, uS, uZ])
     refine tk 13 (v := ?qvu134) ?qyu134 ?qru134; case qyu134 => ((intro w hSw; (try dsimp only at hSw); go_simp); try (with_reducible rfl))
     (try simp only [tA, tS, tZ, Act.put, uA, uS, uZ])
     refine tk 14 (v := ?qvu135) ?qyu135 ?qru135; case qyu135 => ((intro w hSw; (try dsimp only at hSw); go_simp); try (with_reducible rfl))
     (try simp only [tA, tS, tZ, Act.put, uA, uS, uZ])
     refine tk 15 (v := ?qvu136) ?qyu136 ?qru136; case qyu136 => ((intro w hSw; (try dsimp only at hSw); go_simp); try (with_reducible rfl))
     (try simp only [tA, tS, tZ, Act.put, uA, uS, uZ])
     refine tk 16 (v := ?qvu137) ?qyu137 ?qru137; case qyu137 => ((intro w hSw; (try dsimp only at hSw); go_simp); try (with_reducible rfl))
     (try simp only [tA, tS, tZ, Act.put, uA, uS, uZ])
     refine tk 17 (v := ?qvu138) ?qyu138 ?qru138; case qyu138 => ((intro w hSw; (try dsimp only at hSw); go_simp); try (with_reducible rfl))
     (try simp only [tA, tS, tZ, Act.put, uA, uS, uZ])
     refine tk 18 (v := ?qvu139) ?qyu139 ?qru139; case qyu139 => ((intro w hSw; (try dsimp only at hSw); go_simp); try (with_reducible rfl))
     (try simp only [tA, tS, tZ, Act.put, uA, uS, uZ])
     refine tk 19 (v := ?qvu140) ?qyu140 ?qru140; case qyu140 => ((intro w hSw; (try dsimp only at hSw); go_simp); try (with_reducible rfl))
     (try simp only [tA, tS, tZ, Act.put, uA, uS, uZ])
     refine tk 20 (v := ?qvu141) ?qyu141 ?qru141; case qyu141 => ((intro w hSw; (try dsimp only at hSw); go_simp); try (with_reducible rfl))
     (try simp only [tA, tS, tZ, Act.put, uA, uS, uZ])
     refine tk 21 (v := ?qvu142) ?qyu142 ?qru142; case qyu142 => ((intro w hSw; (try dsimp only at hSw); go_simp); try (with_reducible rfl))
     (try simp only [tA, tS, tZ, Act.put, uA, uS, uZ])
     refine tk 22 (v := ?qvu143) ?qyu143 ?qru143; case qyu143 => ((intro w hSw; (try dsimp only at hSw); go_simp); try (with_reducible rfl))
     (try simp only [tA, tS, tZ, Act.put, uA, uS, uZ])
     refine tk 23 (v := ?qvu144) ?qyu144 ?qru144; case qyu144 => ((intro w hSw; (try dsimp only at hSw); go_simp); try (with_reducible rfl))
     (try simp only [tA, tS, tZ, Act.put, uA, uS, uZ])
     refine tk 24 (v := ?qvu145) ?qyu145 ?qru145; case qyu145 => ((intro w hSw; (try dsimp only at hSw); go_simp); try (with_reducible rfl))
     (try simp only [tA, tS, tZ, Act.put, uA, uS, uZ])
     refine tk 25 (v := ?qvu146) ?qyu146 ?qru146; case qyu146 => ((intro w hSw; (try dsimp only at hSw); go_simp); try (with_reducible rfl))
     (try simp only [tA, tS, tZ, Act.put, uA, uS, uZ])
     refine tk 26 (v := ?qvu147) ?qyu147 ?qru147; case qyu147 => ((intro w hSw; (try dsimp only at hSw); go_simp); try (with_reducible rfl))
     (try simp only [tA, tS, tZ, Act.put, uA, uS, uZ])
     refine tk 27 (v := ?qvu148) ?qyu148 ?qru148; case qyu148 => ((intro w hSw; (try dsimp only at hSw); go_simp); try (with_reducible rfl))
     (try simp only [tA, tS, tZ, Act.put, uA, uS, uZ])
     refine tk 28 (v := ?qvu149) ?qyu149 ?qru149; case qyu149 => ((intro w hSw; (try dsimp only at hSw); go_simp); try (with_reducible rfl))
     (try simp only [tA, tS, tZ, Act.put, uA, uS, uZ])
     refine wpAnyH_ready (rs := [29]) (by kernel_rfl) (by simp) ?_
     refine AllReadyH.cons rfl (fun K hK => ?_) AllReadyH.nil
     go_simp
     refine HH.out.mono ?_
     rintro e w2 ⟨rfl, rfl⟩
     refine hK.out _ _ hHeld (fun hHeld => ?_)
     clear hK K
     (try simp only [tA, tS, tZ, Act.put, uA, uS, uZ])
     refine tk 30 (v := ?qvu150) ?qyu150 ?qru150; case qyu150 => ((intro w hSw; (try dsimp only at hSw); go_simp); try (with_reducible rfl))
     (try simp only [tA, tS, tZ, Act.put, uA, uS, uZ])
     refine wpAnyH_done (by kernel_rfl) ?_ _
     cases r
     ·have NX := Lib.hid (show ∀ j, j < k + 1 → barS x id' key j = false from fun j hj => by
       by_cases e : j = k
       ·subst e; exact br
       ·exact NO.out j (by omega))
      go_wp2
      first | exact ⟨⟨k + 1, by omega, by go_num, NX.out, kd⟩, by simp [intOf]; omega⟩ | (refine ⟨?rel2, ?meas2⟩; (case meas2 => (simp [intOf]; omega)); (case rel2 => ((repeat apply Exists.intro); exact ⟨⟨k + 1, by omega, by go_num, NX.out, kd⟩, rfl⟩)))
     ·have F := Lib.hid (show x.taken id' start key = true by
       unfold MoI.taken
       rw [Bool.or_eq_true]
       exact .inl (List.any_eq_true.2 ⟨k, List.mem_range.2 hlt, br⟩))
      go_wp2
      go_ret
      exact ⟨by rw [F.out]; rfl, kW.trans kd⟩
  ·obtain rfl : k = 8 := by omega
   have F := Lib.hid (show x.taken id' start key = x.v.any (laterV key start) by
    unfold MoI.taken
    rw [show ((List.range 8).any fun i => decide ((x.s i).id ≠ 0 ∧ (x.s i).id ≠ id' ∧ key ∈ (x.s i).wrote)) = false from List.any_eq_false.2 (fun j hj => by have := NO.out j (List.mem_range.1 hj); unfold barS at this; rw [this]; simp)]
    rw [Bool.false_or])
   have hL := rlater_any (H.out.same k1) hl key start
   obtain ⟨r, er⟩ : ∃ r, x.v.any (laterV key start) = r := ⟨_, rfl⟩
   rw [er] at hL F
   clear er hlt hk
   go_wp2_with fail
   refine hL.mono ?_
   rintro e w2 ⟨rfl, k2⟩
   go_wp2
   go_ret
   exact ⟨by rw [F.out]; rfl, (kW.trans k1).trans k2⟩
theorem keys_add (lo : Int) : ∀ a b : Nat, keysI lo (a + b) = keysI lo a ++ keysI (lo + a) b
 | 0, b => by simp [keysI]
 | a + 1, b => by
  rw [show a + 1 + b = (a + b) + 1 by omega]
  show lo :: keysI (lo + 1) (a + b) = lo :: (keysI (lo + 1) a ++ _)
  rw [keys_add (lo + 1) a b]
  congr 3
  omega
theorem keys_next (lo : Int) (a : Nat) : keysI lo (a + 1) = keysI lo a ++ [lo + a] := keys_add lo a 1
theorem keys_len (lo : Int) : ∀ a : Nat, (keysI lo a).length = a
 | 0 => rfl
 | a + 1 => by show (keysI (lo + 1) a).length + 1 = a + 1; rw [keys_len]
theorem pair_le (v : List VrI) (id' at' key : Int) : (pairI v id' at' key).length ≤ 1 := by unfold pairI; split <;> simp
theorem pairs_le (v : List VrI) (id' at' : Int) : ∀ l : List Int, (l.flatMap (pairI v id' at')).length ≤ l.length
 | [] => Nat.le_refl _
 | k :: l => by
  rw [List.flatMap_cons, List.length_append, List.length_cons]
  have := pair_le v id' at' k
  have := pairs_le v id' at' l
  omega
theorem sees_lt {v : List VrI} {id' at' key : Int} {i : Nat} (h : seesI v id' at' key = some i) : i < v.length := by
 unfold seesI at h
 split at h
 ·rename_i j e
  cases h
  exact (List.findIdx?_eq_some_iff_getElem.1 e).1
 ·exact (List.findIdx?_eq_some_iff_getElem.1 h).1
def RSc (x : MoI) (id' at' lo : Int) (n : Nat) (W : World) (j : Nat) (o i : Value) (wr : World) : Prop := j ≤ n ∧ i = .int .i64 (lo + j) ∧ OwnPr wr o ((keysI lo j).flatMap (pairI x.v id' at')) ∧ (∀ g, o.ownBlock = some g → W.heap.size ≤ g) ∧ Keep (fun _ => False) W wr
set_option maxRecDepth 100000 in
set_option maxHeartbeats 2000000 in
theorem rscan_any (h : RmAt w m vv sw sr x) (hl : x.v.length ≤ 100000) (t : TxI) (a b : Value) (lo hi : Int) (l0 : 0 ≤ lo) (l1 : lo ≤ hi) (l2 : hi ≤ 63) :
    Calls Try.prog 64 #[.pointer (some ⟨m, 0, none⟩), txV t a b, .int .i64 lo, .int .i64 hi] w (ToldPr w (scanI x.v t.id t.start lo hi)) := by
  obtain ⟨W, eW, tb, kW⟩ := tx_box w t a b
  have H := Lib.hid (h.same kW)
  have TB := Lib.hid tb
  have EW := Lib.hid eW
  obtain ⟨N, eN⟩ : ∃ N, w.heap.size = N := ⟨_, rfl⟩
  have ES := Lib.hid eN
  obtain ⟨n, en⟩ : ∃ n : Nat, hi + 1 - lo = (n : Int) := ⟨(hi + 1 - lo).toNat, by omega⟩
  have fin : scanI x.v t.id t.start lo hi = (keysI lo n).flatMap (pairI x.v t.id t.start) := by unfold scanI; rw [en]; rfl
  rw [fin]
  clear fin
  have HT := Lib.hid (fun w (h : RmAt w m vv sw sr x) key => rsees_any h hl t a b key)
  obtain ⟨id', level, ops, start, wrote, reads⟩ := t
  have lk : ∀ j, ((keysI lo j).flatMap (pairI x.v id' start)).length ≤ j := fun j => by have := pairs_le x.v id' start (keysI lo j); rw [keys_len] at this; exact this
  have LK := Lib.hid lk
  clear h tb eW lk
  unfold txV at HT ⊢
  go_enter Try.func64, Try.ntmps64
  go_wp2
  go_loopw [9, 10, 11] (fun o i _ wr => ∃ j : Nat, RSc x id' start lo n W j o i wr) (fun _ i _ _ => n - (intOf i - lo).toNat)
  case atStart => exact ⟨0, Nat.zero_le _, by simp, OwnM.nil, by simp [Value.ownBlock], by rw [← EW.out]; exact Keep.refl _ _⟩
  case round =>
    obtain ⟨j, hj, rfl, oo, og, k1⟩ := hrel
    have wk : IntKind.i64.wrap (lo + (j : Int) + 1) = lo + ((j + 1 : Nat) : Int) := (IntWalk.i64_in _ (by omega)).trans (by omega)
    obtain ⟨t0, t1, t2, t3, t4, t5⟩ := TB.out.keep k1
    rw [eN] at t0 t1 t2 t3 t4 t5
    obtain ⟨key, ek⟩ : ∃ key, lo + (j : Int) = key := ⟨_, rfl⟩
    rw [ek] at wk ⊢
    have m1 : key - lo ≤ (j : Int) := by omega
    have m2 : (j : Int) ≤ key - lo := by omega
    by_cases hlt : j < n
    · have d1 : key ≤ hi := by omega
      have d2 : decide (key ≤ hi) = true := decide_eq_true d1
      have knx : keysI lo (j + 1) = keysI lo j ++ [key] := by rw [keys_next, ek]
      have nx : (keysI lo (j + 1)).flatMap (pairI x.v id' start) = (keysI lo j).flatMap (pairI x.v id' start) ++ pairI x.v id' start key := by rw [knx, List.flatMap_append]; simp
      have NX := Lib.hid nx
      have hs := HT.out wr (H.out.same k1) key
      cases es : seesI x.v id' start key with
      | none =>
        rw [es] at hs
        have pe : pairI x.v id' start key = [] := by unfold pairI; rw [es]
        have NX2 := Lib.hid (show (keysI lo (j + 1)).flatMap (pairI x.v id' start) = (keysI lo j).flatMap (pairI x.v id' start) by rw [NX.out, pe, List.append_nil])
        have hs : Calls _ _ _ _ _ := hs
        simp only [idxV] at hs
        have OO := Lib.hid oo
        have OG := Lib.hid og
        clear knx nx es pe ek oo og
        go_wp2_with fail
        refine hs.mono ?_
        rintro e w2 ⟨rfl, k2⟩
        go_wp2
        first | exact ⟨⟨j + 1, by omega, by simp, by rw [NX2.out]; exact OO.out.keep k2 (by simp), OG.out, k1.trans k2⟩, by simp [intOf]; omega⟩ | (refine ⟨?rel2, ?meas2⟩; (case meas2 => (simp [intOf]; omega)); (case rel2 => ((repeat apply Exists.intro); exact ⟨⟨j + 1, by omega, by simp, by rw [NX2.out]; exact OO.out.keep k2 (by simp), OG.out, k1.trans k2⟩, rfl⟩)))
      | some i =>
        rw [es] at hs
        have pe : pairI x.v id' start key = [(key, valI x.v i)] := by unfold pairI; rw [es]
        have ei := sees_lt es
        obtain ⟨y, hy⟩ : ∃ y, x.v[i]? = some y := ⟨_, List.getElem?_eq_getElem ei⟩
        have ev : valI x.v i = y.val := by unfold valI; rw [hy]
        rw [pe, ev] at nx
        have NX2 := Lib.hid nx
        have hs : Calls _ _ _ _ _ := hs
        simp only [idxV] at hs
        have OO := Lib.hid oo
        have OG := Lib.hid og
        have i0 : (0 : Int) ≤ (i : Int) := by omega
        have i1 : decide ((0 : Int) ≤ (i : Int)) = true := decide_eq_true i0
        have ll := Nat.le_trans (LK.out j) (show j ≤ 100000 by omega)
        have YV := Lib.hid hy
        obtain ⟨Z, eZ⟩ : ∃ Z, (keysI lo j).flatMap (pairI x.v id' start) = Z := ⟨_, rfl⟩
        rw [eZ] at ll
        have EZ := Lib.hid eZ
        clear knx nx NX es pe ek oo og ev hy eZ
        go_wp2_with fail
        refine hs.mono ?_
        rintro e w2 ⟨rfl, k2⟩
        clear hs t0 t1 t2 t3 t4 t5
        obtain ⟨A0, c0, eA, hc0, hv⟩ := ((H.out.same k1).same k2).vers
        obtain ⟨g, eg, a0, a1, a2, a3, a4, a5, a6⟩ := hv i y YV.out
        subst eg
        have cv := ((H.out.same k1).same k2).c2
        rw [eA] at cv
        have ei2 : (i : Int) < (x.v.length : Int) := by omega
        have o2 := OO.out.keep k2 (by simp)
        rw [EZ.out] at o2
        have O2 := Lib.hid o2
        clear hv hc0 o2
        go_wp2_with (with_reducible refine wp_stop 36 rfl ?_)
        intro _
        refine wp_pushM Try.underlying28 info_pr rfl (by decide) (by decide) prI_len (by intro p u hu; simp only [prI, List.mem_cons, List.not_mem_nil, or_false] at hu; rcases hu with rfl | rfl <;> rfl) rfl (.tmp 24) (.tmp 35) rfl _ Z (by rfl) O2.out (key, y.val) rfl ll ?_
        rintro g2 c2 w3 o3 k3 hg
        rw [show Z ++ [(key, y.val)] = (keysI lo (j + 1)).flatMap (pairI x.v id' start) from by rw [NX2.out, EZ.out]] at o3
        have K3 : Keep (fun _ => False) W w3 := (k1.trans k2).older (S := fun g => W.heap.size ≤ g) (k3.mono (fun g e => OG.out g e)) (fun _ e => e)
        have hg2 : W.heap.size ≤ g2 := by
          rcases hg with e | e
          · exact OG.out g2 e
          · have := (k1.trans k2).size; omega
        have O3 := Lib.hid o3
        clear o3 k3 hg
        go_wp2
        first | exact ⟨⟨j + 1, by omega, by simp, O3.out, (fun g e => by cases e; exact hg2), K3⟩, by simp [intOf]; omega⟩ | (refine ⟨?rel2, ?meas2⟩; (case meas2 => (simp [intOf]; omega)); (case rel2 => ((repeat apply Exists.intro); exact ⟨⟨j + 1, by omega, by simp, O3.out, (fun g e => by cases e; exact hg2), K3⟩, rfl⟩)))
    · obtain rfl : j = n := by omega
      have d1 : ¬ key ≤ hi := by omega
      have d2 : decide (key ≤ hi) = false := decide_eq_false d1
      have sz : w.heap.size ≤ W.heap.size := kW.size
      have OO := Lib.hid oo
      have OG := Lib.hid og
      clear oo og ek
      go_wp2
      go_ret
      exact ⟨_, rfl, OO.out, fun g e => Nat.le_trans sz (OG.out g e), kW.trans k1⟩
theorem idx_inj (a b : Option Nat) : idxV a = idxV b ↔ a = b := by
 cases a <;> cases b <;> simp [idxV] <;> omega
theorem idx_yes {a b : Option Nat} (h : a = b) : (idxV a != idxV b) = false := by rw [h]; simp
theorem idx_no {a b : Option Nat} (h : a ≠ b) : (idxV a != idxV b) = true := by
 rw [bne_iff_ne]
 exact fun e => h ((idx_inj a b).1 e)
/-- Whether one thing that was read still holds. -/
def okR (x : MoI) (level start : Int) (r : RdI) : Bool := (decide (level = 2) && !r.found) || (keysI r.lo (r.hi + 1 - r.lo).toNat).all fun k => decide (x.v.findIdx? (thereV k start) = x.v.findIdx? (thereV k x.time))
def RHo (x : MoI) (level start : Int) (l : List RdI) (W : World) (k : Nat) (i : Value) (wr : World) : Prop := k ≤ l.length ∧ i = .int .i64 k ∧ (∀ j r, j < k → l[j]? = some r → okR x level start r = true) ∧ Keep (fun _ => False) W wr
def RHi (x : MoI) (start lo : Int) (n : Nat) (W : World) (j : Nat) (i : Value) (wr : World) : Prop := j ≤ n ∧ i = .int .i64 (lo + j) ∧ (∀ z ∈ keysI lo j, x.v.findIdx? (thereV z start) = x.v.findIdx? (thereV z x.time)) ∧ Keep (fun _ => False) W wr
theorem ok_range {x : MoI} {level start lo hi : Int} {f s : Bool} {n : Nat} (en : (hi + 1 - lo).toNat = n) (h : ∀ z ∈ keysI lo n, x.v.findIdx? (thereV z start) = x.v.findIdx? (thereV z x.time)) : okR x level start ⟨lo, hi, f, s⟩ = true := by
 unfold okR
 rw [Bool.or_eq_true]
 right
 show (keysI lo (hi + 1 - lo).toNat).all _ = true
 rw [en, List.all_eq_true]
 exact fun z hz => decide_eq_true (h z hz)
theorem ok_bad {x : MoI} {level start lo hi : Int} {f s : Bool} {n j : Nat} (en : (hi + 1 - lo).toNat = n) (hj : j < n) (hl : (decide (level = 2) && !f) = false) (h : x.v.findIdx? (thereV (lo + j) start) ≠ x.v.findIdx? (thereV (lo + j) x.time)) : okR x level start ⟨lo, hi, f, s⟩ = false := by
 unfold okR
 show ((decide (level = 2) && !f) || (keysI lo (hi + 1 - lo).toNat).all _) = false
 rw [hl, Bool.false_or, en, List.all_eq_false]
 refine ⟨lo + j, ?_, by simpa using h⟩
 rw [show n = j + (n - j) by omega, keys_add]
 obtain ⟨d, ed⟩ : ∃ d, n - j = d + 1 := ⟨n - j - 1, by omega⟩
 rw [ed]
 exact List.mem_append_right _ (by show lo + (j : Int) ∈ _ :: _; simp)
theorem read_at {g n c : Nat} {l : List RdI} (o : OwnR w (.slice (some ⟨g, 0, none⟩) n c) l) (i : Nat) (y : RdI) (hy : l[i]? = some y) : w.cell? ⟨g, i * 4, none⟩ = some (.int .i64 y.lo) ∧ w.cell? ⟨g, i * 4 + 1, none⟩ = some (.int .i64 y.hi) ∧ w.cell? ⟨g, i * 4 + 2, none⟩ = some (.bool y.found) ∧ w.cell? ⟨g, i * 4 + 3, none⟩ = some (.bool y.scan) := by
 obtain ⟨li, e⟩ := List.getElem?_eq_some_iff.1 hy
 have h := fun j hj => OwnM.cell rrC_len o i j li hj
 rw [e] at h
 exact ⟨h 0 (by omega), h 1 (by omega), h 2 (by omega), h 3 (by omega)⟩
set_option maxRecDepth 100000 in
set_option maxHeartbeats 4000000 in
theorem rholds_any (h : RmAt w m vv sw sr x) (hl : x.v.length ≤ 100000) (t : TxI) (a b : Value) (ob : OwnR w b t.reads) (hr : ∀ r ∈ t.reads, 0 ≤ r.lo ∧ r.lo ≤ 63 ∧ r.hi ≤ 63) (hrl : t.reads.length ≤ 1000) :
  Calls Try.prog 86 #[.pointer (some ⟨m, 0, none⟩), txV t a b] w fun e w' => e = .returned (.bool (x.holds t)) ∧ Keep (fun _ => False) w w' := by
 obtain ⟨W, eW, tb, kW⟩ := tx_box w t a b
 have H := Lib.hid (h.same kW)
 have TB := Lib.hid tb
 have EW := Lib.hid eW
 have OB := Lib.hid (ob.keep kW (by simp))
 obtain ⟨N, eN⟩ : ∃ N, w.heap.size = N := ⟨_, rfl⟩
 obtain ⟨id', level, ops, start, wrote, reads⟩ := t
 obtain ⟨B, cb, rfl⟩ : ∃ B cb, b = .slice B reads.length cb := by
  rcases ob.form with ⟨h1, h2⟩ | ⟨g, c, h1, _⟩
  ·have h2 : reads = [] := h2
   exact ⟨none, 0, by rw [h1, h2]; rfl⟩
  ·exact ⟨_, c, h1⟩
 obtain ⟨n, en⟩ : ∃ n, reads.length = n := ⟨_, rfl⟩
 have EN := Lib.hid en
 have fin : x.holds ⟨id', level, ops, start, wrote, reads⟩ = reads.all (okR x level start) := rfl
 rw [fin]
 clear fin
 have hrl : n ≤ 1000 := by rw [← en]; exact hrl
 have HR := Lib.hid hr
 rw [en] at TB OB EW ⊢
 clear h tb eW ob en hr
 unfold txV
 go_enter Try.func86, Try.ntmps86
 go_wp2
 go_loopw [5, 6, 7] (fun i _ _ wr => ∃ k : Nat, RHo x level start reads W k i wr) (fun i _ _ _ => n - (intOf i).toNat)
 case atStart => exact ⟨0, Nat.zero_le _, rfl, fun j r hj => absurd hj (Nat.not_lt_zero j), by rw [← EW.out]; exact Keep.refl _ _⟩
 case round =>
  obtain ⟨k, hk, rfl, hno, k1⟩ := hrel
  rw [EN.out] at hk
  have wk : IntKind.i64.wrap ((k : Int) + 1) = (k : Int) + 1 := IntWalk.i64_in _ (by omega)
  obtain ⟨t0, t1, t2, t3, t4, t5⟩ := TB.out.keep k1
  rw [eN] at t0 t1 t2 t3 t4 t5
  have hN : N < wr.heap.size := lt_of_cell (a := ⟨N, 0, none⟩) t0
  have NO := Lib.hid hno
  clear hno t0 t2 t4
  by_cases hlt : k < n
  ·obtain ⟨y, hy⟩ : ∃ y, reads[k]? = some y := ⟨_, List.getElem?_eq_getElem (by rw [EN.out]; exact hlt)⟩
   have ob2 := OB.out.keep k1 (by simp)
   obtain ⟨g, rfl⟩ : ∃ g, B = some ⟨g, 0, none⟩ := by
    rcases ob2.form with ⟨_, h2⟩ | ⟨g, c, h1, _⟩
    ·have h2 : reads = [] := h2
     rw [h2] at hy; simp at hy
    ·cases h1; exact ⟨g, rfl⟩
   obtain ⟨a0, a1, a2, a3⟩ := read_at ob2 k y hy
   have hyr := HR.out y (List.mem_of_getElem? hy)
   have YV := Lib.hid hy
   obtain ⟨lo, hi, fd, sc⟩ := y
   obtain ⟨l0, l1, l2⟩ : 0 ≤ lo ∧ lo ≤ 63 ∧ hi ≤ 63 := hyr
   have NXT := fun (h : okR x level start ⟨lo, hi, fd, sc⟩ = true) => (show ∀ j r, j < k + 1 → reads[j]? = some r → okR x level start r = true from fun j r hj hr => by
    by_cases e : j = k
    ·subst e; rw [YV.out] at hr; cases hr; exact h
    ·exact NO.out j r (by omega) hr)
   have NXT := Lib.hid NXT
   clear hy ob2
   by_cases hf : level = 2 ∧ fd = false
   ·obtain ⟨rfl, rfl⟩ := hf
    have NX := Lib.hid (NXT.out (by unfold okR; simp))
    have kA := Lib.hid (fun o => k1.alloc o)
    go_wp2
    first | exact ⟨⟨k + 1, by rw [EN.out]; omega, by go_num, NX.out, kA.out _⟩, by simp [intOf]; omega⟩ | (refine ⟨?rel2, ?meas2⟩; (case meas2 => (simp [intOf]; omega)); (case rel2 => ((repeat apply Exists.intro); exact ⟨⟨k + 1, by rw [EN.out]; omega, by go_num, NX.out, kA.out _⟩, rfl⟩)))
   ·have nf : (decide (level = 2) && !fd) = false := by
     by_cases e : level = 2
     ·have : fd ≠ false := fun q => hf ⟨e, q⟩
      cases fd <;> simp at this ⊢
     ·simp [e]
    have NF := Lib.hid nf
    obtain ⟨q, eq⟩ : ∃ q : Nat, (hi + 1 - lo).toNat = q := ⟨_, rfl⟩
    have EQ := Lib.hid eq
    have q1 : ∀ j : Nat, j < q → lo + (j : Int) ≤ hi := fun j hj => by omega
    have q2 : ∀ j : Nat, ¬ j < q → ¬ lo + (j : Int) ≤ hi := fun j hj => by omega
    have Q1 := Lib.hid q1
    have Q2 := Lib.hid q2
    have q64 : q ≤ 64 := by omega
    clear q1 q2 eq nf
    have lv : (level == 2) = true ∧ fd = true ∨ (level == 2) = false := by
     by_cases e : level = 2
     ·left
      exact ⟨by simp [e], by cases fd; exact absurd ⟨e, rfl⟩ hf; rfl⟩
     ·right; simp [e]
    clear hf
    obtain ⟨V, eV⟩ : ∃ V, wr.alloc (.cells #[.int .i64 lo, .int .i64 hi, .bool fd, .bool sc] 125) = V := ⟨_, rfl⟩
    have kV : Keep (fun _ => False) wr V := by rw [← eV]; exact (Keep.refl _ _).alloc _
    have v0 : V.cell? ⟨wr.heap.size, 0, none⟩ = some (.int .i64 lo) := by rw [← eV]; simp
    have v1 : V.cell? ⟨wr.heap.size, 1, none⟩ = some (.int .i64 hi) := by rw [← eV]; simp
    have EV := Lib.hid eV
    obtain ⟨M, eM⟩ : ∃ M, wr.heap.size = M := ⟨_, rfl⟩
    rw [eM] at v0 v1 hN
    have KV := k1.trans kV
    have kV' := kV
    clear eV kV
    rcases lv with ⟨h1, rfl⟩ | h1
    ·skip
     go_wp2
     go_loopw [7] (fun i wz => ∃ j : Nat, RHi x start lo q V j i wz) (fun i _ => q - (intOf i - lo).toNat)
     case atStart => exact ⟨0, Nat.zero_le _, by simp, by simp [keysI], by rw [← EV.out]; exact Keep.refl _ _⟩
     case round =>
      obtain ⟨j, hj, rfl, hso, k2⟩ := hrel
      have wj : IntKind.i64.wrap (lo + (j : Int) + 1) = lo + ((j + 1 : Nat) : Int) := (IntWalk.i64_in _ (by omega)).trans (by omega)
      have K2 := KV.trans k2
      have b1 := k2.cell v1 id
      have b3 := k2.cell (Keep.cell kV' t3 id) id
      have c51 := (H.out.same K2).c51
      have SO := Lib.hid hso
      obtain ⟨key, ek⟩ : ∃ key, lo + (j : Int) = key := ⟨_, rfl⟩
      have q1 := Q1.out j
      have q2 := Q2.out j
      rw [ek] at wj q1 q2 ⊢
      have m1 : key - lo ≤ (j : Int) := by omega
      have m2 : (j : Int) ≤ key - lo := by omega
      by_cases hjq : j < q
      ·have d1 := q1 hjq
       have d2 : decide (key ≤ hi) = true := decide_eq_true d1
       have kd := (Keep.refl (fun _ => False) wr).drew
       have HD := Lib.hid ((H.out.same K2).same kd)
       have hT1 := rthere_any HD.out hl key start
       by_cases he : x.v.findIdx? (thereV key start) = x.v.findIdx? (thereV key x.time)
       ·have bq := idx_yes he
        have NX2 := Lib.hid (show ∀ z ∈ keysI lo (j + 1), x.v.findIdx? (thereV z start) = x.v.findIdx? (thereV z x.time) from fun z hz => by
         rw [keys_next, ek] at hz
         rcases List.mem_append.1 hz with hz | hz
         ·exact SO.out z hz
         ·simp only [List.mem_singleton] at hz; subst hz; exact he)
        clear he hso q1 q2 ek
        go_wp2_with fail
        refine wp_region_held_drew (S := fun w' => w'.cell? ⟨N, 3, none⟩ = some (.int .u64 start) ∧ w'.cell? ⟨m, 51, none⟩ = some (.int .u64 x.time)) (by kernel_rfl) ⟨b3, c51⟩ (fun hHeld => ?_)
        refine tk 0 (v := ?qvu151) ?qyu151 ?qru151; case qyu151 => ((intro w hSw; (try dsimp only at hSw); go_simp); try (with_reducible rfl))
        (try simp only [tA, tS, tZ, Act.put, uA, uS, uZ])
        refine tk 1 (v := ?qvu152) ?qyu152 ?qru152; case qyu152 => ((intro w hSw; (try dsimp only at hSw); go_simp); try (with_reducible rfl))
        (try simp only [tA, tS, tZ, Act.put, uA, uS, uZ])
        refine tk 2 (v := ?qvu153) ?qyu153 ?qru153; case qyu153 => ((intro w hSw; (try dsimp only at hSw); go_simp); try (with_reducible rfl))
        (try simp only [tA, tS, tZ, Act.put, uA, uS, uZ])
        refine tk 3 (v := ?qvu154) ?qyu154 ?qru154; case qyu154 => ((intro w hSw; (try dsimp only at hSw); go_simp); try (with_reducible rfl))
        (try simp only [tA, tS, tZ, Act.put, uA, uS, uZ])
        refine tk 5 (v := ?qvu155) ?qyu155 ?qru155; case qyu155 => ((intro w hSw; (try dsimp only at hSw); go_simp); try (with_reducible rfl))
        (try simp only [tA, tS, tZ, Act.put, uA, uS, uZ])
        refine tk 6 (v := ?qvu156) ?qyu156 ?qru156; case qyu156 => ((intro w hSw; (try dsimp only at hSw); go_simp); try (with_reducible rfl))
        (try simp only [tA, tS, tZ, Act.put, uA, uS, uZ])
        refine tk 7 (v := ?qvu157) ?qyu157 ?qru157; case qyu157 => ((intro w hSw; (try dsimp only at hSw); go_simp); try (with_reducible rfl))
        (try simp only [tA, tS, tZ, Act.put, uA, uS, uZ])
        refine tk 8 (v := ?qvu158) ?qyu158 ?qru158; case qyu158 => ((intro w hSw; (try dsimp only at hSw); go_simp); try (with_reducible rfl))
        (try simp only [tA, tS, tZ, Act.put, uA, uS, uZ])
        refine tk 9 (v := ?qvu159) ?qyu159 ?qru159; case qyu159 => ((intro w hSw; (try dsimp only at hSw); go_simp); try (with_reducible rfl))
        (try simp only [tA, tS, tZ, Act.put, uA, uS, uZ])
        refine tk 10 (v := ?qvu160) ?qyu160 ?qru160; case qyu160 => ((intro w hSw; (try dsimp only at hSw); go_simp); try (with_reducible rfl))
        (try simp only [tA, tS, tZ, Act.put, uA, uS, uZ])
        refine wpAnyH_ready (rs := [4]) (by kernel_rfl) (by simp) ?_
        refine AllReadyH.cons rfl (fun K hK => ?_) AllReadyH.nil
        go_simp
        refine hT1.mono ?_
        rintro e y1 ⟨rfl, k3⟩
        refine hK.out _ _ ⟨k3.cell hHeld.1 id, k3.cell hHeld.2 id⟩ (fun hHeld => ?_)
        clear hK K
        (try simp only [tA, tS, tZ, Act.put, uA, uS, uZ])
        refine wpAnyH_ready (rs := [11]) (by kernel_rfl) (by simp) ?_
        refine AllReadyH.cons rfl (fun K hK => ?_) AllReadyH.nil
        go_simp
        refine (rthere_any (HD.out.same k3) hl key x.time).mono ?_
        rintro e y2 ⟨rfl, k4⟩
        refine hK.out _ _ ⟨k4.cell hHeld.1 id, k4.cell hHeld.2 id⟩ (fun hHeld => ?_)
        clear hK K
        (try simp only [tA, tS, tZ, Act.put, uA, uS, uZ])
        refine tk 12 (v := ?qvu161) ?qyu161 ?qru161; case qyu161 => ((intro w hSw; (try dsimp only at hSw); go_simp); try (with_reducible rfl))
        (try simp only [tA, tS, tZ, Act.put, uA, uS, uZ])
        refine wpAnyH_done (by kernel_rfl) ?_ _
        have KK := (k2.trans kd).trans (k3.trans k4)
        go_wp2
        first | exact ⟨⟨j + 1, by omega, by simp, NX2.out, KK⟩, by simp [intOf]; omega⟩ | (refine ⟨?rel2, ?meas2⟩; (case meas2 => (simp [intOf]; omega)); (case rel2 => ((repeat apply Exists.intro); exact ⟨⟨j + 1, by omega, by simp, NX2.out, KK⟩, rfl⟩)))
       ·have bq := idx_no he
        have F := Lib.hid (show reads.all (okR x level start) = false by
         rw [List.all_eq_false]
         exact ⟨⟨lo, hi, _, sc⟩, List.mem_of_getElem? YV.out, by rw [ok_bad EQ.out hjq NF.out (by rw [ek]; exact he)]; simp⟩)
        clear he hso q1 q2 ek
        go_wp2_with fail
        refine wp_region_held_drew (S := fun w' => w'.cell? ⟨N, 3, none⟩ = some (.int .u64 start) ∧ w'.cell? ⟨m, 51, none⟩ = some (.int .u64 x.time)) (by kernel_rfl) ⟨b3, c51⟩ (fun hHeld => ?_)
        refine tk 0 (v := ?qvu162) ?qyu162 ?qru162; case qyu162 => ((intro w hSw; (try dsimp only at hSw); go_simp); try (with_reducible rfl))
        (try simp only [tA, tS, tZ, Act.put, uA, uS, uZ])
        refine tk 1 (v := ?qvu163) ?qyu163 ?qru163; case qyu163 => ((intro w hSw; (try dsimp only at hSw); go_simp); try (with_reducible rfl))
        (try simp only [tA, tS, tZ, Act.put, uA, uS, uZ])
        refine tk 2 (v := ?qvu164) ?qyu164 ?qru164; case qyu164 => ((intro w hSw; (try dsimp only at hSw); go_simp); try (with_reducible rfl))
        (try simp only [tA, tS, tZ, Act.put, uA, uS, uZ])
        refine tk 3 (v := ?qvu165) ?qyu165 ?qru165; case qyu165 => ((intro w hSw; (try dsimp only at hSw); go_simp); try (with_reducible rfl))
        (try simp only [tA, tS, tZ, Act.put, uA, uS, uZ])
        refine tk 5 (v := ?qvu166) ?qyu166 ?qru166; case qyu166 => ((intro w hSw; (try dsimp only at hSw); go_simp); try (with_reducible rfl))
        (try simp only [tA, tS, tZ, Act.put, uA, uS, uZ])
        refine tk 6 (v := ?qvu167) ?qyu167 ?qru167; case qyu167 => ((intro w hSw; (try dsimp only at hSw); go_simp); try (with_reducible rfl))
        (try simp only [tA, tS, tZ, Act.put, uA, uS, uZ])
        refine tk 7 (v := ?qvu168) ?qyu168 ?qru168; case qyu168 => ((intro w hSw; (try dsimp only at hSw); go_simp); try (with_reducible rfl))
        (try simp only [tA, tS, tZ, Act.put, uA, uS, uZ])
        refine tk 8 (v := ?qvu169) ?qyu169 ?qru169; case qyu169 => ((intro w hSw; (try dsimp only at hSw); go_simp); try (with_reducible rfl))
        (try simp only [tA, tS, tZ, Act.put, uA, uS, uZ])
        refine tk 9 (v := ?qvu170) ?qyu170 ?qru170; case qyu170 => ((intro w hSw; (try dsimp only at hSw); go_simp); try (with_reducible rfl))
        (try simp only [tA, tS, tZ, Act.put, uA, uS, uZ])
        refine tk 10 (v := ?qvu171) ?qyu171 ?qru171; case qyu171 => ((intro w hSw; (try dsimp only at hSw); go_simp); try (with_reducible rfl))
        (try simp only [tA, tS, tZ, Act.put, uA, uS, uZ])
        refine wpAnyH_ready (rs := [4]) (by kernel_rfl) (by simp) ?_
        refine AllReadyH.cons rfl (fun K hK => ?_) AllReadyH.nil
        go_simp
        refine hT1.mono ?_
        rintro e y1 ⟨rfl, k3⟩
        refine hK.out _ _ ⟨k3.cell hHeld.1 id, k3.cell hHeld.2 id⟩ (fun hHeld => ?_)
        clear hK K
        (try simp only [tA, tS, tZ, Act.put, uA, uS, uZ])
        refine wpAnyH_ready (rs := [11]) (by kernel_rfl) (by simp) ?_
        refine AllReadyH.cons rfl (fun K hK => ?_) AllReadyH.nil
        go_simp
        refine (rthere_any (HD.out.same k3) hl key x.time).mono ?_
        rintro e y2 ⟨rfl, k4⟩
        refine hK.out _ _ ⟨k4.cell hHeld.1 id, k4.cell hHeld.2 id⟩ (fun hHeld => ?_)
        clear hK K
        (try simp only [tA, tS, tZ, Act.put, uA, uS, uZ])
        refine tk 12 (v := ?qvu172) ?qyu172 ?qru172; case qyu172 => ((intro w hSw; (try dsimp only at hSw); go_simp); try (with_reducible rfl))
        (try simp only [tA, tS, tZ, Act.put, uA, uS, uZ])
        refine wpAnyH_done (by kernel_rfl) ?_ _
        have KK := (k2.trans kd).trans (k3.trans k4)
        go_wp2
        go_ret
        exact ⟨by rw [F.out]; rfl, kW.trans (KV.trans KK)⟩
      ·obtain rfl : j = q := by omega
       have d1 := q2 hjq
       have d2 : decide (key ≤ hi) = false := decide_eq_false (by omega)
       have NX := Lib.hid (NXT.out (ok_range EQ.out SO.out))
       clear hso q1 q2 ek
       go_wp2
       first | exact ⟨⟨k + 1, by rw [EN.out]; omega, by go_num, NX.out, K2⟩, by simp [intOf]; omega⟩ | (refine ⟨?rel2, ?meas2⟩; (case meas2 => (simp [intOf]; omega)); (case rel2 => ((repeat apply Exists.intro); exact ⟨⟨k + 1, by rw [EN.out]; omega, by go_num, NX.out, K2⟩, rfl⟩)))
    ·skip
     go_wp2
     go_loopw [7] (fun i wz => ∃ j : Nat, RHi x start lo q V j i wz) (fun i _ => q - (intOf i - lo).toNat)
     case atStart => exact ⟨0, Nat.zero_le _, by simp, by simp [keysI], by rw [← EV.out]; exact Keep.refl _ _⟩
     case round =>
      obtain ⟨j, hj, rfl, hso, k2⟩ := hrel
      have wj : IntKind.i64.wrap (lo + (j : Int) + 1) = lo + ((j + 1 : Nat) : Int) := (IntWalk.i64_in _ (by omega)).trans (by omega)
      have K2 := KV.trans k2
      have b1 := k2.cell v1 id
      have b3 := k2.cell (Keep.cell kV' t3 id) id
      have c51 := (H.out.same K2).c51
      have SO := Lib.hid hso
      obtain ⟨key, ek⟩ : ∃ key, lo + (j : Int) = key := ⟨_, rfl⟩
      have q1 := Q1.out j
      have q2 := Q2.out j
      rw [ek] at wj q1 q2 ⊢
      have m1 : key - lo ≤ (j : Int) := by omega
      have m2 : (j : Int) ≤ key - lo := by omega
      by_cases hjq : j < q
      ·have d1 := q1 hjq
       have d2 : decide (key ≤ hi) = true := decide_eq_true d1
       have kd := (Keep.refl (fun _ => False) wr).drew
       have HD := Lib.hid ((H.out.same K2).same kd)
       have hT1 := rthere_any HD.out hl key start
       by_cases he : x.v.findIdx? (thereV key start) = x.v.findIdx? (thereV key x.time)
       ·have bq := idx_yes he
        have NX2 := Lib.hid (show ∀ z ∈ keysI lo (j + 1), x.v.findIdx? (thereV z start) = x.v.findIdx? (thereV z x.time) from fun z hz => by
         rw [keys_next, ek] at hz
         rcases List.mem_append.1 hz with hz | hz
         ·exact SO.out z hz
         ·simp only [List.mem_singleton] at hz; subst hz; exact he)
        clear he hso q1 q2 ek
        go_wp2_with fail
        refine wp_region_held_drew (S := fun w' => w'.cell? ⟨N, 3, none⟩ = some (.int .u64 start) ∧ w'.cell? ⟨m, 51, none⟩ = some (.int .u64 x.time)) (by kernel_rfl) ⟨b3, c51⟩ (fun hHeld => ?_)
        refine tk 0 (v := ?qvu173) ?qyu173 ?qru173; case qyu173 => ((intro w hSw; (try dsimp only at hSw); go_simp); try (with_reducible rfl))
        (try simp only [tA, tS, tZ, Act.put, uA, uS, uZ])
        refine tk 1 (v := ?qvu174) ?qyu174 ?qru174; case qyu174 => ((intro w hSw; (try dsimp only at hSw); go_simp); try (with_reducible rfl))
        (try simp only [tA, tS, tZ, Act.put, uA, uS, uZ])
        refine tk 2 (v := ?qvu175) ?qyu175 ?qru175; case qyu175 => ((intro w hSw; (try dsimp only at hSw); go_simp); try (with_reducible rfl))
        (try simp only [tA, tS, tZ, Act.put, uA, uS, uZ])
        refine tk 3 (v := ?qvu176) ?qyu176 ?qru176; case qyu176 => ((intro w hSw; (try dsimp only at hSw); go_simp); try (with_reducible rfl))
        (try simp only [tA, tS, tZ, Act.put, uA, uS, uZ])
        refine tk 5 (v := ?qvu177) ?qyu177 ?qru177; case qyu177 => ((intro w hSw; (try dsimp only at hSw); go_simp); try (with_reducible rfl))
        (try simp only [tA, tS, tZ, Act.put, uA, uS, uZ])
        refine tk 6 (v := ?qvu178) ?qyu178 ?qru178; case qyu178 => ((intro w hSw; (try dsimp only at hSw); go_simp); try (with_reducible rfl))
        (try simp only [tA, tS, tZ, Act.put, uA, uS, uZ])
        refine tk 7 (v := ?qvu179) ?qyu179 ?qru179; case qyu179 => ((intro w hSw; (try dsimp only at hSw); go_simp); try (with_reducible rfl))
        (try simp only [tA, tS, tZ, Act.put, uA, uS, uZ])
        refine tk 8 (v := ?qvu180) ?qyu180 ?qru180; case qyu180 => ((intro w hSw; (try dsimp only at hSw); go_simp); try (with_reducible rfl))
        (try simp only [tA, tS, tZ, Act.put, uA, uS, uZ])
        refine tk 9 (v := ?qvu181) ?qyu181 ?qru181; case qyu181 => ((intro w hSw; (try dsimp only at hSw); go_simp); try (with_reducible rfl))
        (try simp only [tA, tS, tZ, Act.put, uA, uS, uZ])
        refine tk 10 (v := ?qvu182) ?qyu182 ?qru182; case qyu182 => ((intro w hSw; (try dsimp only at hSw); go_simp); try (with_reducible rfl))
        (try simp only [tA, tS, tZ, Act.put, uA, uS, uZ])
        refine wpAnyH_ready (rs := [4]) (by kernel_rfl) (by simp) ?_
        refine AllReadyH.cons rfl (fun K hK => ?_) AllReadyH.nil
        go_simp
        refine hT1.mono ?_
        rintro e y1 ⟨rfl, k3⟩
        refine hK.out _ _ ⟨k3.cell hHeld.1 id, k3.cell hHeld.2 id⟩ (fun hHeld => ?_)
        clear hK K
        (try simp only [tA, tS, tZ, Act.put, uA, uS, uZ])
        refine wpAnyH_ready (rs := [11]) (by kernel_rfl) (by simp) ?_
        refine AllReadyH.cons rfl (fun K hK => ?_) AllReadyH.nil
        go_simp
        refine (rthere_any (HD.out.same k3) hl key x.time).mono ?_
        rintro e y2 ⟨rfl, k4⟩
        refine hK.out _ _ ⟨k4.cell hHeld.1 id, k4.cell hHeld.2 id⟩ (fun hHeld => ?_)
        clear hK K
        (try simp only [tA, tS, tZ, Act.put, uA, uS, uZ])
        refine tk 12 (v := ?qvu183) ?qyu183 ?qru183; case qyu183 => ((intro w hSw; (try dsimp only at hSw); go_simp); try (with_reducible rfl))
        (try simp only [tA, tS, tZ, Act.put, uA, uS, uZ])
        refine wpAnyH_done (by kernel_rfl) ?_ _
        have KK := (k2.trans kd).trans (k3.trans k4)
        go_wp2
        first | exact ⟨⟨j + 1, by omega, by simp, NX2.out, KK⟩, by simp [intOf]; omega⟩ | (refine ⟨?rel2, ?meas2⟩; (case meas2 => (simp [intOf]; omega)); (case rel2 => ((repeat apply Exists.intro); exact ⟨⟨j + 1, by omega, by simp, NX2.out, KK⟩, rfl⟩)))
       ·have bq := idx_no he
        have F := Lib.hid (show reads.all (okR x level start) = false by
         rw [List.all_eq_false]
         exact ⟨⟨lo, hi, _, sc⟩, List.mem_of_getElem? YV.out, by rw [ok_bad EQ.out hjq NF.out (by rw [ek]; exact he)]; simp⟩)
        clear he hso q1 q2 ek
        go_wp2_with fail
        refine wp_region_held_drew (S := fun w' => w'.cell? ⟨N, 3, none⟩ = some (.int .u64 start) ∧ w'.cell? ⟨m, 51, none⟩ = some (.int .u64 x.time)) (by kernel_rfl) ⟨b3, c51⟩ (fun hHeld => ?_)
        refine tk 0 (v := ?qvu184) ?qyu184 ?qru184; case qyu184 => ((intro w hSw; (try dsimp only at hSw); go_simp); try (with_reducible rfl))
        (try simp only [tA, tS, tZ, Act.put, uA, uS, uZ])
        refine tk 1 (v := ?qvu185) ?qyu185 ?qru185; case qyu185 => ((intro w hSw; (try dsimp only at hSw); go_simp); try (with_reducible rfl))
        (try simp only [tA, tS, tZ, Act.put, uA, uS, uZ])
        refine tk 2 (v := ?qvu186) ?qyu186 ?qru186; case qyu186 => ((intro w hSw; (try dsimp only at hSw); go_simp); try (with_reducible rfl))
        (try simp only [tA, tS, tZ, Act.put, uA, uS, uZ])
        refine tk 3 (v := ?qvu187) ?qyu187 ?qru187; case qyu187 => ((intro w hSw; (try dsimp only at hSw); go_simp); try (with_reducible rfl))
        (try simp only [tA, tS, tZ, Act.put, uA, uS, uZ])
        refine tk 5 (v := ?qvu188) ?qyu188 ?qru188; case qyu188 => ((intro w hSw; (try dsimp only at hSw); go_simp); try (with_reducible rfl))
        (try simp only [tA, tS, tZ, Act.put, uA, uS, uZ])
        refine tk 6 (v := ?qvu189) ?qyu189 ?qru189; case qyu189 => ((intro w hSw; (try dsimp only at hSw); go_simp); try (with_reducible rfl))
        (try simp only [tA, tS, tZ, Act.put, uA, uS, uZ])
        refine tk 7 (v := ?qvu190) ?qyu190 ?qru190; case qyu190 => ((intro w hSw; (try dsimp only at hSw); go_simp); try (with_reducible rfl))
        (try simp only [tA, tS, tZ, Act.put, uA, uS, uZ])
        refine tk 8 (v := ?qvu191) ?qyu191 ?qru191; case qyu191 => ((intro w hSw; (try dsimp only at hSw); go_simp); try (with_reducible rfl))
        (try simp only [tA, tS, tZ, Act.put, uA, uS, uZ])
        refine tk 9 (v := ?qvu192) ?qyu192 ?qru192; case qyu192 => ((intro w hSw; (try dsimp only at hSw); go_simp); try (with_reducible rfl))
        (try simp only [tA, tS, tZ, Act.put, uA, uS, uZ])
        refine tk 10 (v := ?qvu193) ?qyu193 ?qru193; case qyu193 => ((intro w hSw; (try dsimp only at hSw); go_simp); try (with_reducible rfl))
        (try simp only [tA, tS, tZ, Act.put, uA, uS, uZ])
        refine wpAnyH_ready (rs := [4]) (by kernel_rfl) (by simp) ?_
        refine AllReadyH.cons rfl (fun K hK => ?_) AllReadyH.nil
        go_simp
        refine hT1.mono ?_
        rintro e y1 ⟨rfl, k3⟩
        refine hK.out _ _ ⟨k3.cell hHeld.1 id, k3.cell hHeld.2 id⟩ (fun hHeld => ?_)
        clear hK K
        (try simp only [tA, tS, tZ, Act.put, uA, uS, uZ])
        refine wpAnyH_ready (rs := [11]) (by kernel_rfl) (by simp) ?_
        refine AllReadyH.cons rfl (fun K hK => ?_) AllReadyH.nil
        go_simp
        refine (rthere_any (HD.out.same k3) hl key x.time).mono ?_
        rintro e y2 ⟨rfl, k4⟩
        refine hK.out _ _ ⟨k4.cell hHeld.1 id, k4.cell hHeld.2 id⟩ (fun hHeld => ?_)
        clear hK K
        (try simp only [tA, tS, tZ, Act.put, uA, uS, uZ])
        refine tk 12 (v := ?qvu194) ?qyu194 ?qru194; case qyu194 => ((intro w hSw; (try dsimp only at hSw); go_simp); try (with_reducible rfl))
        (try simp only [tA, tS, tZ, Act.put, uA, uS, uZ])
        refine wpAnyH_done (by kernel_rfl) ?_ _
        have KK := (k2.trans kd).trans (k3.trans k4)
        go_wp2
        go_ret
        exact ⟨by rw [F.out]; rfl, kW.trans (KV.trans KK)⟩
      ·obtain rfl : j = q := by omega
       have d1 := q2 hjq
       have d2 : decide (key ≤ hi) = false := decide_eq_false (by omega)
       have NX := Lib.hid (NXT.out (ok_range EQ.out SO.out))
       clear hso q1 q2 ek
       go_wp2
       first | exact ⟨⟨k + 1, by rw [EN.out]; omega, by go_num, NX.out, K2⟩, by simp [intOf]; omega⟩ | (refine ⟨?rel2, ?meas2⟩; (case meas2 => (simp [intOf]; omega)); (case rel2 => ((repeat apply Exists.intro); exact ⟨⟨k + 1, by rw [EN.out]; omega, by go_num, NX.out, K2⟩, rfl⟩)))
  ·obtain rfl : k = n := by omega
   have F := Lib.hid (show reads.all (okR x level start) = true by
    rw [List.all_eq_true]
    intro r hr
    obtain ⟨j, hj, e⟩ := List.getElem_of_mem hr
    exact NO.out j r (by rw [← EN.out]; exact hj) (by rw [List.getElem?_eq_getElem hj, e]))
   clear hlt hk
   go_wp2
   go_ret
   exact ⟨by rw [F.out]; rfl, kW.trans k1⟩
end
end Go.Proofs.Ytkkjofefjepodaa
