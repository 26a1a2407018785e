/- What a Table of transactions is in plain lists, and what each call of the document's layer 5 answers and leaves; no dump; no condition. -/
import Derived.Test.YtbbinfdgmfmaeaaKeep
namespace Go.Proofs.Ytbbinfdgmfmaeaa
open Go.ChangeShapes Go.WideShapes Go.ChangeAt Go.RowKit
set_option linter.unusedVariables false

/-- A transaction: level, state, begin, end. -/
structure Tx where
  lv : Int
  st : Int
  b : Int
  e : Int
/-- A Table: how many there may be, and those that there are. -/
structure TS where
  most : Int
  l : List Tx
def canI (f t : Int) : Bool := if f = 1 then (t == 2 || t == 4) else if f = 2 then (t == 3 || t == 4) else if f = 3 ∨ f = 4 then t == 5 else false
def TS.tx (s : TS) (i : Nat) : Tx := s.l.getD i ⟨0, 0, 0, 0⟩
def TS.put (s : TS) (i : Nat) (x : Tx) : TS := { s with l := s.l.set i x }
def TS.make (s : TS) (lv b : Int) : Int × Int × TS :=
  if lv < 1 ∨ 3 < lv ∨ 1099511627776 < b then (0, 1, s) else if s.most ≤ s.l.length then (0, 65, s) else ((s.l.length : Int) + 1, 0, { s with l := s.l ++ [⟨lv, 1, b, 0⟩] })
def TS.out (s : TS) (id : Int) : Prop := id < 1 ∨ (s.l.length : Int) < id
instance (s : TS) (id : Int) : Decidable (s.out id) := inferInstanceAs (Decidable (id < 1 ∨ (s.l.length : Int) < id))
def TS.turn (s : TS) (id tt : Int) : Int × TS :=
  if s.out id then (11, s) else if canI (s.tx (id - 1).toNat).st tt = true then (0, s.put (id - 1).toNat { s.tx (id - 1).toNat with st := tt }) else (7, s)
def TS.stop (s : TS) (id e : Int) : Int × TS :=
  if s.out id then (11, s) else if (s.tx (id - 1).toNat).st ≠ 2 ∨ (s.tx (id - 1).toNat).e ≠ 0 then (7, s) else if e = 0 ∨ 1099511627776 < e ∨ e ≤ (s.tx (id - 1).toNat).b then (1, s) else (0, s.put (id - 1).toNat { s.tx (id - 1).toNat with e := e })
def Tx.lives (x : Tx) : Bool := x.st == 1 || x.st == 2
/-- The ids of those that live among the first k. -/
def TS.liveTo (s : TS) : Nat → List Int
  | 0 => []
  | k + 1 => if (s.tx k).lives = true then s.liveTo k ++ [(k : Int) + 1] else s.liveTo k
/-- The oldest of those that live among the first k, or now. -/
def TS.oldTo (s : TS) (now : Int) : Nat → Int
  | 0 => now
  | k + 1 => if (s.tx k).lives = true then min (s.oldTo now k) (s.tx k).b else s.oldTo now k
def TS.live (s : TS) : List Int := s.liveTo s.l.length
def TS.old (s : TS) (now : Int) : Int := s.oldTo now s.l.length
def TS.new (n : Int) : TS := ⟨n, []⟩
/-- What is promised of a transaction, and of a Table. -/
structure TxOk (x : Tx) : Prop where
  l0 : 1 ≤ x.lv
  l1 : x.lv ≤ 3
  s0 : 1 ≤ x.st
  s1 : x.st ≤ 5
  b0 : 0 ≤ x.b
  b1 : x.b ≤ 1099511627776
  e0 : 0 ≤ x.e
  e1 : x.e ≤ 1099511627776
structure TOk (s : TS) : Prop where
  m0 : 1 ≤ s.most
  m1 : s.most ≤ 65535
  n : (s.l.length : Int) ≤ s.most
  x : ∀ i, i < s.l.length → TxOk (s.tx i)
theorem TOk.n1 {s : TS} (h : TOk s) : s.l.length ≤ 65535 := by have := h.n; have := h.m1; omega
theorem tOk_new (n : Int) (h0 : 1 ≤ n) (h1 : n ≤ 65535) : TOk (TS.new n) := ⟨h0, h1, by simp [TS.new]; omega, fun i hi => by simp [TS.new] at hi⟩
theorem TS.tx_put (s : TS) (i j : Nat) (x : Tx) (h : i < s.l.length) : (s.put i x).tx j = if i = j then x else s.tx j := by
  simp only [TS.tx, TS.put, List.getD_eq_getElem?_getD, List.getElem?_set]
  by_cases e : i = j
  · subst e; simp [h]
  · simp [e]
theorem TS.put_len (s : TS) (i : Nat) (x : Tx) : (s.put i x).l.length = s.l.length := by simp [TS.put]
theorem TOk.put {s : TS} (h : TOk s) {i : Nat} (hi : i < s.l.length) {x : Tx} (hx : TxOk x) : TOk (s.put i x) := by
  refine ⟨h.m0, h.m1, by rw [TS.put_len]; exact h.n, fun j hj => ?_⟩
  rw [TS.tx_put s i j x hi]
  split
  · exact hx
  · exact h.x j (by simpa [TS.put] using hj)
theorem TS.tx_push (s : TS) (x : Tx) (j : Nat) : ({ s with l := s.l ++ [x] } : TS).tx j = if j = s.l.length then x else s.tx j := by
  simp only [TS.tx, List.getD_eq_getElem?_getD, List.getElem?_append]
  by_cases e : j < s.l.length
  · simp [e, show ¬ j = s.l.length by omega]
  · by_cases e2 : j = s.l.length
    · subst e2; simp
    · rw [if_neg e, if_neg e2, List.getElem?_eq_none (by simp; omega), List.getElem?_eq_none (by omega)]
theorem can_b {f t : Int} (h : canI f t = true) : 1 ≤ f ∧ f ≤ 4 ∧ 2 ≤ t ∧ t ≤ 5 := by
  unfold canI at h
  split at h
  · simp at h; omega
  · split at h
    · simp at h; omega
    · split at h
      · simp at h; omega
      · cases h
theorem tOk_make {s : TS} (h : TOk s) (lv b : Int) (b0 : 0 ≤ b) : TOk (s.make lv b).2.2 := by
  unfold TS.make
  split
  · exact h
  · rename_i h1
    split
    · exact h
    · rename_i h2
      refine ⟨h.m0, h.m1, by simp; omega, fun j hj => ?_⟩
      rw [TS.tx_push]
      split
      · exact ⟨by simp; omega, by simp; omega, by simp, by simp, by simpa using b0, by simp; omega, by simp, by simp⟩
      · exact h.x j (by simp at hj; omega)
theorem tOk_turn {s : TS} (h : TOk s) (id tt : Int) : TOk (s.turn id tt).2 := by
  unfold TS.turn
  split
  · exact h
  · rename_i h1
    unfold TS.out at h1
    split
    · rename_i h2
      have hb := can_b h2
      have x := h.x (id - 1).toNat (by omega)
      exact h.put (by omega) ⟨x.l0, x.l1, by simp; omega, by simp; omega, x.b0, x.b1, x.e0, x.e1⟩
    · exact h
theorem tOk_stop {s : TS} (h : TOk s) (id e : Int) (e0 : 0 ≤ e) : TOk (s.stop id e).2 := by
  unfold TS.stop
  split
  · exact h
  · rename_i h1
    unfold TS.out at h1
    split
    · exact h
    · split
      · exact h
      · rename_i h3
        have x := h.x (id - 1).toNat (by omega)
        exact h.put (by omega) ⟨x.l0, x.l1, x.s0, x.s1, x.b0, x.b1, by simpa using e0, by simp; omega⟩
theorem make_b {s : TS} (h : TOk s) (lv b : Int) : 0 ≤ (s.make lv b).1 ∧ (s.make lv b).1 ≤ 65536 ∧ 0 ≤ (s.make lv b).2.1 ∧ (s.make lv b).2.1 ≤ 65 := by
  have := h.n1
  unfold TS.make
  split
  · simp
  · split
    · simp
    · simp; omega
theorem turn_b (s : TS) (id tt : Int) : 0 ≤ (s.turn id tt).1 ∧ (s.turn id tt).1 ≤ 11 := by
  unfold TS.turn
  split
  · simp
  · split <;> simp
theorem stop_b (s : TS) (id e : Int) : 0 ≤ (s.stop id e).1 ∧ (s.stop id e).1 ≤ 11 := by
  unfold TS.stop
  split
  · simp
  · split
    · simp
    · split <;> simp
theorem liveTo_len (s : TS) (k : Nat) : (s.liveTo k).length ≤ k := by
  induction k with
  | zero => simp [TS.liveTo]
  | succ k ih =>
    unfold TS.liveTo
    split
    · rw [List.length_append]; simpa using ih
    · omega
theorem liveTo_mem (s : TS) (k : Nat) : ∀ x ∈ s.liveTo k, 1 ≤ x ∧ x ≤ k := by
  induction k with
  | zero => simp [TS.liveTo]
  | succ k ih =>
    unfold TS.liveTo
    split
    · intro x hx
      rw [List.mem_append, List.mem_singleton] at hx
      rcases hx with hx | rfl
      · have := ih x hx; omega
      · omega
    · intro x hx; have := ih x hx; omega
theorem live_len (s : TS) : s.live.length ≤ s.l.length := liveTo_len s _
theorem old_fold (s : TS) (now : Int) (k : Nat) : (s.liveTo k).foldl (fun a id => min a (s.tx (id - 1).toNat).b) now = s.oldTo now k := by
  induction k with
  | zero => rfl
  | succ k ih =>
    unfold TS.liveTo TS.oldTo
    split
    · rw [List.foldl_append, ih]
      simp
    · exact ih
theorem oldTo_b {s : TS} (h : TOk s) (now : Int) (n0 : 0 ≤ now) (n1 : now ≤ 18446744073709551615) (k : Nat) (hk : k ≤ s.l.length) : 0 ≤ s.oldTo now k ∧ s.oldTo now k ≤ now := by
  induction k with
  | zero => exact ⟨n0, Int.le_refl _⟩
  | succ k ih =>
    have i := ih (by omega)
    have x := h.x k (by omega)
    unfold TS.oldTo
    split
    · have := x.b0
      omega
    · exact i
end Go.Proofs.Ytbbinfdgmfmaeaa
