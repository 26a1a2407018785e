/- Package table: settle, which publishes an outcome, where there is none yet; conditions: a transaction's block, and the closure's three cells. -/
import Derived.Test.YtodmpmnjkfnogaaTabP
import Derived.Test.YtodmpmnjkfnogaaOnceC
namespace Go.Proofs.Ytodmpmnjkfnogaa
open Go.ChangeShapes Go.WideShapes Go.ChangeAt Go.RowKit
set_option linter.unusedVariables false

theorem set_far {w : World} {a c : Addr} {u : Value} (h : a ≠ c) : (w.setCell a u).cell? c = w.cell? c := World.cell?_setCell_other _ _ _ _ h
theorem drew_cell (w : World) (a : Addr) : w.drew.cell? a = w.cell? a := rfl
/-- Not yet told: 1; told: 0. -/
def waits (bf : Nat) (w : World) : Nat := match w.cell? ⟨bf, 0, none⟩ with
  | some (.bool false) => 1
  | _ => 0
def Told (bf b : Nat) (z : Int) (w wr : World) : Prop := wr = w ∨ wr = ((w.drew.setCell ⟨b, 2, none⟩ (.int .u64 z)).setCell ⟨bf, 0, none⟩ (.bool true))
set_option maxRecDepth 100000 in
theorem settle1 (bf bx bt b : Nat) (t st e : Int) (t0 : 0 ≤ t) (t1 : t ≤ 7) (s0 : 0 ≤ st) (s1 : st ≤ 7) (e0 : 0 ≤ e) (e1 : e ≤ 1099511627776) (w : World) (hn : b ≠ bf) (hf : w.cell? ⟨bf, 0, none⟩ = some (.bool false)) (hx : w.cell? ⟨bx, 0, none⟩ = some (.pointer (some ⟨b, 0, none⟩)))
    (ht : w.cell? ⟨bt, 0, none⟩ = some (.int .i64 t)) (hw : w.cell? ⟨b, 2, none⟩ = some (.int .u64 (e * 8 + st))) (zf : w.frozen? ⟨bf, 0, none⟩ = false) (zw : w.frozen? ⟨b, 2, none⟩ = false) :
    Calls Try.prog 38 #[.pointer (some ⟨bf, 0, none⟩), .pointer (some ⟨bx, 0, none⟩), .pointer (some ⟨bt, 0, none⟩)] w fun x w' => x = .returned (.tuple #[]) ∧ w' = ((w.drew.setCell ⟨b, 2, none⟩ (.int .u64 (e * 8 + t))).setCell ⟨bf, 0, none⟩ (.bool true)) := by
  obtain ⟨z, ez⟩ : ∃ z, e * 8 + st = z := ⟨_, rfl⟩
  have L := loadUint64 ⟨b, 2, none⟩ z w (by rw [← ez]; exact hw) rfl
  have U := qunpack st e s0 s1 e0 e1 w
  have K := qpack t e t0 t1 e0 e1
  obtain ⟨y, ey⟩ : ∃ y, e * 8 + t = y := ⟨_, rfl⟩
  rw [ez] at U hw
  rw [ey] at K ⊢
  have C := casUint64 ⟨b, 2, none⟩ z y w.drew hw zw rfl
  have cf : (w.drew.setCell ⟨b, 2, none⟩ (.int .u64 y)).cell? ⟨bf, 0, none⟩ = some (.bool false) := by rw [set_far (by intro h; exact hn (congrArg Addr.block h))]; exact hf
  have ef : ((w.drew.setCell ⟨b, 2, none⟩ (.int .u64 y)).setCell ⟨bf, 0, none⟩ (.bool true)).cell? ⟨bf, 0, none⟩ = some (.bool true) := World.cell?_setCell_same _ _ _ cf
  have ML : waits bf ((w.drew.setCell ⟨b, 2, none⟩ (.int .u64 y)).setCell ⟨bf, 0, none⟩ (.bool true)) < waits bf w := by
    unfold waits
    rw [ef, hf]
    decide
  clear ez ey
  go_enter Try.func38, Try.ntmps38
  go_wp2
  go_loopw [3] (fun i wr => Told bf b y w wr) (fun _ wr => waits bf wr)
  case atStart => exact .inl rfl
  case round =>
    rcases hrel with rfl | rfl
    · go_wp2_with fail
      refine L.mono ?_
      rintro e w1 ⟨rfl, rfl⟩
      go_wp2_with fail
      refine U.mono ?_
      rintro e w1 ⟨rfl, rfl⟩
      go_wp2_with fail
      go_still_tail 7, (by kernel_rfl)
      still_call ((K _).mono (by rintro e w1 ⟨rfl, rfl⟩; exact ⟨rfl, rfl⟩))
      try refine wpStill_nil ?_
      change wpList _ _ _ _ _ wr.drew
      go_wp2_with fail
      refine C.mono ?_
      rintro e w1 ⟨rfl, rfl⟩
      go_wp2
      go_roundw
      case rel => exact .inr rfl
      case measure => exact ML
    · go_wp2
      go_end0
      exact ⟨rfl, rfl⟩
theorem three (w : World) (u0 u1 u2 : Value) (t0 t1 t2 : TypeId) :
    (((w.alloc (.cells #[u0] t0)).alloc (.cells #[u1] t1)).alloc (.cells #[u2] t2)).cell? ⟨w.heap.size, 0, none⟩ = some u0 ∧
    (((w.alloc (.cells #[u0] t0)).alloc (.cells #[u1] t1)).alloc (.cells #[u2] t2)).cell? ⟨w.heap.size + 1, 0, none⟩ = some u1 ∧
    (((w.alloc (.cells #[u0] t0)).alloc (.cells #[u1] t1)).alloc (.cells #[u2] t2)).cell? ⟨w.heap.size + 1 + 1, 0, none⟩ = some u2 ∧
    (((w.alloc (.cells #[u0] t0)).alloc (.cells #[u1] t1)).alloc (.cells #[u2] t2)).frozen? ⟨w.heap.size + 1 + 1, 0, none⟩ = false := by
  obtain ⟨w1, e1⟩ : ∃ w1, w.alloc (.cells #[u0] t0) = w1 := ⟨_, rfl⟩
  have s1 : w1.heap.size = w.heap.size + 1 := by rw [← e1]; simp
  have a0 : w1.cell? ⟨w.heap.size, 0, none⟩ = some u0 := by rw [← e1]; simp
  rw [e1]
  obtain ⟨w2, e2⟩ : ∃ w2, w1.alloc (.cells #[u1] t1) = w2 := ⟨_, rfl⟩
  have s2 : w2.heap.size = w1.heap.size + 1 := by rw [← e2]; simp
  have a1 : w2.cell? ⟨w1.heap.size, 0, none⟩ = some u1 := by rw [← e2]; simp
  have b0 : w2.cell? ⟨w.heap.size, 0, none⟩ = some u0 := by rw [← e2, World.cell?_alloc_lt _ _ _ (by show w.heap.size < w1.heap.size; omega)]; exact a0
  rw [e2, ← s1, ← s2]
  refine ⟨?_, ?_, by simp, by simp⟩
  · rw [World.cell?_alloc_lt _ _ _ (by show w.heap.size < w2.heap.size; omega)]; exact b0
  · rw [World.cell?_alloc_lt _ _ _ (by show w1.heap.size < w2.heap.size; omega)]; exact a1
def SettlePost (b : Nat) (x : Tx) (w : World) (e : Ending) (w' : World) : Prop := e = .returned (.bool true) ∧ EntL w' b x ∧ Keep (fun j => j = b) w w'
theorem settle_yes (b : Nat) (x : Tx) (t : Int) (t3 : 3 ≤ t) (t4 : t ≤ 4) (w : World) (h : EntL w b x) (ok : TxOk x) (hs : x.st ≤ 2) :
    Calls Try.prog 31 #[.pointer (some ⟨b, 0, none⟩), .int .i64 t] w (SettlePost b { x with st := t } w) := by
  have lb := entL.lt h
  have s0 := ok.s0
  have e0 := ok.e0
  have e1 := ok.e1
  obtain ⟨N, eN⟩ : ∃ N, w.heap.size = N := ⟨_, rfl⟩
  have EN := Lib.hid eN
  have ho := Lib.hid (show (if x.st ≤ 2 then (0 : Int) else 1) = 0 from if_pos hs)
  go_enter Try.func31, Try.ntmps31
  go_wp2_with fail
  have k3 := Keep.alloc (Keep.alloc (Keep.alloc (Keep.refl (fun _ => False) w) (.cells #[.pointer (some ⟨b, 0, none⟩)] 61)) (.cells #[.int .i64 t] 3)) (.cells #[.bool false] 4)
  obtain ⟨M, eM⟩ : ∃ M, ((w.alloc (.cells #[.pointer (some ⟨b, 0, none⟩)] 61)).alloc (.cells #[.int .i64 t] 3)).alloc (.cells #[.bool false] 4) = M := ⟨_, rfl⟩
  rw [eN] at lb
  have ⟨a0, a1, a2, z2⟩ := three w (.pointer (some ⟨b, 0, none⟩)) (.int .i64 t) (.bool false) 61 3 4
  rw [eN, eM] at a0 a1 a2 z2
  rw [eM] at k3 ⊢
  have h := entL.keep h k3 (by simp)
  clear eM
  have c3 := h.c3
  rw [ho.out] at c3
  refine (once_first b 3 _ (fun w2 => w2 = ((M.setCell ⟨b, 4, none⟩ (.int .i32 1)).drew.setCell ⟨b, 2, none⟩ (.int .u64 (x.e * 8 + t))).setCell ⟨N + 1 + 1, 0, none⟩ (.bool true)) M c3 h.c4 (h.fz 4) ?_).mono ?_
  · refine (settle1 (N + 1 + 1) N (N + 1) b t x.st x.e (by omega) (by omega) (by omega) (by omega) e0 e1 _ (by omega) ?_ ?_ ?_ ?_ ?_ ?_).mono ?_
    · rw [World.cell?_setCell_other _ _ _ _ (by first | (simp; done) | (simp; omega))]; exact a2
    · rw [World.cell?_setCell_other _ _ _ _ (by first | (simp; done) | (simp; omega))]; exact a0
    · rw [World.cell?_setCell_other _ _ _ _ (by first | (simp; done) | (simp; omega))]; exact a1
    · rw [World.cell?_setCell_other _ _ _ _ (by first | (simp; done) | (simp; omega))]; exact h.c2
    · simpa using z2
    · simpa using h.fz 2
    rintro e w3 ⟨rfl, rfl⟩
    refine ⟨rfl, rfl, ?_, ?_, by simpa using h.fz 3, by simpa using h.fz 4⟩
    · rw [World.cell?_setCell_other _ _ _ _ (by first | (simp; done) | (simp; omega)), World.cell?_setCell_other _ _ _ _ (by first | (simp; done) | (simp; omega)), drew_cell, World.cell?_setCell_other _ _ _ _ (by first | (simp; done) | (simp; omega))]; exact c3
    · rw [World.cell?_setCell_other _ _ _ _ (by first | (simp; done) | (simp; omega)), World.cell?_setCell_other _ _ _ _ (by first | (simp; done) | (simp; omega)), drew_cell]; exact World.cell?_setCell_same _ _ _ h.c4
  rintro e w4 ⟨rfl, w3, rfl, rfl⟩
  have kf := ((((((Keep.refl (fun j => j = b ∨ N ≤ j) M).setCell (p := ⟨b, 4, none⟩) (.inl rfl) (.int .i32 1)).drew.setCell (p := ⟨b, 2, none⟩) (.inl rfl) (.int .u64 (x.e * 8 + t))).setCell (p := ⟨N + 1 + 1, 0, none⟩) (.inr (show N ≤ N + 1 + 1 by omega)) (.bool true)).drew.setCell (p := ⟨b, 3, none⟩) (.inl rfl) (.int .u32 1)).setCell (p := ⟨b, 3 + 1, none⟩) (.inl rfl) (.int .i32 0))
  obtain ⟨F, eF⟩ : ∃ F, ((((((M.setCell ⟨b, 4, none⟩ (.int .i32 1)).drew.setCell ⟨b, 2, none⟩ (.int .u64 (x.e * 8 + t))).setCell ⟨N + 1 + 1, 0, none⟩ (.bool true)).drew.setCell ⟨b, 3, none⟩ (.int .u32 1)).setCell ⟨b, 3 + 1, none⟩ (.int .i32 0)) : World) = F := ⟨_, rfl⟩
  rw [eF] at kf ⊢
  have q2 : F.cell? ⟨N + 1 + 1, 0, none⟩ = some (.bool true) := by
    rw [← eF, World.cell?_setCell_other _ _ _ _ (by first | (simp; done) | (simp; omega)), World.cell?_setCell_other _ _ _ _ (by first | (simp; done) | (simp; omega)), drew_cell]
    refine World.cell?_setCell_same _ _ _ (u := .bool false) ?_
    rw [World.cell?_setCell_other _ _ _ _ (by first | (simp; done) | (simp; omega)), drew_cell, World.cell?_setCell_other _ _ _ _ (by first | (simp; done) | (simp; omega))]; exact a2
  have ent : EntL F b { x with st := t } := by
    refine ⟨?_, ?_, ?_, ?_, ?_, fun i => by rw [← eF]; simpa using h.fz i⟩
    · rw [← eF, World.cell?_setCell_other _ _ _ _ (by first | (simp; done) | (simp; omega)), World.cell?_setCell_other _ _ _ _ (by first | (simp; done) | (simp; omega)), drew_cell, World.cell?_setCell_other _ _ _ _ (by first | (simp; done) | (simp; omega)), World.cell?_setCell_other _ _ _ _ (by first | (simp; done) | (simp; omega)), drew_cell, World.cell?_setCell_other _ _ _ _ (by first | (simp; done) | (simp; omega))]; exact h.c0
    · rw [← eF, World.cell?_setCell_other _ _ _ _ (by first | (simp; done) | (simp; omega)), World.cell?_setCell_other _ _ _ _ (by first | (simp; done) | (simp; omega)), drew_cell, World.cell?_setCell_other _ _ _ _ (by first | (simp; done) | (simp; omega)), World.cell?_setCell_other _ _ _ _ (by first | (simp; done) | (simp; omega)), drew_cell, World.cell?_setCell_other _ _ _ _ (by first | (simp; done) | (simp; omega))]; exact h.c1
    · rw [← eF, World.cell?_setCell_other _ _ _ _ (by first | (simp; done) | (simp; omega)), World.cell?_setCell_other _ _ _ _ (by first | (simp; done) | (simp; omega)), drew_cell, World.cell?_setCell_other _ _ _ _ (by first | (simp; done) | (simp; omega))]
      exact World.cell?_setCell_same _ _ _ (by rw [drew_cell, World.cell?_setCell_other _ _ _ _ (by first | (simp; done) | (simp; omega))]; exact h.c2)
    · rw [← eF, World.cell?_setCell_other _ _ _ _ (by first | (simp; done) | (simp; omega)), if_neg (show ¬ t ≤ 2 by omega)]
      exact World.cell?_setCell_same _ _ _ (by rw [drew_cell, World.cell?_setCell_other _ _ _ _ (by first | (simp; done) | (simp; omega)), World.cell?_setCell_other _ _ _ _ (by first | (simp; done) | (simp; omega)), drew_cell, World.cell?_setCell_other _ _ _ _ (by first | (simp; done) | (simp; omega))]; exact c3)
    · rw [← eF]
      exact World.cell?_setCell_same _ _ _ (u := .int .i32 1) (by rw [World.cell?_setCell_other _ _ _ _ (by first | (simp; done) | (simp; omega)), drew_cell, World.cell?_setCell_other _ _ _ _ (by first | (simp; done) | (simp; omega)), World.cell?_setCell_other _ _ _ _ (by first | (simp; done) | (simp; omega)), drew_cell]; exact World.cell?_setCell_same _ _ _ h.c4)
  have kw : Keep (fun j => j = b) w F := by
    have := (k3.mono (T := fun j => j = b ∨ N ≤ j) (by simp)).trans kf
    exact ⟨this.os, this.tape, this.output, this.size, fun j hj n => this.block j hj (fun y => by have := EN.out; rcases y with y | y; exact n y; omega)⟩
  clear eF kf a0 a1 a2 z2 h c3
  go_wp2
  go_ret
  exact ⟨rfl, ent, kw⟩
end Go.Proofs.Ytodmpmnjkfnogaa
