/- Contracts of the document's own answer for layer 7 (vinculumref1's Look, by, Begin, End, See): of what is told of the transactions in a slice; condition: the slice reads as that list. -/
import Derived.Test.YtdkgngdfehllcaaOth
import Derived.Test.YtdkgngdfehllcaaSeeI
import Derived.Test.YtdkgngdfehllcaaWord
import Derived.Deep.QuietTactic
import Derived.BigQuiet
namespace Go.Proofs.Ytdkgngdfehllcaa
open Go.ChangeShapes Go.WideShapes Go.ChangeAt Go.RowKit
set_option linter.unusedVariables false

def txV (x : Tx) : Value := .agg #[.int .i64 x.lv, .int .i64 x.st, .int .u64 x.b, .int .u64 x.e]
/-- What the list tells of each transaction. -/
def lookL (f : Nat → Ot) (n : Nat) (id : Int) : Option Tx := if 1 ≤ id ∧ id ≤ n ∧ (f (id - 1).toNat).th = true then some (f (id - 1).toNat).x else none
def lookV (o : Option Tx) : Value := match o with
  | none => .tuple #[txV ⟨0, 0, 0, 0⟩, .bool false]
  | some x => .tuple #[txV x, .bool true]
theorem look_any {A : Option Addr} {n c : Nat} {f : Nat → Ot} {w : World} (h : IsOth w A n c f) (id : Int) (i0 : -9223372036854775808 ≤ id) (i1 : id ≤ 9223372036854775807) :
    Calls Try.prog 20 #[.slice A n c, .int .i64 id] w fun e w' => e = .returned (lookV (lookL f n id)) ∧ Below w.heap.size w w' := by
  by_cases h1 : 1 ≤ id ∧ id ≤ n
  · obtain ⟨j, ej⟩ : ∃ j : Nat, id - 1 = j := ⟨(id - 1).toNat, by omega⟩
    have hj : j < n := by omega
    obtain ⟨b, off, rfl, hb, hc⟩ := h.cell (by omega)
    obtain ⟨c0, c1, c2, c3, c4⟩ := hc j hj
    have wr : IntKind.i64.wrap (id - 1) = j := by rw [IntWalk.i64_in _ (by omega)]; exact ej
    have d1 : decide ((n : Int) < id) = false := decide_eq_false (by omega)
    have d0 : decide (id < 1) = false := decide_eq_false (by omega)
    have e : lookL f n id = if (f j).th = true then some (f j).x else none := by
      unfold lookL
      rw [show (id - 1).toNat = j by omega]
      by_cases ht : (f j).th = true
      · rw [if_pos ⟨h1.1, h1.2, ht⟩, if_pos ht]
      · rw [if_neg (fun x => ht x.2.2), if_neg ht]
    rw [e]
    obtain ⟨h2, h3⟩ := h1
    clear e ej
    cases ht : (f j).th with
    | true =>
      rw [ht] at c0
      go_enter Try.func20, Try.ntmps20
      go_wp2
      exact bodyPost_ret (v := lookV (some (f j).x)) (by simp [results, Try.results20, go_sem, lookV, txV]) rfl ⟨rfl, (Below.refl _ _).alloc (Nat.le_refl _) _⟩
    | false =>
      rw [ht] at c0
      go_enter Try.func20, Try.ntmps20
      go_wp2
      exact bodyPost_ret (v := lookV (none)) (by simp [results, Try.results20, go_sem, lookV, txV]) rfl ⟨rfl, (Below.refl _ _).alloc (Nat.le_refl _) _⟩
  · have e : lookL f n id = none := by unfold lookL; rw [if_neg (by omega)]
    rw [e]
    rcases (by omega : id < 1 ∨ (¬ id < 1 ∧ (n : Int) < id)) with h2 | ⟨h2, h3⟩
    all_goals
      clear h1 e
      go_enter Try.func20, Try.ntmps20
      go_wp2
      exact bodyPost_ret (v := lookV (none)) (by simp [results, Try.results20, go_sem, lookV, txV]) rfl ⟨rfl, (Below.refl _ _).alloc (Nat.le_refl _) _⟩
def V2 (r : Int × Int) : Value := .tuple #[.int .i64 r.1, .int .i64 r.2]
theorem rby_any {A : Option Addr} {n c : Nat} {f : Nat → Ot} {w : World} (h : IsOth w A n c f) (id me t : Int) (i0 : -9223372036854775808 ≤ id) (i1 : id ≤ 9223372036854775807) :
    Calls Try.prog 46 #[.slice A n c, .int .i64 id, .int .i64 me, .int .u64 t] w fun e w' => e = .returned (V2 (byI (lookL f n) id me t)) ∧ Below w.heap.size w w' := by
  by_cases hm : id = me
  · subst hm
    rw [show byI (lookL f n) id id t = (1, 0) by unfold byI; rw [if_pos rfl]]
    go_enter Try.func46, Try.ntmps46
    go_wp2
    go_ret2
    exact ⟨rfl, Below.refl _ _⟩
  · have q0 : (id == me) = false := by simpa using hm
    have hl := look_any h id i0 i1
    have e : byI (lookL f n) id me t = match lookL f n id with
      | none => (3, 0)
      | some x => byX x id t := by unfold byI; rw [if_neg hm]; cases lookL f n id <;> rfl
    rw [e]
    clear e hm
    cases hL : lookL f n id with
    | none =>
      rw [hL] at hl
      go_enter Try.func46, Try.ntmps46
      go_wp2_with fail
      refine hl.mono ?_
      rintro e w1 ⟨rfl, b1⟩
      unfold lookV txV
      go_wp2
      go_ret2
      exact ⟨rfl, b1.trans (((Keep.alloc (Keep.refl (fun _ => False) w1) _)).below (b1.size) (by simp))⟩
    | some x =>
      rw [hL] at hl
      dsimp only
      rcases (by omega : x.st = 5 ∨ (x.st = 3 ∧ x.e ≤ t) ∨ (x.st = 3 ∧ t < x.e) ∨ (x.st = 2 ∧ x.e = 0) ∨ (x.st = 2 ∧ x.e ≠ 0 ∧ x.e ≤ t) ∨ (x.st = 2 ∧ x.e ≠ 0 ∧ t < x.e) ∨ (x.st ≠ 5 ∧ x.st ≠ 3 ∧ x.st ≠ 2)) with hs | ⟨hs, he⟩ | ⟨hs, he⟩ | ⟨hs, he⟩ | ⟨hs, he, he2⟩ | ⟨hs, he, he2⟩ | ⟨hs, hs2, hs3⟩
      · rw [show byX x id t = (3, 0) by unfold byX; rw [if_pos hs]]
        (go_enter Try.func46, Try.ntmps46); go_wp2_with fail; refine hl.mono ?_; rintro e w1 ⟨rfl, b1⟩; unfold lookV txV; go_wp2; go_ret2; exact ⟨rfl, b1.trans (((Keep.alloc (Keep.refl (fun _ => False) w1) _)).below (b1.size) (by simp))⟩
      · rw [show byX x id t = (1, 0) by unfold byX; rw [if_neg (by omega), if_pos ⟨hs, he⟩]]
        have d1 : decide (x.e ≤ t) = true := decide_eq_true he
        (go_enter Try.func46, Try.ntmps46); go_wp2_with fail; refine hl.mono ?_; rintro e w1 ⟨rfl, b1⟩; unfold lookV txV; go_wp2; go_ret2; exact ⟨rfl, b1.trans (((Keep.alloc (Keep.refl (fun _ => False) w1) _)).below (b1.size) (by simp))⟩
      · rw [show byX x id t = (2, 0) by unfold byX; rw [if_neg (by omega), if_neg (by omega), if_neg (by omega)]]
        have d1 : decide (x.e ≤ t) = false := decide_eq_false (by omega)
        (go_enter Try.func46, Try.ntmps46); go_wp2_with fail; refine hl.mono ?_; rintro e w1 ⟨rfl, b1⟩; unfold lookV txV; go_wp2; go_ret2; exact ⟨rfl, b1.trans (((Keep.alloc (Keep.refl (fun _ => False) w1) _)).below (b1.size) (by simp))⟩
      · rw [show byX x id t = (2, 0) by unfold byX; rw [if_neg (by omega), if_neg (by omega), if_neg (by omega)]]
        (go_enter Try.func46, Try.ntmps46); go_wp2_with fail; refine hl.mono ?_; rintro e w1 ⟨rfl, b1⟩; unfold lookV txV; go_wp2; go_ret2; exact ⟨rfl, b1.trans (((Keep.alloc (Keep.refl (fun _ => False) w1) _)).below (b1.size) (by simp))⟩
      · rw [show byX x id t = (4, id) by unfold byX; rw [if_neg (by omega), if_neg (by omega), if_pos ⟨hs, he, he2⟩]]
        have d1 : decide (x.e ≤ t) = true := decide_eq_true he2
        have q1 : (x.e != 0) = true := by simpa using he
        (go_enter Try.func46, Try.ntmps46); go_wp2_with fail; refine hl.mono ?_; rintro e w1 ⟨rfl, b1⟩; unfold lookV txV; go_wp2; go_ret2; exact ⟨rfl, b1.trans (((Keep.alloc (Keep.refl (fun _ => False) w1) _)).below (b1.size) (by simp))⟩
      · rw [show byX x id t = (2, 0) by unfold byX; rw [if_neg (by omega), if_neg (by omega), if_neg (by omega)]]
        have d1 : decide (x.e ≤ t) = false := decide_eq_false (by omega)
        have q1 : (x.e != 0) = true := by simpa using he
        (go_enter Try.func46, Try.ntmps46); go_wp2_with fail; refine hl.mono ?_; rintro e w1 ⟨rfl, b1⟩; unfold lookV txV; go_wp2; go_ret2; exact ⟨rfl, b1.trans (((Keep.alloc (Keep.refl (fun _ => False) w1) _)).below (b1.size) (by simp))⟩
      · rw [show byX x id t = (2, 0) by unfold byX; rw [if_neg (by omega), if_neg (by omega), if_neg (by omega)]]
        have q5 : (x.st == 5) = false := by simpa using hs
        have q3 : (x.st == 3) = false := by simpa using hs2
        have q2 : (x.st == 2) = false := by simpa using hs3
        (go_enter Try.func46, Try.ntmps46); go_wp2_with fail; refine hl.mono ?_; rintro e w1 ⟨rfl, b1⟩; unfold lookV txV; go_wp2; go_ret2; exact ⟨rfl, b1.trans (((Keep.alloc (Keep.refl (fun _ => False) w1) _)).below (b1.size) (by simp))⟩
end Go.Proofs.Ytdkgngdfehllcaa
