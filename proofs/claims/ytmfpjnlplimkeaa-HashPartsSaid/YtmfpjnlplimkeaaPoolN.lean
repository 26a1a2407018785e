/- Contract of New of package pool: refused outside the bounds; a Pool of n free slots inside them. -/
import Derived.Test.YtmfpjnlplimkeaaPoolB
namespace Go.Proofs.Ytmfpjnlplimkeaa
open Go.ChangeShapes Go.WideShapes Go.ChangeAt Go.RowKit
set_option linter.unusedVariables false

theorem info_slot : (Try.prog.info? 149).map (fun i => (i.zero, i.size, i.bytes)) = some (some (.agg #[.int .i64 0, .bool false]), 2, 16) := by kernel_rfl
theorem slot_cells {w : World} {base g n : Nat} (h : w.ownsRow base 149 2 (.slice (some ⟨g, 0, none⟩) n n) n (madeCells #[.int .i64 0, .bool false] (n * 2)).toList) (i : Nat) (hi : i < n) :
    w.cell? ⟨g, i * 2, none⟩ = some (.int .i64 0) ∧ w.cell? ⟨g, i * 2 + 1, none⟩ = some (.bool false) := by
  constructor
  · rw [h.cellAt _ (by omega)]
    simp [madeCells, show i * 2 < n * 2 by omega]
  · rw [h.cellAt _ (by omega)]
    simp [madeCells, show i * 2 + 1 < n * 2 by omega, show (i * 2 + 1) % 2 = 1 by omega]
def NewP (n : Nat) (most : Int) (w : World) (e : Ending) (w' : World) : Prop :=
  ∃ p b1, e = .returned (.tuple #[.pointer (some ⟨p, 0, none⟩), .int .i64 0]) ∧ Core w' p b1 0 0 (.slice none 0 0) 0 (St.new n most) ∧ w.heap.size ≤ p ∧ w.heap.size ≤ b1 ∧ Below w.heap.size w w'
theorem qnew_no (n m : Int) (w : World) (h : n < 1 ∨ (¬ n < 1 ∧ 4096 < n) ∨ (¬ n < 1 ∧ ¬ 4096 < n ∧ m < 0) ∨ (¬ n < 1 ∧ ¬ 4096 < n ∧ ¬ m < 0 ∧ 65535 < m)) : Calls Try.prog 10 #[.int .i64 n, .int .i64 m] w fun e w' => e = .returned (.tuple #[.pointer none, .int .i64 1]) ∧ w = w' := by
  rcases h with h | ⟨h, h2⟩ | ⟨h, h2, h3⟩ | ⟨h, h2, h3, h4⟩
  all_goals
    go_enter Try.func10, Try.ntmps10
    go_wp2
    go_ret2
    exact ⟨rfl, rfl⟩
theorem core_new {x : World} {b1 n : Nat} {m : Int} (o : x.ownsRow 0 149 2 (.slice (some ⟨b1, 0, none⟩) n n) n (madeCells #[.int .i64 0, .bool false] (n * 2)).toList) (lb : b1 < x.heap.size) :
    Core (x.alloc (.cells #[.slice (some ⟨b1, 0, none⟩) n n, .int .i64 m, .int .i64 0, .int .i64 0, .int .u32 0, .int .i32 0, .int .u32 0, .slice none 0 0] 76)) x.heap.size b1 0 0 (.slice none 0 0) 0 (St.new n m) := by
  have e : (St.new n m).tags.length = n := by simp [St.new]
  have k := Keep.alloc (Keep.refl (fun _ => False) x) (.cells #[.slice (some ⟨b1, 0, none⟩) n n, .int .i64 m, .int .i64 0, .int .i64 0, .int .u32 0, .int .i32 0, .int .u32 0, .slice none 0 0] 76)
  refine ⟨by rw [e]; simp, by simp [St.new], by simp, by simp [St.new], by simp, by simp, by simp, fun i => by simp, fun i hi => ?_, fun i hi => ?_, fun i => ?_, by simp; omega, by omega⟩
  · rw [e] at hi
    have := (slot_cells o i hi).1
    rw [show (St.new n m).tag i = 0 by simp only [St.tag, St.new, getD_rep]]
    exact k.cell this (by simp)
  · rw [e] at hi
    have := (slot_cells o i hi).2
    rw [show (St.new n m).tk i = false by simp only [St.tk, St.new, getD_rep]]
    exact k.cell this (by simp)
  · exact (k.frozen (a := ⟨b1, i, none⟩) lb (by simp)).trans (o.frozenAt i)
set_option maxRecDepth 100000 in
set_option maxHeartbeats 2000000 in
theorem qnew_ok (n : Nat) (m : Int) (w : World) (h0 : 1 ≤ n) (h1 : n ≤ 4096) (m0 : 0 ≤ m) (m1 : m ≤ 65535) : Calls Try.prog 10 #[.int .i64 n, .int .i64 m] w (NewP n m w) := by
  obtain ⟨i0, hi, hz0, hz1, hz2⟩ := info_parts info_slot
  go_enter Try.func10, Try.ntmps10
  go_wp2_with (with_reducible refine wpList_make_full _ rfl (.tmp 20) (.tmp 20) 74 rfl 0 149 i0 (.agg #[.int .i64 0, .bool false]) 2 Try.underlying74 hi hz0 hz1 .i64 .i64 n n n rfl rfl rfl rfl (by rw [hz2]; omega) (by unfold maxLen; omega) (Nat.zero_le _) ?_)
  intro x1 o1 gr1
  have k1 := keep_grownP gr1 (fun _ => False)
  have lb : w.heap.size < x1.heap.size := by
    rcases o1.2 with ⟨h, _⟩ | ⟨g, c, cur, hv, _, hh, _⟩
    · simp at h
    · simp at hv; obtain ⟨rfl, _⟩ := hv; exact lt_of_block hh
  have C := core_new (m := m) o1 lb
  have B := (k1.alloc (.cells #[.slice (some ⟨w.heap.size, 0, none⟩) n n, .int .i64 m, .int .i64 0, .int .i64 0, .int .u32 0, .int .i32 0, .int .u32 0, .slice none 0 0] 76)).below (Nat.le_refl _) (by simp)
  clear o1 gr1
  go_wp2
  go_ret2
  exact ⟨_, _, rfl, C, k1.size, Nat.le_refl _, B⟩
end Go.Proofs.Ytmfpjnlplimkeaa
