/- Package model as landed, in memory: New. No condition. -/
import Derived.Test.YtkkjofefjepodaaLawModelPlaysZag
import Derived.Test.YtkkjofefjepodaaLawModelPlaysZaj
namespace Go.Proofs.Ytkkjofefjepodaa
open Go.ChangeShapes Go.WideShapes Go.ChangeAt Go.RowKit
set_option linter.unusedVariables false
set_option linter.unusedSimpArgs false
section
variable {w : World}
def newZ0 (slots limit : Int) : LdI := ⟨slots, limit, 0, 0, fun _ => none, fun _ => [], fun _ => ⟨4, 0⟩⟩
def newL (slots limit : Int) : List Value := [.int .i64 slots, .int .u64 limit, .int .u64 0, .int .i64 0] ++ List.replicate 8 (.pointer none) ++ List.replicate 64 (.slice none 0 0)
theorem newL_at (slots limit : Int) : (newL slots limit)[0]? = some (.int .i64 slots) ∧ (newL slots limit)[1]? = some (.int .u64 limit) ∧ (newL slots limit)[2]? = some (.int .u64 0) ∧ (newL slots limit)[3]? = some (.int .i64 0) ∧ (∀ i, i < 8 → (newL slots limit)[4 + i]? = some (.pointer none)) ∧ ∀ k, k < 64 → (newL slots limit)[12 + k]? = some (.slice none 0 0) := by
 refine ⟨rfl, rfl, rfl, rfl, fun k hk => ?_, fun k hk => ?_⟩
 ·unfold newL
  rw [List.getElem?_append_left (by simp <;> omega), List.getElem?_append_right (by simp <;> omega), List.getElem?_replicate]
  simp
  omega
 ·unfold newL
  rw [List.getElem?_append_right (by simp <;> omega), List.getElem?_replicate]
  simp
  omega
set_option maxRecDepth 100000 in
theorem new_arr (slots limit : Int) : ((Try.zeroCells97.setIfInBounds 0 (.int .i64 slots)).setIfInBounds 1 (.int .u64 limit)) = (newL slots limit).toArray := by kernel_rfl
theorem newL_ld (w : World) (slots limit : Int) : ∃ o, LdAt (w.alloc (.cells (newL slots limit).toArray 97)) w.heap.size (fun _ => .slice none 0 0) o (newZ0 slots limit) ∧ ∀ g, o g ≠ 0 → g = w.heap.size := by
 obtain ⟨a0, a1, a2, a3, a4, a5⟩ := newL_at slots limit
 have hc : ∀ (i : Nat) (u : Value), (newL slots limit)[i]? = some u → (w.alloc (.cells (newL slots limit).toArray 97)).cell? ⟨w.heap.size, i, none⟩ = some u := fun i u h => by simpa using h
 refine ⟨fun g => if g = w.heap.size then 1 else 0, ⟨⟨hc _ _ a0, hc _ _ a1, hc _ _ a2, hc _ _ a3, fun i hi => hc _ _ (a4 i hi), fun k hk => hc _ _ (a5 k hk), fun i => by simp⟩, fun k hk => Own.nil, fun i t hi ht => (by cases ht), fun k v hk hv => (by cases hv), fun g hg => ?_, if_pos rfl, fun k g hk hg => (by cases hg), fun i t hi ht => (by cases ht), fun k v hk hv => (by cases hv), fun k k' u v hk hk' hu => (by cases hu), fun g hg => ?_⟩, fun g hg => ?_⟩
 ·have hg : (if g = w.heap.size then 1 else 0) = 81 := hg
  split at hg <;> cases hg
 ·have hg : (if g = w.heap.size then 1 else 0) ≠ 0 := hg
  by_cases e : g = w.heap.size
  ·rw [e]; simp
  ·rw [if_neg e] at hg; exact absurd rfl hg
 ·have hg : (if g = w.heap.size then 1 else 0) ≠ 0 := hg
  by_cases e : g = w.heap.size
  ·exact e
  ·rw [if_neg e] at hg; exact absurd rfl hg
theorem new_no (slots limit : Int) (h : confI slots limit = false) (w : World) : Calls Try.prog 25 #[cfV slots limit] w fun e w' => e = .returned (.tuple #[.pointer none, .int .i64 1]) ∧ Keep (fun _ => False) w w' := by
 have h := of_decide_eq_false h
 have k1 : Keep (fun _ => False) w (w.alloc (.cells #[.int .i64 slots, .int .u64 limit] 48)) := (Keep.refl _ _).alloc _
 unfold cfV
 by_cases h1 : slots < 1
 ·have d1 : decide (slots < 1) = true := decide_eq_true h1
  clear h
  go_enter Try.func25, Try.ntmps25; go_wp2; refine bodyPost_ret (v := .tuple #[.pointer none, .int .i64 1]) (by simp [results, Try.results25, go_sem]) rfl ?_; exact ⟨rfl, k1⟩
 ·have d1 : decide (slots < 1) = false := decide_eq_false h1
  by_cases h2 : 256 < slots
  ·have d2 : decide (256 < slots) = true := decide_eq_true h2
   clear h
   go_enter Try.func25, Try.ntmps25; go_wp2; refine bodyPost_ret (v := .tuple #[.pointer none, .int .i64 1]) (by simp [results, Try.results25, go_sem]) rfl ?_; exact ⟨rfl, k1⟩
  ·have d2 : decide (256 < slots) = false := decide_eq_false h2
   by_cases h3 : limit < 1
   ·have d3 : decide (limit < 1) = true := decide_eq_true h3
    clear h
    go_enter Try.func25, Try.ntmps25; go_wp2; refine bodyPost_ret (v := .tuple #[.pointer none, .int .i64 1]) (by simp [results, Try.results25, go_sem]) rfl ?_; exact ⟨rfl, k1⟩
   ·have d3 : decide (limit < 1) = false := decide_eq_false h3
    have d4 : decide (1099511627776 < limit) = true := by rw [decide_eq_true_iff]; omega
    clear h
    go_enter Try.func25, Try.ntmps25; go_wp2; refine bodyPost_ret (v := .tuple #[.pointer none, .int .i64 1]) (by simp [results, Try.results25, go_sem]) rfl ?_; exact ⟨rfl, k1⟩
theorem new_yes (slots limit : Int) (h : confI slots limit = true) (w : World) : Calls Try.prog 25 #[cfV slots limit] w fun e w' => ∃ m o, e = .returned (.tuple #[.pointer (some ⟨m, 0, none⟩), .int .i64 0]) ∧ w.heap.size ≤ m ∧ LdAt w' m (fun _ => .slice none 0 0) o (newZ0 slots limit) ∧ (∀ g, o g ≠ 0 → g = m) ∧ Keep (fun _ => False) w w' := by
 obtain ⟨h1, h2, h3, h4⟩ := of_decide_eq_true h
 have d1 : decide (slots < 1) = false := decide_eq_false (by omega)
 have d2 : decide (256 < slots) = false := decide_eq_false (by omega)
 have d3 : decide (limit < 1) = false := decide_eq_false (by omega)
 have d4 : decide (1099511627776 < limit) = false := decide_eq_false (by omega)
 unfold cfV
 obtain ⟨W1, e1⟩ : ∃ W1, w.alloc (.cells #[.int .i64 slots, .int .u64 limit] 48) = W1 := ⟨_, rfl⟩
 have k1 : Keep (fun _ => False) w W1 := by rw [← e1]; exact (Keep.refl _ _).alloc _
 have c0 : W1.cell? ⟨w.heap.size, 0, none⟩ = some (.int .i64 slots) := by rw [← e1]; simp
 have c1 : W1.cell? ⟨w.heap.size, 1, none⟩ = some (.int .u64 limit) := by rw [← e1]; simp
 have s1 : w.heap.size ≤ W1.heap.size := k1.size
 obtain ⟨o, ho, hg⟩ := newL_ld W1 slots limit
 have FIN := Lib.hid ho
 have K1 := Lib.hid k1
 have S1 := Lib.hid s1
 have G1 := Lib.hid hg
 clear h h1 h2 h3 h4 k1 s1 ho hg
 go_enter Try.func25, Try.ntmps25
 go_wp2
 rw [new_arr]
 refine bodyPost_ret (v := .tuple #[.pointer (some ⟨W1.heap.size, 0, none⟩), .int .i64 0]) (by simp [results, Try.results25, go_sem]) rfl ?_
 exact ⟨_, o, rfl, S1.out, FIN.out, G1.out, K1.out.trans ((Keep.refl _ _).alloc _)⟩
end
end Go.Proofs.Ytkkjofefjepodaa
