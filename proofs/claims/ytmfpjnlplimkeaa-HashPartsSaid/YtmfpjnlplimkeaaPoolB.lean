/- Contract of the Pool's listFree: the list of free slots of a Pool of which nothing was ever taken; condition: a state that calls can bring about. -/
import Derived.Test.YtmfpjnlplimkeaaPoolA
import Derived.RegionTactic
import Derived.ChangeAlike
namespace Go.Proofs.Ytmfpjnlplimkeaa
open Go.ChangeShapes Go.WideShapes Go.ChangeAt Go.RowKit
set_option linter.unusedVariables false

section
variable {w : World} {p b1 : Nat} {d m : Int} {vf : Value} {u : Int} {s : St}
/-- The list behind k rounds. -/
def downTo (n k : Nat) : List Int := ((List.range k).map fun (j : Nat) => (n : Int) - 1 - j) ++ List.replicate (n - k) 0
theorem down_len (n k : Nat) (h : k ≤ n) : (downTo n k).length = n := by simp [downTo]; omega
theorem down_zero (n : Nat) : downTo n 0 = List.replicate n 0 := by simp [downTo]
theorem down_step (n k : Nat) (h : k < n) : (downTo n k).set k ((n : Int) - 1 - k) = downTo n (k + 1) := by
  apply List.ext_getElem?
  intro i
  simp only [downTo, List.getElem?_set, List.getElem?_append, List.getElem?_map, List.getElem?_replicate, List.length_append, List.length_map, List.length_range, List.length_replicate]
  by_cases e : k = i
  · subst e
    simp
    omega
  · simp only [e, if_false]
    by_cases e2 : i < k
    · simp [e2, show i < k + 1 by omega]
    · simp only [e2, if_false, show ¬ i < k + 1 by omega]
      by_cases e3 : i < n
      · simp [show i - k < n - k by omega, show i - (k + 1) < n - (k + 1) by omega]
      · simp [show ¬ i - k < n - k by omega, show ¬ i - (k + 1) < n - (k + 1) by omega]
theorem down_all (s : St) (hg : s.given = []) (hf : s.fresh = 0) : downTo s.tags.length s.tags.length = s.stack := by
  simp [downTo, St.stack, hg, hf]
def ListPost (p b1 : Nat) (u : Int) (s : St) (w : World) (e : Ending) (w' : World) : Prop :=
  e = .returned (.tuple #[]) ∧ ∃ b2, Core w' p b1 0 1 (.slice (some ⟨b2, 0, none⟩) s.tags.length s.tags.length) u s ∧ OwnP w' (.slice (some ⟨b2, 0, none⟩) s.tags.length s.tags.length) s.stack ∧ w.heap.size ≤ b2 ∧ Keep (fun k => k = p) w w'
theorem info_intP : (Try.prog.info? 3).map (fun i => (i.zero, i.size, i.bytes)) = some (some (.int .i64 0), 1, 8) := by kernel_rfl
theorem own_madeP {w : World} {base g n : Nat} (h : w.ownsRow base 3 1 (.slice (some ⟨g, 0, none⟩) n n) n (madeCells #[.int .i64 0] n).toList) : OwnP w (.slice (some ⟨g, 0, none⟩) n n) (List.replicate n 0) := by
  have e : (madeCells #[.int .i64 0] n).toList = List.replicate n (.int .i64 0) := toList_madeCells_one _ _
  rw [e] at h
  exact Own.of_base h (by simp) (by simp)
theorem keep_grownP {w w' : World} (h : w.grownBy w' none) (S : Nat → Prop) : Keep S w w' := ⟨h.os, h.tape, h.output, h.size, fun k hk _ => h.block k hk (by simp)⟩
theorem Keep.setNew {S : Nat → Prop} {a w : World} (h : Keep S a w) {p : Addr} (hp : a.heap.size ≤ p.block) (u : Value) : Keep S a (w.setCell p u) :=
  ⟨h.os, h.tape, h.output, by have := h.size; simpa [World.setCell] using this, fun k hk n => (Below.heap_setCell _ _ _ _ (by omega)).trans (h.block k hk n)⟩
end
end Go.Proofs.Ytmfpjnlplimkeaa
