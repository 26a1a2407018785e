/- Contract of the Pool's listFree: the list of free slots of a Pool of which nothing was ever taken; condition: a state that calls can bring about. -/
import Derived.Test.YtmfpjnlplimkeaaGreatPoolA
import Derived.RegionTactic
import Derived.ChangeAlike
namespace Go.Proofs.YtmfpjnlplimkeaaGreat
open Go.ChangeShapes Go.WideShapes Go.ChangeAt Go.RowKit
set_option linter.unusedVariables false

section
variable {w : World} {p b1 : Nat} {d m : Int} {vf : Value} {u : Int} {s : St}
/-- The list behind k rounds. -/
def downTo (n k : Nat) : List Int := ((List.range k).map fun (j : Nat) => (n : Int) - 1 - j) ++ List.replicate (n - k) 0
theorem down_len (n k : Nat) (h : k ≤ n) : (downTo n k).length = n := by simp [downTo]; omega
theorem down_zero (n : Nat) : downTo n 0 = List.replicate n 0 := by simp [downTo]
theorem down_step (n k : Nat) (h : k < n) : (downTo n k).set k ((n : Int) - 1 - k) = downTo n (k + 1) := by
  apply List.ext_getElem?
  intro i
  simp only [downTo, List.getElem?_set, List.getElem?_append, List.getElem?_map, List.getElem?_replicate, List.length_append, List.length_map, List.length_range, List.length_replicate]
  by_cases e : k = i
  · subst e
    simp
    omega
  · simp only [e, if_false]
    by_cases e2 : i < k
    · simp [e2, show i < k + 1 by omega]
    · simp only [e2, if_false, show ¬ i < k + 1 by omega]
      by_cases e3 : i < n
      · simp [show i - k < n - k by omega, show i - (k + 1) < n - (k + 1) by omega]
      · simp [show ¬ i - k < n - k by omega, show ¬ i - (k + 1) < n - (k + 1) by omega]
theorem down_all (s : St) (hg : s.given = []) (hf : s.fresh = 0) : downTo s.tags.length s.tags.length = s.stack := by
  simp [downTo, St.stack, hg, hf]
def ListPost (p b1 : Nat) (u : Int) (s : St) (w : World) (e : Ending) (w' : World) : Prop :=
  e = .returned (.tuple #[]) ∧ ∃ b2, Core w' p b1 0 1 (.slice (some ⟨b2, 0, none⟩) s.tags.length s.tags.length) u s ∧ OwnP w' (.slice (some ⟨b2, 0, none⟩) s.tags.length s.tags.length) s.stack ∧ w.heap.size ≤ b2 ∧ Keep (fun k => k = p) w w'
theorem info_intP : (Tryz.prog.info? 3).map (fun i => (i.zero, i.size, i.bytes)) = some (some (.int .i64 0), 1, 8) := by kernel_rfl
theorem own_madeP {w : World} {base g n : Nat} (h : w.ownsRow base 3 1 (.slice (some ⟨g, 0, none⟩) n n) n (madeCells #[.int .i64 0] n).toList) : OwnP w (.slice (some ⟨g, 0, none⟩) n n) (List.replicate n 0) := by
  have e : (madeCells #[.int .i64 0] n).toList = List.replicate n (.int .i64 0) := toList_madeCells_one _ _
  rw [e] at h
  exact Own.of_base h (by simp) (by simp)
theorem keep_grownP {w w' : World} (h : w.grownBy w' none) (S : Nat → Prop) : Keep S w w' := ⟨h.os, h.tape, h.output, h.size, fun k hk _ => h.block k hk (by simp)⟩
theorem Keep.setNew {S : Nat → Prop} {a w : World} (h : Keep S a w) {p : Addr} (hp : a.heap.size ≤ p.block) (u : Value) : Keep S a (w.setCell p u) :=
  ⟨h.os, h.tape, h.output, by have := h.size; simpa [World.setCell] using this, fun k hk n => (Below.heap_setCell _ _ _ _ (by omega)).trans (h.block k hk n)⟩
set_option maxHeartbeats 2000000 in
theorem qlistFree (h : Core w p b1 0 1 (.slice none 0 0) u s) (ok : Ok s) (hg : s.given = []) (hf : s.fresh = 0) :
    Calls Tryz.prog 48 #[.pointer (some ⟨p, 0, none⟩)] w (ListPost p b1 u s w) := by
  have g0 := h.c0
  have g7 := h.c7
  have z7 := h.fz 7
  have n1 := ok.n1
  have lb := h.lb
  have lp := h.lp
  have hp1 := h.p1
  obtain ⟨i0, hi, hz0, hz1, hz2⟩ := info_parts info_intP
  obtain ⟨n, en⟩ : ∃ n, s.tags.length = n := ⟨_, rfl⟩
  have EN := Lib.hid en
  rw [en] at g0 n1
  clear en
  go_enter Tryz.func48, Tryz.ntmps48
  go_wp2_with (with_reducible refine wpList_make_full _ rfl (.tmp 8) (.tmp 8) 41 rfl w.heap.size 3 i0 (.int .i64 0) 1 Tryz.underlying41 hi hz0 hz1 .i64 .i64 n n n rfl rfl rfl rfl (by rw [hz2]; omega) (by unfold maxLen; omega) (Nat.le_refl _) ?_)
  intro x1 o1 gr1
  have o1 := own_madeP o1
  have k1 := keep_grownP gr1 (fun _ => False)
  have y0 := k1.cell g0 (by simp)
  have y7 := k1.cell g7 (by simp)
  have f7 := (k1.frozen (a := ⟨p, 7, none⟩) lp (by simp)).trans z7
  have a1 := (h.keep k1 (by simp) (by simp)).setF (.slice (some ⟨w.heap.size, 0, none⟩) n n)
  have K1 := (k1.mono (T := fun k => k = p) (by simp)).setCell (p := ⟨p, 7, none⟩) rfl (.slice (some ⟨w.heap.size, 0, none⟩) n n)
  have o2 := o1.keep (keep_one x1 ⟨p, 7, none⟩ (.slice (some ⟨w.heap.size, 0, none⟩) n n)) (fun g hg e => by cases hg; simp at e; omega)
  go_wp2
  clear g0 g7 z7 y0 y7 f7 k1 gr1 o1 h
  obtain ⟨x2, ex⟩ : ∃ x, x1.setCell ⟨p, 7, none⟩ (.slice (some ⟨w.heap.size, 0, none⟩) n n) = x := ⟨_, rfl⟩
  rw [ex] at a1 K1 o2 ⊢
  clear ex
  go_loopw [17] (fun i wr => ∃ k : Nat, k ≤ n ∧ i = .int .i64 k ∧ Core wr p b1 0 1 (.slice (some ⟨w.heap.size, 0, none⟩) n n) u s ∧ OwnP wr (.slice (some ⟨w.heap.size, 0, none⟩) n n) (downTo n k) ∧ Keep (fun k => k = p) w wr) (fun i _ => n - (intOf i).toNat)
  case atStart => exact ⟨0, Nat.zero_le _, rfl, a1, by rw [down_zero]; exact o2, K1⟩
  case round =>
    obtain ⟨k, hk, rfl, a2, o3, K2⟩ := hrel
    clear a1 o2 K1
    by_cases hlt : k < n
    · have y0 := a2.c0
      rw [EN.out] at y0
      have y7 := a2.c7
      have dl := down_len n k hk
      have yc := o3.cell k (by omega)
      have yf := o3.free k
      have NS := Lib.hid (down_step n k hlt)
      have os := o3.set k ((n : Int) - 1 - k)
      rw [NS.out] at os
      obtain ⟨q, eq⟩ : ∃ q, (downTo n k)[k]'(by omega) = q := ⟨_, rfl⟩
      rw [eq] at yc
      have e1 : IntKind.i64.wrap ((n : Int) - 1) = (n : Int) - 1 := IntWalk.i64_in _ (by omega)
      have e2 : IntKind.i64.wrap ((n : Int) - 1 - k) = (n : Int) - 1 - k := IntWalk.i64_in _ (by omega)
      have A2 := Lib.hid a2
      clear eq dl a2
      go_wp2
      go_region
      go_wp2
      go_roundw
      case rel => exact ⟨k + 1, by omega, by go_num, (A2.out.keep (keep_one wr ⟨w.heap.size, k, none⟩ _) (by simp; omega) (by simp; omega)).keep (Keep.drew (Keep.refl (fun _ => False) _)) (by simp) (by simp), os.keep (Keep.drew (Keep.refl (fun _ => False) _)) (by simp), (K2.setNew (Nat.le_refl _) _).drew⟩
      case measure => simp [intOf]; omega
    · obtain rfl : k = n := by omega
      go_wp2
      go_end0
      refine ⟨rfl, w.heap.size, ?_, ?_, Nat.le_refl _, K2⟩
      · rw [EN.out]; exact a2
      · rw [EN.out, ← down_all s hg hf, EN.out]; exact o3
end
end Go.Proofs.YtmfpjnlplimkeaaGreat
