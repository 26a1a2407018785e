/- Several texts, one behind the other: PoolA, PoolB, PoolT, PoolG, PoolN, Same. -/
import Derived.Test.YtmfpjnlplimkeaaGreatLawHashPlaysZab
import Derived.Test.YtmfpjnlplimkeaaGreatLawHashPlaysZaa
import Derived.Test.YtmfpjnlplimkeaaGreatLawHashPlaysZac
import Derived.Deep.QuietTactic
import Derived.BigQuiet
import Derived.RegionTactic
import Derived.ChangeAlike
/- What a Pool of package pool is in memory, and the contracts of those of its methods that turn nothing: link, Live, Free, Used, Worn; condition: a state that calls can bring about. -/
namespace Go.Proofs.YtmfpjnlplimkeaaGreat
open Go.ChangeShapes Go.WideShapes Go.ChangeAt Go.RowKit
set_option linter.unusedVariables false

/-- A slice of ints of the call's own. -/
abbrev OwnP (w : World) (v : Value) (zs : List Int) : Prop := Own (Value.int .i64) 3 w v zs
/-- The free slots as a stack, its top last: those never taken, the least last; then those given back. -/
def St.stack (s : St) : List Int := ((List.range (s.tags.length - s.fresh.toNat)).map fun (j : Nat) => (s.tags.length : Int) - 1 - j) ++ s.given
/-- The Pool at block p, its slots at block b1, its list of free slots vf; d: whether the list was made; m: whether that is under way; u: how many it holds to be taken. -/
structure Core (w : World) (p b1 : Nat) (d m : Int) (vf : Value) (u : Int) (s : St) : Prop where
  c0 : w.cell? ⟨p, 0, none⟩ = some (.slice (some ⟨b1, 0, none⟩) s.tags.length s.tags.length)
  c1 : w.cell? ⟨p, 1, none⟩ = some (.int .i64 s.most)
  c2 : w.cell? ⟨p, 2, none⟩ = some (.int .i64 u)
  c3 : w.cell? ⟨p, 3, none⟩ = some (.int .i64 s.worn)
  c4 : w.cell? ⟨p, 4, none⟩ = some (.int .u32 d)
  c5 : w.cell? ⟨p, 5, none⟩ = some (.int .i32 m)
  c7 : w.cell? ⟨p, 7, none⟩ = some vf
  fz : ∀ i, w.frozen? ⟨p, i, none⟩ = false
  tg : ∀ i, i < s.tags.length → w.cell? ⟨b1, i * 2, none⟩ = some (.int .i64 (s.tag i))
  tk : ∀ i, i < s.tags.length → w.cell? ⟨b1, i * 2 + 1, none⟩ = some (.bool (s.tk i))
  fb : ∀ i, w.frozen? ⟨b1, i, none⟩ = false
  lb : b1 < w.heap.size
  p1 : p ≠ b1
theorem Core.keep {S : Nat → Prop} {w w' : World} {p b1 : Nat} {d m : Int} {vf : Value} {u : Int} {s : St} (h : Core w p b1 d m vf u s) (k : Keep S w w') (hp : ¬ S p) (hb : ¬ S b1) : Core w' p b1 d m vf u s :=
  ⟨k.cell h.c0 hp, k.cell h.c1 hp, k.cell h.c2 hp, k.cell h.c3 hp, k.cell h.c4 hp, k.cell h.c5 hp, k.cell h.c7 hp, fun i => (k.frozen (a := ⟨p, i, none⟩) (lt_of_cell (a := ⟨p, 0, none⟩) h.c0) hp).trans (h.fz i),
    fun i hi => k.cell (h.tg i hi) hb, fun i hi => k.cell (h.tk i hi) hb, fun i => (k.frozen (a := ⟨b1, i, none⟩) h.lb hb).trans (h.fb i), Nat.lt_of_lt_of_le h.lb k.size, h.p1⟩
theorem Core.lp {w : World} {p b1 : Nat} {d m : Int} {vf : Value} {u : Int} {s : St} (h : Core w p b1 d m vf u s) : p < w.heap.size := lt_of_cell (a := ⟨p, 0, none⟩) h.c0
/-- The list: not made yet, where nothing was ever taken; or made, in a block of its own with room for all slots. -/
inductive Free (w : World) (p b1 : Nat) (s : St) : Int → Value → Prop
  | not : s.given = [] → s.fresh = 0 → Free w p b1 s 0 (.slice none 0 0)
  | made (b2 : Nat) : OwnP w (.slice (some ⟨b2, 0, none⟩) s.stack.length s.tags.length) s.stack → p ≠ b2 → b1 ≠ b2 → Free w p b1 s 1 (.slice (some ⟨b2, 0, none⟩) s.stack.length s.tags.length)
section
variable {w : World} {p b1 : Nat} {d m : Int} {vf : Value} {u : Int} {s : St}
theorem Core.setD (h : Core w p b1 d m vf u s) (x : Int) : Core (w.setCell ⟨p, 4, none⟩ (.int .u32 x)) p b1 x m vf u s := by
  have k : Keep (fun z => z = p) w (w.setCell ⟨p, 4, none⟩ (.int .u32 x)) := keep_one w ⟨p, 4, none⟩ _
  refine ⟨?_, ?_, ?_, ?_, World.cell?_setCell_same _ _ _ h.c4, ?_, ?_, fun i => by simpa using h.fz i, fun i hi => k.cell (h.tg i hi) h.p1.symm, fun i hi => k.cell (h.tk i hi) h.p1.symm, fun i => by simpa using h.fb i, Nat.lt_of_lt_of_le h.lb k.size, h.p1⟩
  · rw [World.cell?_setCell_other _ _ _ _ (by simp)]; exact h.c0
  · rw [World.cell?_setCell_other _ _ _ _ (by simp)]; exact h.c1
  · rw [World.cell?_setCell_other _ _ _ _ (by simp)]; exact h.c2
  · rw [World.cell?_setCell_other _ _ _ _ (by simp)]; exact h.c3
  · rw [World.cell?_setCell_other _ _ _ _ (by simp)]; exact h.c5
  · rw [World.cell?_setCell_other _ _ _ _ (by simp)]; exact h.c7
theorem Core.setM (h : Core w p b1 d m vf u s) (x : Int) : Core (w.setCell ⟨p, 5, none⟩ (.int .i32 x)) p b1 d x vf u s := by
  have k : Keep (fun z => z = p) w (w.setCell ⟨p, 5, none⟩ (.int .i32 x)) := keep_one w ⟨p, 5, none⟩ _
  refine ⟨?_, ?_, ?_, ?_, ?_, World.cell?_setCell_same _ _ _ h.c5, ?_, fun i => by simpa using h.fz i, fun i hi => k.cell (h.tg i hi) h.p1.symm, fun i hi => k.cell (h.tk i hi) h.p1.symm, fun i => by simpa using h.fb i, Nat.lt_of_lt_of_le h.lb k.size, h.p1⟩
  · rw [World.cell?_setCell_other _ _ _ _ (by simp)]; exact h.c0
  · rw [World.cell?_setCell_other _ _ _ _ (by simp)]; exact h.c1
  · rw [World.cell?_setCell_other _ _ _ _ (by simp)]; exact h.c2
  · rw [World.cell?_setCell_other _ _ _ _ (by simp)]; exact h.c3
  · rw [World.cell?_setCell_other _ _ _ _ (by simp)]; exact h.c4
  · rw [World.cell?_setCell_other _ _ _ _ (by simp)]; exact h.c7
theorem Core.setF (h : Core w p b1 d m vf u s) (x : Value) : Core (w.setCell ⟨p, 7, none⟩ (x)) p b1 d m x u s := by
  have k : Keep (fun z => z = p) w (w.setCell ⟨p, 7, none⟩ (x)) := keep_one w ⟨p, 7, none⟩ _
  refine ⟨?_, ?_, ?_, ?_, ?_, ?_, World.cell?_setCell_same _ _ _ h.c7, fun i => by simpa using h.fz i, fun i hi => k.cell (h.tg i hi) h.p1.symm, fun i hi => k.cell (h.tk i hi) h.p1.symm, fun i => by simpa using h.fb i, Nat.lt_of_lt_of_le h.lb k.size, h.p1⟩
  · rw [World.cell?_setCell_other _ _ _ _ (by simp)]; exact h.c0
  · rw [World.cell?_setCell_other _ _ _ _ (by simp)]; exact h.c1
  · rw [World.cell?_setCell_other _ _ _ _ (by simp)]; exact h.c2
  · rw [World.cell?_setCell_other _ _ _ _ (by simp)]; exact h.c3
  · rw [World.cell?_setCell_other _ _ _ _ (by simp)]; exact h.c4
  · rw [World.cell?_setCell_other _ _ _ _ (by simp)]; exact h.c5
theorem Core.setU (h : Core w p b1 d m vf u s) (x : Int) : Core (w.setCell ⟨p, 2, none⟩ (.int .i64 x)) p b1 d m vf x s := by
  have k : Keep (fun z => z = p) w (w.setCell ⟨p, 2, none⟩ (.int .i64 x)) := keep_one w ⟨p, 2, none⟩ _
  refine ⟨?_, ?_, World.cell?_setCell_same _ _ _ h.c2, ?_, ?_, ?_, ?_, fun i => by simpa using h.fz i, fun i hi => k.cell (h.tg i hi) h.p1.symm, fun i hi => k.cell (h.tk i hi) h.p1.symm, fun i => by simpa using h.fb i, Nat.lt_of_lt_of_le h.lb k.size, h.p1⟩
  · rw [World.cell?_setCell_other _ _ _ _ (by simp)]; exact h.c0
  · rw [World.cell?_setCell_other _ _ _ _ (by simp)]; exact h.c1
  · rw [World.cell?_setCell_other _ _ _ _ (by simp)]; exact h.c3
  · rw [World.cell?_setCell_other _ _ _ _ (by simp)]; exact h.c4
  · rw [World.cell?_setCell_other _ _ _ _ (by simp)]; exact h.c5
  · rw [World.cell?_setCell_other _ _ _ _ (by simp)]; exact h.c7
theorem Core.setWorn (h : Core w p b1 d m vf u s) (x : Int) : Core (w.setCell ⟨p, 3, none⟩ (.int .i64 x)) p b1 d m vf u { s with worn := x } := by
  have k : Keep (fun z => z = p) w (w.setCell ⟨p, 3, none⟩ (.int .i64 x)) := keep_one w ⟨p, 3, none⟩ _
  refine ⟨?_, ?_, ?_, World.cell?_setCell_same _ _ _ h.c3, ?_, ?_, ?_, fun i => by simpa using h.fz i, fun i hi => k.cell (h.tg i hi) h.p1.symm, fun i hi => k.cell (h.tk i hi) h.p1.symm, fun i => by simpa using h.fb i, Nat.lt_of_lt_of_le h.lb k.size, h.p1⟩
  · rw [World.cell?_setCell_other _ _ _ _ (by simp)]; exact h.c0
  · rw [World.cell?_setCell_other _ _ _ _ (by simp)]; exact h.c1
  · rw [World.cell?_setCell_other _ _ _ _ (by simp)]; exact h.c2
  · rw [World.cell?_setCell_other _ _ _ _ (by simp)]; exact h.c4
  · rw [World.cell?_setCell_other _ _ _ _ (by simp)]; exact h.c5
  · rw [World.cell?_setCell_other _ _ _ _ (by simp)]; exact h.c7
theorem Core.setTk (h : Core w p b1 d m vf u s) (i : Nat) (b : Bool) (hi : i < s.taken.length) (tl : s.taken.length = s.tags.length) : Core (w.setCell ⟨b1, i * 2 + 1, none⟩ (.bool b)) p b1 d m vf u { s with taken := s.taken.set i b } := by
  have k : Keep (fun z => z = b1) w (w.setCell ⟨b1, i * 2 + 1, none⟩ (.bool b)) := keep_one w ⟨b1, i * 2 + 1, none⟩ _
  refine ⟨k.cell h.c0 h.p1, k.cell h.c1 h.p1, k.cell h.c2 h.p1, k.cell h.c3 h.p1, k.cell h.c4 h.p1, k.cell h.c5 h.p1, k.cell h.c7 h.p1, fun i => by simpa using h.fz i, fun j hj => ?_, fun j hj => ?_, fun i => by simpa using h.fb i, Nat.lt_of_lt_of_le h.lb k.size, h.p1⟩
  · rw [World.cell?_setCell_other _ _ _ _ (by first | (simp; done) | (simp; omega))]; exact h.tg j hj
  · show World.cell? _ _ = some (.bool ((s.taken.set i b).getD j false))
    rw [tk_set b hi]
    by_cases e : j = i
    · subst e
      rw [World.cell?_setCell_same _ _ _ (h.tk j hj), if_pos rfl]
    · rw [World.cell?_setCell_other _ _ _ _ (by first | (simp; done) | (simp; omega)), if_neg e]; exact h.tk j hj
theorem Core.setTag (h : Core w p b1 d m vf u s) (i : Nat) (t : Int) (hi : i < s.tags.length) : Core (w.setCell ⟨b1, i * 2, none⟩ (.int .i64 t)) p b1 d m vf u { s with tags := s.tags.set i t } := by
  have k : Keep (fun z => z = b1) w (w.setCell ⟨b1, i * 2, none⟩ (.int .i64 t)) := keep_one w ⟨b1, i * 2, none⟩ _
  have l : (s.tags.set i t).length = s.tags.length := List.length_set
  refine ⟨?_, k.cell h.c1 h.p1, k.cell h.c2 h.p1, k.cell h.c3 h.p1, k.cell h.c4 h.p1, k.cell h.c5 h.p1, k.cell h.c7 h.p1, fun i => by simpa using h.fz i, fun j hj => ?_, fun j hj => ?_, fun i => by simpa using h.fb i, Nat.lt_of_lt_of_le h.lb k.size, h.p1⟩
  · simp only [l]; exact k.cell h.c0 h.p1
  · have hj : j < s.tags.length := by simpa using hj
    show World.cell? _ _ = some (.int .i64 ((s.tags.set i t).getD j 0))
    rw [tag_set t hi]
    by_cases e : j = i
    · subst e
      rw [World.cell?_setCell_same _ _ _ (h.tg j hi), if_pos rfl]
    · rw [World.cell?_setCell_other _ _ _ _ (by first | (simp; done) | (simp; omega)), if_neg e]; exact h.tg j hj
  · have hj : j < s.tags.length := by simpa using hj
    rw [World.cell?_setCell_other _ _ _ _ (by first | (simp; done) | (simp; omega))]; exact h.tk j hj
theorem Core.cutGiven (h : Core w p b1 d m vf u s) (gs : List Int) : Core w p b1 d m vf u { s with given := gs } := ⟨h.c0, h.c1, h.c2, h.c3, h.c4, h.c5, h.c7, h.fz, h.tg, h.tk, h.fb, h.lb, h.p1⟩
theorem Core.fresh (h : Core w p b1 d m vf u s) (x : Int) : Core w p b1 d m vf u { s with fresh := x } := ⟨h.c0, h.c1, h.c2, h.c3, h.c4, h.c5, h.c7, h.fz, h.tg, h.tk, h.fb, h.lb, h.p1⟩
theorem tag_bp (ok : Ok s) (i : Nat) : 0 ≤ s.tag i ∧ s.tag i ≤ 65535 := by
  have := ok.tg i
  have := ok.m1
  omega
theorem qlink_b (h : Core w p b1 d m vf u s) (i : Nat) (hi : i < s.tags.length) (n1 : s.tags.length ≤ 4096) (hb : 0 ≤ s.tag i ∧ s.tag i ≤ 65535) :
    Calls Tryz.prog 49 #[.pointer (some ⟨p, 0, none⟩), .int .i64 i] w fun e w' => e = .returned (.int .u64 (s.link i)) ∧ w = w' := by
  have g1 := h.c0
  have ht := h.tg i hi
  unfold St.link
  obtain ⟨t, et⟩ : ∃ t, s.tag i = t := ⟨_, rfl⟩
  rw [et] at ht hb ⊢
  clear et
  go_enter Tryz.func49, Tryz.ntmps49
  go_wp2_with (go_at_call 64; refine (linkw_ok _ _ (by omega) (by omega) (by omega) (by omega) _).mono ?_; rintro e w' ⟨rfl, rfl⟩)
  go_ret
  exact ⟨rfl, rfl⟩
theorem qlive_yes (h : Core w p b1 d m vf u s) (ok : Ok s) (i : Nat) (hi : i < s.tags.length) (ht : s.tk i = true) :
    Calls Tryz.prog 50 #[.pointer (some ⟨p, 0, none⟩), .int .u64 (s.link i)] w fun e w' => e = .returned (.bool true) ∧ w = w' := by
  have g0 := h.c0
  have hk := h.tk i hi
  rw [ht] at hk
  have n1 := ok.n1
  have hm := link_mod s i (by omega)
  have hlb := link_b ok i hi
  have hR := qlink_b h i hi n1 (tag_bp ok i)
  obtain ⟨l, el⟩ : ∃ l, s.link i = l := ⟨_, rfl⟩
  rw [el] at hm hlb hR ⊢
  clear el
  have hu : uslot l = i := by unfold uslot; omega
  have hU := unlink_any l (by omega) (by omega) w
  rw [hu] at hU
  clear hm hu
  go_enter Tryz.func50, Tryz.ntmps50
  go_wp2_with (first | (go_at_call 51; refine hU.mono ?_; rintro e w' ⟨rfl, rfl⟩) | (go_at_call 49; refine hR.mono ?_; rintro e w' ⟨rfl, rfl⟩))
  go_ret
  exact ⟨rfl, rfl⟩
theorem qlive_no (h : Core w p b1 d m vf u s) (ok : Ok s) (l : Int) (h0 : 0 ≤ l) (h1 : l ≤ 18446744073709551615) (hl : s.live l = false) :
    Calls Tryz.prog 50 #[.pointer (some ⟨p, 0, none⟩), .int .u64 l] w fun e w' => e = .returned (.bool false) ∧ w = w' := by
  have g0 := h.c0
  have n1 := ok.n1
  have hU := unlink_any l h0 h1 w
  rcases not_live hl with hm | hm | ⟨i, hm, hi, hk⟩
  · rw [show uslot l = -1 by unfold uslot; omega] at hU
    clear hm
    go_enter Tryz.func50, Tryz.ntmps50
    go_wp2_with (go_at_call 51; refine hU.mono ?_; rintro e w' ⟨rfl, rfl⟩)
    go_ret
    exact ⟨rfl, rfl⟩
  · obtain ⟨m, em⟩ : ∃ m : Nat, l % 131072 = m + 1 := ⟨(l % 131072 - 1).toNat, by omega⟩
    have m1 : m ≤ 131071 := by omega
    have nt : decide (m < s.tags.length) = false := decide_eq_false (by omega)
    rw [show uslot l = m by unfold uslot; omega] at hU
    clear hm em
    go_enter Tryz.func50, Tryz.ntmps50
    go_wp2_with (go_at_call 51; refine hU.mono ?_; rintro e w' ⟨rfl, rfl⟩)
    go_ret
    exact ⟨rfl, rfl⟩
  · rw [show uslot l = i by unfold uslot; omega] at hU
    clear hm
    have hc := h.tk i hi
    rcases hk with hk | ⟨hk, hne⟩
    · rw [hk] at hc
      go_enter Tryz.func50, Tryz.ntmps50
      go_wp2_with (go_at_call 51; refine hU.mono ?_; rintro e w' ⟨rfl, rfl⟩)
      go_ret
      exact ⟨rfl, rfl⟩
    · rw [hk] at hc
      have hR := qlink_b h i hi n1 (tag_bp ok i)
      have hb : (s.link i == l) = false := by simpa using fun e => hne e.symm
      go_enter Tryz.func50, Tryz.ntmps50
      go_wp2_with (first | (go_at_call 51; refine hU.mono ?_; rintro e w' ⟨rfl, rfl⟩) | (go_at_call 49; refine hR.mono ?_; rintro e w' ⟨rfl, rfl⟩))
      go_ret
      exact ⟨rfl, rfl⟩
end
end Go.Proofs.YtmfpjnlplimkeaaGreat
/- Contract of the Pool's listFree: the list of free slots of a Pool of which nothing was ever taken; condition: a state that calls can bring about. -/
namespace Go.Proofs.YtmfpjnlplimkeaaGreat
open Go.ChangeShapes Go.WideShapes Go.ChangeAt Go.RowKit
set_option linter.unusedVariables false

section
variable {w : World} {p b1 : Nat} {d m : Int} {vf : Value} {u : Int} {s : St}
/-- The list behind k rounds. -/
def downTo (n k : Nat) : List Int := ((List.range k).map fun (j : Nat) => (n : Int) - 1 - j) ++ List.replicate (n - k) 0
theorem down_len (n k : Nat) (h : k ≤ n) : (downTo n k).length = n := by simp [downTo]; omega
theorem down_zero (n : Nat) : downTo n 0 = List.replicate n 0 := by simp [downTo]
theorem down_step (n k : Nat) (h : k < n) : (downTo n k).set k ((n : Int) - 1 - k) = downTo n (k + 1) := by
  apply List.ext_getElem?
  intro i
  simp only [downTo, List.getElem?_set, List.getElem?_append, List.getElem?_map, List.getElem?_replicate, List.length_append, List.length_map, List.length_range, List.length_replicate]
  by_cases e : k = i
  · subst e
    simp
    omega
  · simp only [e, if_false]
    by_cases e2 : i < k
    · simp [e2, show i < k + 1 by omega]
    · simp only [e2, if_false, show ¬ i < k + 1 by omega]
      by_cases e3 : i < n
      · simp [show i - k < n - k by omega, show i - (k + 1) < n - (k + 1) by omega]
      · simp [show ¬ i - k < n - k by omega, show ¬ i - (k + 1) < n - (k + 1) by omega]
theorem down_all (s : St) (hg : s.given = []) (hf : s.fresh = 0) : downTo s.tags.length s.tags.length = s.stack := by
  simp [downTo, St.stack, hg, hf]
def ListPost (p b1 : Nat) (u : Int) (s : St) (w : World) (e : Ending) (w' : World) : Prop :=
  e = .returned (.tuple #[]) ∧ ∃ b2, Core w' p b1 0 1 (.slice (some ⟨b2, 0, none⟩) s.tags.length s.tags.length) u s ∧ OwnP w' (.slice (some ⟨b2, 0, none⟩) s.tags.length s.tags.length) s.stack ∧ w.heap.size ≤ b2 ∧ Keep (fun k => k = p) w w'
theorem info_intP : (Tryz.prog.info? 3).map (fun i => (i.zero, i.size, i.bytes)) = some (some (.int .i64 0), 1, 8) := by kernel_rfl
theorem own_madeP {w : World} {base g n : Nat} (h : w.ownsRow base 3 1 (.slice (some ⟨g, 0, none⟩) n n) n (madeCells #[.int .i64 0] n).toList) : OwnP w (.slice (some ⟨g, 0, none⟩) n n) (List.replicate n 0) := by
  have e : (madeCells #[.int .i64 0] n).toList = List.replicate n (.int .i64 0) := toList_madeCells_one _ _
  rw [e] at h
  exact Own.of_base h (by simp) (by simp)
theorem keep_grownP {w w' : World} (h : w.grownBy w' none) (S : Nat → Prop) : Keep S w w' := ⟨h.os, h.tape, h.output, h.size, fun k hk _ => h.block k hk (by simp)⟩
theorem Keep.setNew {S : Nat → Prop} {a w : World} (h : Keep S a w) {p : Addr} (hp : a.heap.size ≤ p.block) (u : Value) : Keep S a (w.setCell p u) :=
  ⟨h.os, h.tape, h.output, by have := h.size; simpa [World.setCell] using this, fun k hk n => (Below.heap_setCell _ _ _ _ (by omega)).trans (h.block k hk n)⟩
set_option maxHeartbeats 2000000 in
theorem qlistFree (h : Core w p b1 0 1 (.slice none 0 0) u s) (ok : Ok s) (hg : s.given = []) (hf : s.fresh = 0) :
    Calls Tryz.prog 48 #[.pointer (some ⟨p, 0, none⟩)] w (ListPost p b1 u s w) := by
  have g0 := h.c0
  have g7 := h.c7
  have z7 := h.fz 7
  have n1 := ok.n1
  have lb := h.lb
  have lp := h.lp
  have hp1 := h.p1
  obtain ⟨i0, hi, hz0, hz1, hz2⟩ := info_parts info_intP
  obtain ⟨n, en⟩ : ∃ n, s.tags.length = n := ⟨_, rfl⟩
  have EN := Lib.hid en
  rw [en] at g0 n1
  clear en
  go_enter Tryz.func48, Tryz.ntmps48
  go_wp2_with (with_reducible refine wpList_make_full _ rfl (.tmp 8) (.tmp 8) 41 rfl w.heap.size 3 i0 (.int .i64 0) 1 Tryz.underlying41 hi hz0 hz1 .i64 .i64 n n n rfl rfl rfl rfl (by rw [hz2]; omega) (by unfold maxLen; omega) (Nat.le_refl _) ?_)
  intro x1 o1 gr1
  have o1 := own_madeP o1
  have k1 := keep_grownP gr1 (fun _ => False)
  have y0 := k1.cell g0 (by simp)
  have y7 := k1.cell g7 (by simp)
  have f7 := (k1.frozen (a := ⟨p, 7, none⟩) lp (by simp)).trans z7
  have a1 := (h.keep k1 (by simp) (by simp)).setF (.slice (some ⟨w.heap.size, 0, none⟩) n n)
  have K1 := (k1.mono (T := fun k => k = p) (by simp)).setCell (p := ⟨p, 7, none⟩) rfl (.slice (some ⟨w.heap.size, 0, none⟩) n n)
  have o2 := o1.keep (keep_one x1 ⟨p, 7, none⟩ (.slice (some ⟨w.heap.size, 0, none⟩) n n)) (fun g hg e => by cases hg; simp at e; omega)
  go_wp2
  clear g0 g7 z7 y0 y7 f7 k1 gr1 o1 h
  obtain ⟨x2, ex⟩ : ∃ x, x1.setCell ⟨p, 7, none⟩ (.slice (some ⟨w.heap.size, 0, none⟩) n n) = x := ⟨_, rfl⟩
  rw [ex] at a1 K1 o2 ⊢
  clear ex
  go_loopw [17] (fun i wr => ∃ k : Nat, k ≤ n ∧ i = .int .i64 k ∧ Core wr p b1 0 1 (.slice (some ⟨w.heap.size, 0, none⟩) n n) u s ∧ OwnP wr (.slice (some ⟨w.heap.size, 0, none⟩) n n) (downTo n k) ∧ Keep (fun k => k = p) w wr) (fun i _ => n - (intOf i).toNat)
  case atStart => exact ⟨0, Nat.zero_le _, rfl, a1, by rw [down_zero]; exact o2, K1⟩
  case round =>
    obtain ⟨k, hk, rfl, a2, o3, K2⟩ := hrel
    clear a1 o2 K1
    by_cases hlt : k < n
    · have y0 := a2.c0
      rw [EN.out] at y0
      have y7 := a2.c7
      have dl := down_len n k hk
      have yc := o3.cell k (by omega)
      have yf := o3.free k
      have NS := Lib.hid (down_step n k hlt)
      have os := o3.set k ((n : Int) - 1 - k)
      rw [NS.out] at os
      obtain ⟨q, eq⟩ : ∃ q, (downTo n k)[k]'(by omega) = q := ⟨_, rfl⟩
      rw [eq] at yc
      have e1 : IntKind.i64.wrap ((n : Int) - 1) = (n : Int) - 1 := IntWalk.i64_in _ (by omega)
      have e2 : IntKind.i64.wrap ((n : Int) - 1 - k) = (n : Int) - 1 - k := IntWalk.i64_in _ (by omega)
      have A2 := Lib.hid a2
      clear eq dl a2
      go_wp2
      go_region
      go_wp2
      go_roundw
      case rel => exact ⟨k + 1, by omega, by go_num, (A2.out.keep (keep_one wr ⟨w.heap.size, k, none⟩ _) (by simp; omega) (by simp; omega)).keep (Keep.drew (Keep.refl (fun _ => False) _)) (by simp) (by simp), os.keep (Keep.drew (Keep.refl (fun _ => False) _)) (by simp), (K2.setNew (Nat.le_refl _) _).drew⟩
      case measure => simp [intOf]; omega
    · obtain rfl : k = n := by omega
      go_wp2
      go_end0
      refine ⟨rfl, w.heap.size, ?_, ?_, Nat.le_refl _, K2⟩
      · rw [EN.out]; exact a2
      · rw [EN.out, ← down_all s hg hf, EN.out]; exact o3
end
end Go.Proofs.YtmfpjnlplimkeaaGreat
/- Contract of Take of package pool: the list is made where it is not yet; then its top is taken, or none is there; condition: a state that calls can bring about. -/
namespace Go.Proofs.YtmfpjnlplimkeaaGreat
open Go.ChangeShapes Go.WideShapes Go.ChangeAt Go.RowKit
set_option linter.unusedVariables false

section
variable {w : World} {p b1 : Nat} {d m : Int} {vf : Value} {u : Int} {s : St}
/-- The list is there. -/
def Listed (p b1 : Nat) (vf : Value) (u : Int) (s : St) (w w' : World) : Prop :=
  ∃ b2, Core w' p b1 1 0 (.slice (some ⟨b2, 0, none⟩) s.stack.length s.tags.length) u s ∧ OwnP w' (.slice (some ⟨b2, 0, none⟩) s.stack.length s.tags.length) s.stack ∧ p ≠ b2 ∧ b1 ≠ b2 ∧ Keep (fun k => k = p) w w' ∧ (vf.ownBlock = some b2 ∨ w.heap.size ≤ b2)
def DoPost (p b1 : Nat) (vf : Value) (u : Int) (s : St) (w : World) (e : Ending) (w' : World) : Prop := e = .returned (.tuple #[]) ∧ Listed p b1 vf u s w w'
theorem stack_all (s : St) (hg : s.given = []) (hf : s.fresh = 0) : s.stack.length = s.tags.length := by simp [St.stack, hg, hf]
theorem qdo (h : Core w p b1 d 0 vf u s) (f : Free w p b1 s d vf) (ok : Ok s) :
    Calls Tryz.prog 47 #[.pointer (some ⟨p, 4, none⟩), .func (.func 48) #[.pointer (some ⟨p, 0, none⟩)] #[]] w (DoPost p b1 vf u s w) := by
  cases f with
  | made b2 o q1 q2 =>
    refine (once_done p 4 _ w h.c4).mono ?_
    rintro e w' ⟨rfl, rfl⟩
    exact ⟨rfl, b2, h, o, q1, q2, Keep.refl _ _, .inl rfl⟩
  | not hg hf =>
    have a1 := h.setM 1
    have f5 : w.frozen? ⟨p, 4 + 1, none⟩ = false := h.fz 5
    have kp : Keep (fun z => z = p) w (w.setCell ⟨p, 4 + 1, none⟩ (.int .i32 1)) := keep_one w ⟨p, 5, none⟩ _
    refine (once_first p 4 _ (fun w2 => ∃ b2, Core w2 p b1 0 1 (.slice (some ⟨b2, 0, none⟩) s.tags.length s.tags.length) u s ∧ OwnP w2 (.slice (some ⟨b2, 0, none⟩) s.tags.length s.tags.length) s.stack ∧ w.heap.size ≤ b2 ∧ Keep (fun k => k = p) w w2) w h.c4 h.c5 f5 ((qlistFree a1 ok hg hf).mono ?_)).mono ?_
    · rintro e w2 ⟨rfl, b2, c, o, lb, k⟩
      exact ⟨rfl, ⟨b2, c, o, Nat.le_trans kp.size lb, kp.trans k⟩, c.c4, c.c5, c.fz 4, c.fz 5⟩
    · rintro e w' ⟨rfl, w2, ⟨b2, c, o, lb, k⟩, rfl⟩
      have hl := h.lp
      have hb := h.lb
      have sl := stack_all s hg hf
      have c1 := ((c.keep (Keep.drew (Keep.refl (fun _ => False) _)) (by simp) (by simp)).setD 1).setM 0
      have k2 : Keep (fun z => z = p) w2 ((w2.drew.setCell ⟨p, 4, none⟩ (.int .u32 1)).setCell ⟨p, 4 + 1, none⟩ (.int .i32 0)) := ((Keep.refl (fun z => z = p) _).drew.setCell (p := ⟨p, 4, none⟩) rfl _).setCell (p := ⟨p, 5, none⟩) rfl _
      refine ⟨rfl, b2, ?_, ?_, by omega, by omega, k.trans k2, .inr lb⟩
      · rw [sl]; exact c1
      · rw [sl]; exact o.keep k2 (fun g hg e => by cases hg; have e : b2 = p := e; omega)
theorem Own.cut {g c : Nat} {w : World} {zs : List Int} {x : Int} (h : OwnP w (.slice (some ⟨g, 0, none⟩) (zs.length + 1) c) (zs ++ [x])) : OwnP w (.slice (some ⟨g, 0, none⟩) zs.length c) zs := by
  obtain ⟨h1, h2⟩ := id h
  refine ⟨by simp, .inr ?_⟩
  rcases h2 with ⟨h2, _⟩ | ⟨g', c', cur, hv, hb, hh, hl, hm, hs, ht⟩
  · simp at h2
  · refine ⟨g', c', cur, ?_, hb, hh, by simp at hl; omega, hm, hs, ?_⟩
    · simp at hv ⊢; exact ⟨hv.1, hv.2⟩
    · have := congrArg (List.take zs.length) ht
      simpa [List.take_take] using this
def TakeP (v : Value) (p b1 : Nat) (vf : Value) (st : List Int) (n : Nat) (u : Int) (s : St) (w : World) (e : Ending) (w' : World) : Prop :=
  e = .returned v ∧ ∃ b2, Core w' p b1 1 0 (.slice (some ⟨b2, 0, none⟩) st.length n) u s ∧ OwnP w' (.slice (some ⟨b2, 0, none⟩) st.length n) st ∧ p ≠ b2 ∧ b1 ≠ b2 ∧ Keep (fun k => k = p ∨ k = b1) w w' ∧ (vf.ownBlock = some b2 ∨ w.heap.size ≤ b2)
set_option maxHeartbeats 2000000 in
theorem qtake_full (h : Core w p b1 d 0 vf u s) (f : Free w p b1 s d vf) (ok : Ok s) (hs : s.stack = []) :
    Calls Tryz.prog 28 #[.pointer (some ⟨p, 0, none⟩)] w (TakeP (.tuple #[.int .u64 0, .int .i64 15]) p b1 vf s.stack s.tags.length u s w) := by
  go_enter Tryz.func28, Tryz.ntmps28
  go_wp2_with fail
  refine (qdo h f ok).mono ?_
  rintro e w1 ⟨rfl, b2, c, o, q1, q2, k, g⟩
  have g7 := c.c7
  have sl : s.stack.length = 0 := by rw [hs]; rfl
  rw [sl] at g7
  have P : ∃ b2, Core w1 p b1 1 0 (.slice (some ⟨b2, 0, none⟩) s.stack.length s.tags.length) u s ∧ OwnP w1 (.slice (some ⟨b2, 0, none⟩) s.stack.length s.tags.length) s.stack ∧ p ≠ b2 ∧ b1 ≠ b2 ∧ Keep (fun k => k = p ∨ k = b1) w w1 ∧ (vf.ownBlock = some b2 ∨ w.heap.size ≤ b2) := ⟨b2, c, o, q1, q2, k.mono (fun _ => .inl), g⟩
  clear c o k g sl hs
  go_wp2
  go_ret2
  exact ⟨rfl, P⟩
set_option maxHeartbeats 2000000 in
theorem qtake_top (h : Core w p b1 d 0 vf u s) (f : Free w p b1 s d vf) (ok : Ok s) (hu0 : 0 ≤ u) (hu1 : u ≤ 4096) (st : List Int) (i : Nat) (hs : s.stack = st ++ [(i : Int)]) (hl : st.length ≤ 4096) (hi : i < s.tags.length) :
    Calls Tryz.prog 28 #[.pointer (some ⟨p, 0, none⟩)] w (TakeP (.tuple #[.int .u64 (s.link i), .int .i64 0]) p b1 vf st s.tags.length (u + 1) { s with taken := s.taken.set i true } w) := by
  have n1 := ok.n1
  go_enter Tryz.func28, Tryz.ntmps28
  go_wp2_with fail
  refine (qdo h f ok).mono ?_
  rintro e w1 ⟨rfl, b2, c, o, q1, q2, k, g⟩
  have hlen : s.stack.length = st.length + 1 := by rw [hs]; simp
  rw [hlen] at c o
  rw [hs] at o
  clear hlen hs h f
  have g0 := c.c0
  have g2 := c.c2
  have z2 := c.fz 2
  have g7 := c.c7
  have z7 := c.fz 7
  have gk := c.tk i hi
  have zk := c.fb (i * 2 + 1)
  have top := o.cell st.length (by simp)
  rw [List.getElem_append_right (Nat.le_refl _)] at top
  simp only [Nat.sub_self, List.getElem_cons_zero] at top
  have gc : st.length + 1 ≤ s.tags.length := by
    obtain ⟨_, h2⟩ := id o
    rcases h2 with ⟨h2, _⟩ | ⟨g', c', cur, hv, _, _, hl, _⟩
    · simp at h2
    · simp at hv hl; omega
  have sb1 : IntKind.i64.wrap ((st.length : Int) + 1 - 1) = st.length := by rw [IntWalk.i64_in _ (by omega)]; omega
  have sb2 : (st.length : Int) + 1 - 1 = st.length := by omega
  have sb3 : (0 : Int) ≤ st.length := by omega
  have sb4 : st.length < st.length + 1 := by omega
  have sb5 : IntKind.i64.wrap (st.length : Int) = st.length := IntWalk.i64_in _ (by omega)
  have sb6 : st.length ≤ s.tags.length := by omega
  have sb7 : (st.length : Int) ≤ s.tags.length := by omega
  have a1 := ((c.setF (.slice (some ⟨b2, 0, none⟩) st.length s.tags.length)).setTk i true (by rw [ok.tl]; exact hi) ok.tl).setU (u + 1)
  have K : Keep (fun k => k = p ∨ k = b1) w (((w1.setCell ⟨p, 7, none⟩ (.slice (some ⟨b2, 0, none⟩) st.length s.tags.length)).setCell ⟨b1, i * 2 + 1, none⟩ (.bool true)).setCell ⟨p, 2, none⟩ (.int .i64 (u + 1))) := (((k.mono (fun _ => .inl)).setCell (p := ⟨p, 7, none⟩) (.inl rfl) _).setCell (p := ⟨b1, i * 2 + 1, none⟩) (.inr rfl) _).setCell (p := ⟨p, 2, none⟩) (.inl rfl) _
  have o1 := o.cut.keep (((keep_one w1 ⟨p, 7, none⟩ (.slice (some ⟨b2, 0, none⟩) st.length s.tags.length)).mono (T := fun k => k = p ∨ k = b1) (fun _ => .inl)).setCell (p := ⟨b1, i * 2 + 1, none⟩) (.inr rfl) (.bool true)|>.setCell (p := ⟨p, 2, none⟩) (.inl rfl) (.int .i64 (u + 1))) (fun g hg e => by cases hg; rcases e with e | e; exact q1 e.symm; exact q2 e.symm)
  have hp1 := c.p1
  have P : ∃ b2', Core _ p b1 1 0 (.slice (some ⟨b2', 0, none⟩) st.length s.tags.length) (u + 1) { s with taken := s.taken.set i true } ∧ OwnP _ (.slice (some ⟨b2', 0, none⟩) st.length s.tags.length) st ∧ p ≠ b2' ∧ b1 ≠ b2' ∧ Keep (fun k => k = p ∨ k = b1) w _ ∧ (vf.ownBlock = some b2' ∨ w.heap.size ≤ b2') := ⟨b2, a1, o1, q1, q2, K, g⟩
  have L := qlink_b a1 i hi n1 (tag_bp ok i)
  obtain ⟨y, ey⟩ : ∃ y, s.tk i = y := ⟨_, rfl⟩
  rw [ey] at gk
  clear ey a1 o1 K c o k g
  go_wp2_with fail
  refine L.mono ?_
  rintro e w'' ⟨rfl, rfl⟩
  go_wp2
  go_ret2
  exact ⟨rfl, P⟩
end
end Go.Proofs.YtmfpjnlplimkeaaGreat
/- Contract of Give of package pool: a link of a taken slot; condition: a state that calls can bring about. -/
namespace Go.Proofs.YtmfpjnlplimkeaaGreat
open Go.ChangeShapes Go.WideShapes Go.ChangeAt Go.RowKit
set_option linter.unusedVariables false

section
variable {w : World} {p b1 b2 : Nat} {d m : Int} {vf : Value} {u : Int} {s : St}
def GiveP (p b1 b2 : Nat) (st : List Int) (n : Nat) (u : Int) (s : St) (w : World) (e : Ending) (w' : World) : Prop :=
  e = .returned (.int .i64 0) ∧ Core w' p b1 1 0 (.slice (some ⟨b2, 0, none⟩) st.length n) u s ∧ OwnP w' (.slice (some ⟨b2, 0, none⟩) st.length n) st ∧ Keep (fun k => k = p ∨ k = b1 ∨ k = b2) w w'
theorem one_liesP (w : World) (i : Nat) : ∀ j u, [Value.int .i64 (i : Int)][j]? = some u → (w.alloc (.cells #[.int .i64 (i : Int)] 3)).cell? ((⟨w.heap.size, 0, none⟩ : Addr).add j) = some u := by
  intro j u hj
  match j, hj with
  | 0, hj => simp at hj; subst hj; simp [Addr.add]
end
end Go.Proofs.YtmfpjnlplimkeaaGreat
/- Contract of New of package pool: refused outside the bounds; a Pool of n free slots inside them. -/
namespace Go.Proofs.YtmfpjnlplimkeaaGreat
open Go.ChangeShapes Go.WideShapes Go.ChangeAt Go.RowKit
set_option linter.unusedVariables false

theorem info_slot : (Tryz.prog.info? 119).map (fun i => (i.zero, i.size, i.bytes)) = some (some (.agg #[.int .i64 0, .bool false]), 2, 16) := by kernel_rfl
theorem slot_cells {w : World} {base g n : Nat} (h : w.ownsRow base 119 2 (.slice (some ⟨g, 0, none⟩) n n) n (madeCells #[.int .i64 0, .bool false] (n * 2)).toList) (i : Nat) (hi : i < n) :
    w.cell? ⟨g, i * 2, none⟩ = some (.int .i64 0) ∧ w.cell? ⟨g, i * 2 + 1, none⟩ = some (.bool false) := by
  constructor
  · rw [h.cellAt _ (by omega)]
    simp [madeCells, show i * 2 < n * 2 by omega]
  · rw [h.cellAt _ (by omega)]
    simp [madeCells, show i * 2 + 1 < n * 2 by omega, show (i * 2 + 1) % 2 = 1 by omega]
def NewP (n : Nat) (most : Int) (w : World) (e : Ending) (w' : World) : Prop :=
  ∃ p b1, e = .returned (.tuple #[.pointer (some ⟨p, 0, none⟩), .int .i64 0]) ∧ Core w' p b1 0 0 (.slice none 0 0) 0 (St.new n most) ∧ w.heap.size ≤ p ∧ w.heap.size ≤ b1 ∧ Below w.heap.size w w'
theorem qnew_no (n m : Int) (w : World) (h : n < 1 ∨ (¬ n < 1 ∧ 4096 < n) ∨ (¬ n < 1 ∧ ¬ 4096 < n ∧ m < 0) ∨ (¬ n < 1 ∧ ¬ 4096 < n ∧ ¬ m < 0 ∧ 65535 < m)) : Calls Tryz.prog 21 #[.int .i64 n, .int .i64 m] w fun e w' => e = .returned (.tuple #[.pointer none, .int .i64 1]) ∧ w = w' := by
  rcases h with h | ⟨h, h2⟩ | ⟨h, h2, h3⟩ | ⟨h, h2, h3, h4⟩
  all_goals
    go_enter Tryz.func21, Tryz.ntmps21
    go_wp2
    go_ret2
    exact ⟨rfl, rfl⟩
theorem core_new {x : World} {b1 n : Nat} {m : Int} (o : x.ownsRow 0 119 2 (.slice (some ⟨b1, 0, none⟩) n n) n (madeCells #[.int .i64 0, .bool false] (n * 2)).toList) (lb : b1 < x.heap.size) :
    Core (x.alloc (.cells #[.slice (some ⟨b1, 0, none⟩) n n, .int .i64 m, .int .i64 0, .int .i64 0, .int .u32 0, .int .i32 0, .int .u32 0, .slice none 0 0] 105)) x.heap.size b1 0 0 (.slice none 0 0) 0 (St.new n m) := by
  have e : (St.new n m).tags.length = n := by simp [St.new]
  have k := Keep.alloc (Keep.refl (fun _ => False) x) (.cells #[.slice (some ⟨b1, 0, none⟩) n n, .int .i64 m, .int .i64 0, .int .i64 0, .int .u32 0, .int .i32 0, .int .u32 0, .slice none 0 0] 105)
  refine ⟨by rw [e]; simp, by simp [St.new], by simp, by simp [St.new], by simp, by simp, by simp, fun i => by simp, fun i hi => ?_, fun i hi => ?_, fun i => ?_, by simp; omega, by omega⟩
  · rw [e] at hi
    have := (slot_cells o i hi).1
    rw [show (St.new n m).tag i = 0 by simp only [St.tag, St.new, getD_rep]]
    exact k.cell this (by simp)
  · rw [e] at hi
    have := (slot_cells o i hi).2
    rw [show (St.new n m).tk i = false by simp only [St.tk, St.new, getD_rep]]
    exact k.cell this (by simp)
  · exact (k.frozen (a := ⟨b1, i, none⟩) lb (by simp)).trans (o.frozenAt i)
set_option maxRecDepth 100000 in
set_option maxHeartbeats 2000000 in
theorem qnew_ok (n : Nat) (m : Int) (w : World) (h0 : 1 ≤ n) (h1 : n ≤ 4096) (m0 : 0 ≤ m) (m1 : m ≤ 65535) : Calls Tryz.prog 21 #[.int .i64 n, .int .i64 m] w (NewP n m w) := by
  obtain ⟨i0, hi, hz0, hz1, hz2⟩ := info_parts info_slot
  go_enter Tryz.func21, Tryz.ntmps21
  go_wp2_with (with_reducible refine wpList_make_full _ rfl (.tmp 20) (.tmp 20) 103 rfl 0 119 i0 (.agg #[.int .i64 0, .bool false]) 2 Tryz.underlying103 hi hz0 hz1 .i64 .i64 n n n rfl rfl rfl rfl (by rw [hz2]; omega) (by unfold maxLen; omega) (Nat.zero_le _) ?_)
  intro x1 o1 gr1
  have k1 := keep_grownP gr1 (fun _ => False)
  have lb : w.heap.size < x1.heap.size := by
    rcases o1.2 with ⟨h, _⟩ | ⟨g, c, cur, hv, _, hh, _⟩
    · simp at h
    · simp at hv; obtain ⟨rfl, _⟩ := hv; exact lt_of_block hh
  have C := core_new (m := m) o1 lb
  have B := (k1.alloc (.cells #[.slice (some ⟨w.heap.size, 0, none⟩) n n, .int .i64 m, .int .i64 0, .int .i64 0, .int .u32 0, .int .i32 0, .int .u32 0, .slice none 0 0] 105)).below (Nat.le_refl _) (by simp)
  clear o1 gr1
  go_wp2
  go_ret2
  exact ⟨_, _, rfl, C, k1.size, Nat.le_refl _, B⟩
end Go.Proofs.YtmfpjnlplimkeaaGreat
/- Contract of vinculumref1.Same: two rows of the same 64-bit numbers: it answers true; no further condition. -/
namespace Go.Proofs.YtmfpjnlplimkeaaGreat
open Go.ChangeShapes Go.WideShapes Go.ChangeAt Go.RowKit
set_option linter.unusedVariables false

def SamePost (w : World) (e : Ending) (w' : World) : Prop := e = .returned (.bool true) ∧ ∃ d, w' = w.drewN d
end Go.Proofs.YtmfpjnlplimkeaaGreat
