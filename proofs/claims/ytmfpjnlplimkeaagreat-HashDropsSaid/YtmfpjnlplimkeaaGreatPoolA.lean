/- What a Pool of package pool is in memory, and the contracts of those of its methods that turn nothing: link, Live, Free, Used, Worn; condition: a state that calls can bring about. -/
import Derived.Test.YtmfpjnlplimkeaaGreatOwn
import Derived.Test.YtmfpjnlplimkeaaGreatSt2
import Derived.Test.YtmfpjnlplimkeaaGreatWord
import Derived.Deep.QuietTactic
import Derived.BigQuiet
namespace Go.Proofs.YtmfpjnlplimkeaaGreat
open Go.ChangeShapes Go.WideShapes Go.ChangeAt Go.RowKit
set_option linter.unusedVariables false

/-- A slice of ints of the call's own. -/
abbrev OwnP (w : World) (v : Value) (zs : List Int) : Prop := Own (Value.int .i64) 3 w v zs
/-- The free slots as a stack, its top last: those never taken, the least last; then those given back. -/
def St.stack (s : St) : List Int := ((List.range (s.tags.length - s.fresh.toNat)).map fun (j : Nat) => (s.tags.length : Int) - 1 - j) ++ s.given
/-- The Pool at block p, its slots at block b1, its list of free slots vf; d: whether the list was made; m: whether that is under way; u: how many it holds to be taken. -/
structure Core (w : World) (p b1 : Nat) (d m : Int) (vf : Value) (u : Int) (s : St) : Prop where
  c0 : w.cell? ⟨p, 0, none⟩ = some (.slice (some ⟨b1, 0, none⟩) s.tags.length s.tags.length)
  c1 : w.cell? ⟨p, 1, none⟩ = some (.int .i64 s.most)
  c2 : w.cell? ⟨p, 2, none⟩ = some (.int .i64 u)
  c3 : w.cell? ⟨p, 3, none⟩ = some (.int .i64 s.worn)
  c4 : w.cell? ⟨p, 4, none⟩ = some (.int .u32 d)
  c5 : w.cell? ⟨p, 5, none⟩ = some (.int .i32 m)
  c7 : w.cell? ⟨p, 7, none⟩ = some vf
  fz : ∀ i, w.frozen? ⟨p, i, none⟩ = false
  tg : ∀ i, i < s.tags.length → w.cell? ⟨b1, i * 2, none⟩ = some (.int .i64 (s.tag i))
  tk : ∀ i, i < s.tags.length → w.cell? ⟨b1, i * 2 + 1, none⟩ = some (.bool (s.tk i))
  fb : ∀ i, w.frozen? ⟨b1, i, none⟩ = false
  lb : b1 < w.heap.size
  p1 : p ≠ b1
theorem Core.keep {S : Nat → Prop} {w w' : World} {p b1 : Nat} {d m : Int} {vf : Value} {u : Int} {s : St} (h : Core w p b1 d m vf u s) (k : Keep S w w') (hp : ¬ S p) (hb : ¬ S b1) : Core w' p b1 d m vf u s :=
  ⟨k.cell h.c0 hp, k.cell h.c1 hp, k.cell h.c2 hp, k.cell h.c3 hp, k.cell h.c4 hp, k.cell h.c5 hp, k.cell h.c7 hp, fun i => (k.frozen (a := ⟨p, i, none⟩) (lt_of_cell (a := ⟨p, 0, none⟩) h.c0) hp).trans (h.fz i),
    fun i hi => k.cell (h.tg i hi) hb, fun i hi => k.cell (h.tk i hi) hb, fun i => (k.frozen (a := ⟨b1, i, none⟩) h.lb hb).trans (h.fb i), Nat.lt_of_lt_of_le h.lb k.size, h.p1⟩
theorem Core.lp {w : World} {p b1 : Nat} {d m : Int} {vf : Value} {u : Int} {s : St} (h : Core w p b1 d m vf u s) : p < w.heap.size := lt_of_cell (a := ⟨p, 0, none⟩) h.c0
/-- The list: not made yet, where nothing was ever taken; or made, in a block of its own with room for all slots. -/
inductive Free (w : World) (p b1 : Nat) (s : St) : Int → Value → Prop
  | not : s.given = [] → s.fresh = 0 → Free w p b1 s 0 (.slice none 0 0)
  | made (b2 : Nat) : OwnP w (.slice (some ⟨b2, 0, none⟩) s.stack.length s.tags.length) s.stack → p ≠ b2 → b1 ≠ b2 → Free w p b1 s 1 (.slice (some ⟨b2, 0, none⟩) s.stack.length s.tags.length)
section
variable {w : World} {p b1 : Nat} {d m : Int} {vf : Value} {u : Int} {s : St}
theorem Core.setD (h : Core w p b1 d m vf u s) (x : Int) : Core (w.setCell ⟨p, 4, none⟩ (.int .u32 x)) p b1 x m vf u s := by
  have k : Keep (fun z => z = p) w (w.setCell ⟨p, 4, none⟩ (.int .u32 x)) := keep_one w ⟨p, 4, none⟩ _
  refine ⟨?_, ?_, ?_, ?_, World.cell?_setCell_same _ _ _ h.c4, ?_, ?_, fun i => by simpa using h.fz i, fun i hi => k.cell (h.tg i hi) h.p1.symm, fun i hi => k.cell (h.tk i hi) h.p1.symm, fun i => by simpa using h.fb i, Nat.lt_of_lt_of_le h.lb k.size, h.p1⟩
  · rw [World.cell?_setCell_other _ _ _ _ (by simp)]; exact h.c0
  · rw [World.cell?_setCell_other _ _ _ _ (by simp)]; exact h.c1
  · rw [World.cell?_setCell_other _ _ _ _ (by simp)]; exact h.c2
  · rw [World.cell?_setCell_other _ _ _ _ (by simp)]; exact h.c3
  · rw [World.cell?_setCell_other _ _ _ _ (by simp)]; exact h.c5
  · rw [World.cell?_setCell_other _ _ _ _ (by simp)]; exact h.c7
theorem Core.setM (h : Core w p b1 d m vf u s) (x : Int) : Core (w.setCell ⟨p, 5, none⟩ (.int .i32 x)) p b1 d x vf u s := by
  have k : Keep (fun z => z = p) w (w.setCell ⟨p, 5, none⟩ (.int .i32 x)) := keep_one w ⟨p, 5, none⟩ _
  refine ⟨?_, ?_, ?_, ?_, ?_, World.cell?_setCell_same _ _ _ h.c5, ?_, fun i => by simpa using h.fz i, fun i hi => k.cell (h.tg i hi) h.p1.symm, fun i hi => k.cell (h.tk i hi) h.p1.symm, fun i => by simpa using h.fb i, Nat.lt_of_lt_of_le h.lb k.size, h.p1⟩
  · rw [World.cell?_setCell_other _ _ _ _ (by simp)]; exact h.c0
  · rw [World.cell?_setCell_other _ _ _ _ (by simp)]; exact h.c1
  · rw [World.cell?_setCell_other _ _ _ _ (by simp)]; exact h.c2
  · rw [World.cell?_setCell_other _ _ _ _ (by simp)]; exact h.c3
  · rw [World.cell?_setCell_other _ _ _ _ (by simp)]; exact h.c4
  · rw [World.cell?_setCell_other _ _ _ _ (by simp)]; exact h.c7
theorem Core.setF (h : Core w p b1 d m vf u s) (x : Value) : Core (w.setCell ⟨p, 7, none⟩ (x)) p b1 d m x u s := by
  have k : Keep (fun z => z = p) w (w.setCell ⟨p, 7, none⟩ (x)) := keep_one w ⟨p, 7, none⟩ _
  refine ⟨?_, ?_, ?_, ?_, ?_, ?_, World.cell?_setCell_same _ _ _ h.c7, fun i => by simpa using h.fz i, fun i hi => k.cell (h.tg i hi) h.p1.symm, fun i hi => k.cell (h.tk i hi) h.p1.symm, fun i => by simpa using h.fb i, Nat.lt_of_lt_of_le h.lb k.size, h.p1⟩
  · rw [World.cell?_setCell_other _ _ _ _ (by simp)]; exact h.c0
  · rw [World.cell?_setCell_other _ _ _ _ (by simp)]; exact h.c1
  · rw [World.cell?_setCell_other _ _ _ _ (by simp)]; exact h.c2
  · rw [World.cell?_setCell_other _ _ _ _ (by simp)]; exact h.c3
  · rw [World.cell?_setCell_other _ _ _ _ (by simp)]; exact h.c4
  · rw [World.cell?_setCell_other _ _ _ _ (by simp)]; exact h.c5
theorem Core.setU (h : Core w p b1 d m vf u s) (x : Int) : Core (w.setCell ⟨p, 2, none⟩ (.int .i64 x)) p b1 d m vf x s := by
  have k : Keep (fun z => z = p) w (w.setCell ⟨p, 2, none⟩ (.int .i64 x)) := keep_one w ⟨p, 2, none⟩ _
  refine ⟨?_, ?_, World.cell?_setCell_same _ _ _ h.c2, ?_, ?_, ?_, ?_, fun i => by simpa using h.fz i, fun i hi => k.cell (h.tg i hi) h.p1.symm, fun i hi => k.cell (h.tk i hi) h.p1.symm, fun i => by simpa using h.fb i, Nat.lt_of_lt_of_le h.lb k.size, h.p1⟩
  · rw [World.cell?_setCell_other _ _ _ _ (by simp)]; exact h.c0
  · rw [World.cell?_setCell_other _ _ _ _ (by simp)]; exact h.c1
  · rw [World.cell?_setCell_other _ _ _ _ (by simp)]; exact h.c3
  · rw [World.cell?_setCell_other _ _ _ _ (by simp)]; exact h.c4
  · rw [World.cell?_setCell_other _ _ _ _ (by simp)]; exact h.c5
  · rw [World.cell?_setCell_other _ _ _ _ (by simp)]; exact h.c7
theorem Core.setWorn (h : Core w p b1 d m vf u s) (x : Int) : Core (w.setCell ⟨p, 3, none⟩ (.int .i64 x)) p b1 d m vf u { s with worn := x } := by
  have k : Keep (fun z => z = p) w (w.setCell ⟨p, 3, none⟩ (.int .i64 x)) := keep_one w ⟨p, 3, none⟩ _
  refine ⟨?_, ?_, ?_, World.cell?_setCell_same _ _ _ h.c3, ?_, ?_, ?_, fun i => by simpa using h.fz i, fun i hi => k.cell (h.tg i hi) h.p1.symm, fun i hi => k.cell (h.tk i hi) h.p1.symm, fun i => by simpa using h.fb i, Nat.lt_of_lt_of_le h.lb k.size, h.p1⟩
  · rw [World.cell?_setCell_other _ _ _ _ (by simp)]; exact h.c0
  · rw [World.cell?_setCell_other _ _ _ _ (by simp)]; exact h.c1
  · rw [World.cell?_setCell_other _ _ _ _ (by simp)]; exact h.c2
  · rw [World.cell?_setCell_other _ _ _ _ (by simp)]; exact h.c4
  · rw [World.cell?_setCell_other _ _ _ _ (by simp)]; exact h.c5
  · rw [World.cell?_setCell_other _ _ _ _ (by simp)]; exact h.c7
theorem Core.setTk (h : Core w p b1 d m vf u s) (i : Nat) (b : Bool) (hi : i < s.taken.length) (tl : s.taken.length = s.tags.length) : Core (w.setCell ⟨b1, i * 2 + 1, none⟩ (.bool b)) p b1 d m vf u { s with taken := s.taken.set i b } := by
  have k : Keep (fun z => z = b1) w (w.setCell ⟨b1, i * 2 + 1, none⟩ (.bool b)) := keep_one w ⟨b1, i * 2 + 1, none⟩ _
  refine ⟨k.cell h.c0 h.p1, k.cell h.c1 h.p1, k.cell h.c2 h.p1, k.cell h.c3 h.p1, k.cell h.c4 h.p1, k.cell h.c5 h.p1, k.cell h.c7 h.p1, fun i => by simpa using h.fz i, fun j hj => ?_, fun j hj => ?_, fun i => by simpa using h.fb i, Nat.lt_of_lt_of_le h.lb k.size, h.p1⟩
  · rw [World.cell?_setCell_other _ _ _ _ (by first | (simp; done) | (simp; omega))]; exact h.tg j hj
  · show World.cell? _ _ = some (.bool ((s.taken.set i b).getD j false))
    rw [tk_set b hi]
    by_cases e : j = i
    · subst e
      rw [World.cell?_setCell_same _ _ _ (h.tk j hj), if_pos rfl]
    · rw [World.cell?_setCell_other _ _ _ _ (by first | (simp; done) | (simp; omega)), if_neg e]; exact h.tk j hj
theorem Core.setTag (h : Core w p b1 d m vf u s) (i : Nat) (t : Int) (hi : i < s.tags.length) : Core (w.setCell ⟨b1, i * 2, none⟩ (.int .i64 t)) p b1 d m vf u { s with tags := s.tags.set i t } := by
  have k : Keep (fun z => z = b1) w (w.setCell ⟨b1, i * 2, none⟩ (.int .i64 t)) := keep_one w ⟨b1, i * 2, none⟩ _
  have l : (s.tags.set i t).length = s.tags.length := List.length_set
  refine ⟨?_, k.cell h.c1 h.p1, k.cell h.c2 h.p1, k.cell h.c3 h.p1, k.cell h.c4 h.p1, k.cell h.c5 h.p1, k.cell h.c7 h.p1, fun i => by simpa using h.fz i, fun j hj => ?_, fun j hj => ?_, fun i => by simpa using h.fb i, Nat.lt_of_lt_of_le h.lb k.size, h.p1⟩
  · simp only [l]; exact k.cell h.c0 h.p1
  · have hj : j < s.tags.length := by simpa using hj
    show World.cell? _ _ = some (.int .i64 ((s.tags.set i t).getD j 0))
    rw [tag_set t hi]
    by_cases e : j = i
    · subst e
      rw [World.cell?_setCell_same _ _ _ (h.tg j hi), if_pos rfl]
    · rw [World.cell?_setCell_other _ _ _ _ (by first | (simp; done) | (simp; omega)), if_neg e]; exact h.tg j hj
  · have hj : j < s.tags.length := by simpa using hj
    rw [World.cell?_setCell_other _ _ _ _ (by first | (simp; done) | (simp; omega))]; exact h.tk j hj
theorem Core.cutGiven (h : Core w p b1 d m vf u s) (gs : List Int) : Core w p b1 d m vf u { s with given := gs } := ⟨h.c0, h.c1, h.c2, h.c3, h.c4, h.c5, h.c7, h.fz, h.tg, h.tk, h.fb, h.lb, h.p1⟩
theorem Core.fresh (h : Core w p b1 d m vf u s) (x : Int) : Core w p b1 d m vf u { s with fresh := x } := ⟨h.c0, h.c1, h.c2, h.c3, h.c4, h.c5, h.c7, h.fz, h.tg, h.tk, h.fb, h.lb, h.p1⟩
theorem tag_bp (ok : Ok s) (i : Nat) : 0 ≤ s.tag i ∧ s.tag i ≤ 65535 := by
  have := ok.tg i
  have := ok.m1
  omega
theorem qlink_b (h : Core w p b1 d m vf u s) (i : Nat) (hi : i < s.tags.length) (n1 : s.tags.length ≤ 4096) (hb : 0 ≤ s.tag i ∧ s.tag i ≤ 65535) :
    Calls Tryz.prog 49 #[.pointer (some ⟨p, 0, none⟩), .int .i64 i] w fun e w' => e = .returned (.int .u64 (s.link i)) ∧ w = w' := by
  have g1 := h.c0
  have ht := h.tg i hi
  unfold St.link
  obtain ⟨t, et⟩ : ∃ t, s.tag i = t := ⟨_, rfl⟩
  rw [et] at ht hb ⊢
  clear et
  go_enter Tryz.func49, Tryz.ntmps49
  go_wp2_with (go_at_call 64; refine (linkw_ok _ _ (by omega) (by omega) (by omega) (by omega) _).mono ?_; rintro e w' ⟨rfl, rfl⟩)
  go_ret
  exact ⟨rfl, rfl⟩
theorem qlive_yes (h : Core w p b1 d m vf u s) (ok : Ok s) (i : Nat) (hi : i < s.tags.length) (ht : s.tk i = true) :
    Calls Tryz.prog 50 #[.pointer (some ⟨p, 0, none⟩), .int .u64 (s.link i)] w fun e w' => e = .returned (.bool true) ∧ w = w' := by
  have g0 := h.c0
  have hk := h.tk i hi
  rw [ht] at hk
  have n1 := ok.n1
  have hm := link_mod s i (by omega)
  have hlb := link_b ok i hi
  have hR := qlink_b h i hi n1 (tag_bp ok i)
  obtain ⟨l, el⟩ : ∃ l, s.link i = l := ⟨_, rfl⟩
  rw [el] at hm hlb hR ⊢
  clear el
  have hu : uslot l = i := by unfold uslot; omega
  have hU := unlink_any l (by omega) (by omega) w
  rw [hu] at hU
  clear hm hu
  go_enter Tryz.func50, Tryz.ntmps50
  go_wp2_with (first | (go_at_call 51; refine hU.mono ?_; rintro e w' ⟨rfl, rfl⟩) | (go_at_call 49; refine hR.mono ?_; rintro e w' ⟨rfl, rfl⟩))
  go_ret
  exact ⟨rfl, rfl⟩
theorem qlive_no (h : Core w p b1 d m vf u s) (ok : Ok s) (l : Int) (h0 : 0 ≤ l) (h1 : l ≤ 18446744073709551615) (hl : s.live l = false) :
    Calls Tryz.prog 50 #[.pointer (some ⟨p, 0, none⟩), .int .u64 l] w fun e w' => e = .returned (.bool false) ∧ w = w' := by
  have g0 := h.c0
  have n1 := ok.n1
  have hU := unlink_any l h0 h1 w
  rcases not_live hl with hm | hm | ⟨i, hm, hi, hk⟩
  · rw [show uslot l = -1 by unfold uslot; omega] at hU
    clear hm
    go_enter Tryz.func50, Tryz.ntmps50
    go_wp2_with (go_at_call 51; refine hU.mono ?_; rintro e w' ⟨rfl, rfl⟩)
    go_ret
    exact ⟨rfl, rfl⟩
  · obtain ⟨m, em⟩ : ∃ m : Nat, l % 131072 = m + 1 := ⟨(l % 131072 - 1).toNat, by omega⟩
    have m1 : m ≤ 131071 := by omega
    have nt : decide (m < s.tags.length) = false := decide_eq_false (by omega)
    rw [show uslot l = m by unfold uslot; omega] at hU
    clear hm em
    go_enter Tryz.func50, Tryz.ntmps50
    go_wp2_with (go_at_call 51; refine hU.mono ?_; rintro e w' ⟨rfl, rfl⟩)
    go_ret
    exact ⟨rfl, rfl⟩
  · rw [show uslot l = i by unfold uslot; omega] at hU
    clear hm
    have hc := h.tk i hi
    rcases hk with hk | ⟨hk, hne⟩
    · rw [hk] at hc
      go_enter Tryz.func50, Tryz.ntmps50
      go_wp2_with (go_at_call 51; refine hU.mono ?_; rintro e w' ⟨rfl, rfl⟩)
      go_ret
      exact ⟨rfl, rfl⟩
    · rw [hk] at hc
      have hR := qlink_b h i hi n1 (tag_bp ok i)
      have hb : (s.link i == l) = false := by simpa using fun e => hne e.symm
      go_enter Tryz.func50, Tryz.ntmps50
      go_wp2_with (first | (go_at_call 51; refine hU.mono ?_; rintro e w' ⟨rfl, rfl⟩) | (go_at_call 49; refine hR.mono ?_; rintro e w' ⟨rfl, rfl⟩))
      go_ret
      exact ⟨rfl, rfl⟩
end
end Go.Proofs.YtmfpjnlplimkeaaGreat
