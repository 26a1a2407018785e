/- Contracts of the document's own answer for layer 3 (vinculumref3's Pool): NewPool, link, Live, Take, Give, Free, All; conditions: the Pool is one that NewPool made, in a state that calls can bring about. -/
import Derived.Test.YthmohehmpleciaaOwn
import Derived.Test.YthmohehmpleciaaSt
import Derived.Deep.QuietTactic
import Derived.BigQuiet
import Derived.BigRegion
import Derived.Deep.RegionHeld3
import Derived.Laws.AppendOwnNone
import Derived.Deep.RegionLaw
namespace Go.Proofs.Ythmohehmpleciaa
open Go.ChangeShapes Go.WideShapes Go.ChangeAt Go.RowKit
set_option linter.unusedVariables false

abbrev OwnI (w : World) (v : Value) (zs : List Int) : Prop := Own (Value.int .i64) 3 w v zs
abbrev OwnB (w : World) (v : Value) (zs : List Bool) : Prop := Own Value.bool 4 w v zs
structure RefAt (w : World) (p b1 b2 : Nat) (v3 : Value) (s : St) : Prop where
  c0 : w.cell? ⟨p, 0, none⟩ = some (.int .i64 s.most)
  c1 : w.cell? ⟨p, 1, none⟩ = some (.slice (some ⟨b1, 0, none⟩) s.tags.length s.tags.length)
  c2 : w.cell? ⟨p, 2, none⟩ = some (.slice (some ⟨b2, 0, none⟩) s.tags.length s.tags.length)
  c3 : w.cell? ⟨p, 3, none⟩ = some v3
  c4 : w.cell? ⟨p, 4, none⟩ = some (.int .i64 s.fresh)
  c5 : w.cell? ⟨p, 5, none⟩ = some (.int .i64 s.worn)
  fz : ∀ i, w.frozen? ⟨p, i, none⟩ = false
  o1 : OwnI w (.slice (some ⟨b1, 0, none⟩) s.tags.length s.tags.length) s.tags
  o2 : OwnB w (.slice (some ⟨b2, 0, none⟩) s.tags.length s.tags.length) s.taken
  o3 : OwnI w v3 s.given
  p1 : p ≠ b1
  p2 : p ≠ b2
  b12 : b1 ≠ b2
  v3p : v3.ownBlock ≠ some p
  v31 : v3.ownBlock ≠ some b1
  v32 : v3.ownBlock ≠ some b2
/-- The blocks of such a Pool. -/
def Foot (p b1 b2 : Nat) (v3 : Value) (k : Nat) : Prop := k = p ∨ k = b1 ∨ k = b2 ∨ v3.ownBlock = some k
theorem RefAt.keep {S : Nat → Prop} {w w' : World} {p b1 b2 : Nat} {v3 : Value} {s : St} (h : RefAt w p b1 b2 v3 s) (k : Keep S w w') (hn : ∀ g, Foot p b1 b2 v3 g → ¬ S g) : RefAt w' p b1 b2 v3 s :=
  have np : ¬ S p := hn p (.inl rfl)
  ⟨k.cell h.c0 np, k.cell h.c1 np, k.cell h.c2 np, k.cell h.c3 np, k.cell h.c4 np, k.cell h.c5 np, fun i => (k.frozen (a := ⟨p, i, none⟩) (lt_of_cell (a := ⟨p, 0, none⟩) h.c0) np).trans (h.fz i),
    h.o1.keep k (fun g hg => by cases hg; exact hn b1 (.inr (.inl rfl))), h.o2.keep k (fun g hg => by cases hg; exact hn b2 (.inr (.inr (.inl rfl)))), h.o3.keep k (fun g hg => hn g (.inr (.inr (.inr hg)))),
    h.p1, h.p2, h.b12, h.v3p, h.v31, h.v32⟩
theorem RefAt.foot_lt {w : World} {p b1 b2 : Nat} {v3 : Value} {s : St} (h : RefAt w p b1 b2 v3 s) (k : Nat) (hk : Foot p b1 b2 v3 k) : k < w.heap.size := by
  rcases hk with rfl | rfl | rfl | hk
  · exact lt_of_cell (a := ⟨k, 0, none⟩) h.c0
  · exact h.o1.lt rfl
  · exact h.o2.lt rfl
  · exact h.o3.lt hk
theorem RefAt.tagAt {w : World} {p b1 b2 : Nat} {v3 : Value} {s : St} (h : RefAt w p b1 b2 v3 s) (i : Nat) (hi : i < s.tags.length) : w.cell? ⟨b1, i, none⟩ = some (.int .i64 (s.tag i)) := by
  rw [h.o1.cell i hi]
  simp [St.tag, List.getD_eq_getElem?_getD, hi]
theorem RefAt.tkAt {w : World} {p b1 b2 : Nat} {v3 : Value} {s : St} (h : RefAt w p b1 b2 v3 s) (ok : Ok s) (i : Nat) (hi : i < s.tags.length) : w.cell? ⟨b2, i, none⟩ = some (.bool (s.tk i)) := by
  have hl : i < s.taken.length := by rw [ok.tl]; exact hi
  rw [h.o2.cell i hl]
  simp [St.tk, List.getD_eq_getElem?_getD, hl]
theorem RefAt.tkAt2 {w : World} {p b1 b2 : Nat} {v3 : Value} {s : St} (h : RefAt w p b1 b2 v3 s) (tl : s.taken.length = s.tags.length) (i : Nat) (hi : i < s.tags.length) : w.cell? ⟨b2, i, none⟩ = some (.bool (s.tk i)) := by
  have hl : i < s.taken.length := by rw [tl]; exact hi
  rw [h.o2.cell i hl]
  simp [St.tk, List.getD_eq_getElem?_getD, hl]
theorem rlink_b {w : World} {p b1 b2 : Nat} {v3 : Value} {s : St} (h : RefAt w p b1 b2 v3 s) (i : Nat) (hi : i < s.tags.length) (n1 : s.tags.length ≤ 4096) (hb : 0 ≤ s.tag i ∧ s.tag i ≤ 65535) :
    Calls Try.prog 38 #[.pointer (some ⟨p, 0, none⟩), .int .i64 i] w fun e w' => e = .returned (.int .u64 (s.link i)) ∧ w = w' := by
  have g1 := h.c1
  have ht := h.tagAt i hi
  unfold St.link
  obtain ⟨t, et⟩ : ∃ t, s.tag i = t := ⟨_, rfl⟩
  rw [et] at ht hb ⊢
  clear et
  have hl := linkI_or i t (by omega) (by omega) (by omega) (by omega)
  have hl' : t * 131072 + i + 1 = linkI i t := rfl
  go_enter Try.func38, Try.ntmps38
  go_wp2
  go_ret
  exact ⟨rfl, rfl⟩
theorem tag_b {s : St} (ok : Ok s) (i : Nat) : 0 ≤ s.tag i ∧ s.tag i ≤ 65535 := by
  have := ok.tg i
  have := ok.m1
  omega
theorem rlink_any {w : World} {p b1 b2 : Nat} {v3 : Value} {s : St} (h : RefAt w p b1 b2 v3 s) (ok : Ok s) (i : Nat) (hi : i < s.tags.length) :
    Calls Try.prog 38 #[.pointer (some ⟨p, 0, none⟩), .int .i64 i] w fun e w' => e = .returned (.int .u64 (s.link i)) ∧ w = w' :=
  rlink_b h i hi ok.n1 (tag_b ok i)
theorem rlive_yes {w : World} {p b1 b2 : Nat} {v3 : Value} {s : St} (h : RefAt w p b1 b2 v3 s) (ok : Ok s) (i : Nat) (hi : i < s.tags.length) (ht : s.tk i = true) :
    Calls Try.prog 21 #[.pointer (some ⟨p, 0, none⟩), .int .u64 (s.link i)] w fun e w' => e = .returned (.bool true) ∧ w = w' := by
  have g1 := h.c1
  have g2 := h.c2
  have hk := h.tkAt ok i hi
  rw [ht] at hk
  have n1 := ok.n1
  have hm := link_mod s i (by omega)
  have hlb := link_b ok i hi
  have hR := rlink_any h ok i hi
  obtain ⟨l, el⟩ : ∃ l, s.link i = l := ⟨_, rfl⟩
  rw [el] at hm hlb hR ⊢
  clear el
  have hs := u64_mask17 l (by omega) (by omega)
  rw [hm] at hs
  clear hm
  go_enter Try.func21, Try.ntmps21
  go_wp2_with (go_at_call 38; refine hR.mono ?_; rintro e w' ⟨rfl, rfl⟩)
  go_ret
  exact ⟨rfl, rfl⟩
theorem rlive_no {w : World} {p b1 b2 : Nat} {v3 : Value} {s : St} (h : RefAt w p b1 b2 v3 s) (ok : Ok s) (l : Int) (h0 : 0 ≤ l) (h1 : l ≤ 18446744073709551615) (hl : s.live l = false) :
    Calls Try.prog 21 #[.pointer (some ⟨p, 0, none⟩), .int .u64 l] w fun e w' => e = .returned (.bool false) ∧ w = w' := by
  have g1 := h.c1
  have g2 := h.c2
  have n1 := ok.n1
  have hs := u64_mask17 l h0 h1
  rcases not_live hl with hm | hm | ⟨i, hm, hi, hk⟩
  · rw [hm] at hs
    clear hm
    go_enter Try.func21, Try.ntmps21
    go_wp2
    go_ret
    exact ⟨rfl, rfl⟩
  · obtain ⟨m, em⟩ : ∃ m : Nat, l % 131072 = m := ⟨(l % 131072).toNat, by omega⟩
    have m1 : m ≤ 131071 := by omega
    rw [em] at hs hm
    clear em
    go_enter Try.func21, Try.ntmps21
    go_wp2
    go_ret
    exact ⟨rfl, rfl⟩
  · rw [hm] at hs
    clear hm
    have hc := h.tkAt ok i hi
    rcases hk with hk | ⟨hk, hne⟩
    · rw [hk] at hc
      go_enter Try.func21, Try.ntmps21
      go_wp2
      go_ret
      exact ⟨rfl, rfl⟩
    · rw [hk] at hc
      have hR := rlink_any h ok i hi
      have hb : (l == s.link i) = false := by simpa using hne
      go_enter Try.func21, Try.ntmps21
      go_wp2_with (go_at_call 38; refine hR.mono ?_; rintro e w' ⟨rfl, rfl⟩)
      go_ret
      exact ⟨rfl, rfl⟩
theorem RefAt.setFresh {w : World} {p b1 b2 : Nat} {v3 : Value} {s : St} (h : RefAt w p b1 b2 v3 s) (x : Int) : RefAt (w.setCell ⟨p, 4, none⟩ (.int .i64 x)) p b1 b2 v3 { s with fresh := x } := by
  have k : Keep (fun z => z = p) w (w.setCell ⟨p, 4, none⟩ (.int .i64 x)) := keep_one w ⟨p, 4, none⟩ _
  refine ⟨?_, ?_, ?_, ?_, World.cell?_setCell_same _ _ _ h.c4, ?_, fun i => by simpa using h.fz i, h.o1.keep k (fun g hg e => by cases hg; exact h.p1 e.symm), h.o2.keep k (fun g hg e => by cases hg; exact h.p2 e.symm), h.o3.keep k (fun g hg e => h.v3p (by rw [hg, e])), h.p1, h.p2, h.b12, h.v3p, h.v31, h.v32⟩
  · rw [World.cell?_setCell_other _ _ _ _ (by simp)]; exact h.c0
  · rw [World.cell?_setCell_other _ _ _ _ (by simp)]; exact h.c1
  · rw [World.cell?_setCell_other _ _ _ _ (by simp)]; exact h.c2
  · rw [World.cell?_setCell_other _ _ _ _ (by simp)]; exact h.c3
  · rw [World.cell?_setCell_other _ _ _ _ (by simp)]; exact h.c5
theorem RefAt.setWorn {w : World} {p b1 b2 : Nat} {v3 : Value} {s : St} (h : RefAt w p b1 b2 v3 s) (x : Int) : RefAt (w.setCell ⟨p, 5, none⟩ (.int .i64 x)) p b1 b2 v3 { s with worn := x } := by
  have k : Keep (fun z => z = p) w (w.setCell ⟨p, 5, none⟩ (.int .i64 x)) := keep_one w ⟨p, 5, none⟩ _
  refine ⟨?_, ?_, ?_, ?_, ?_, World.cell?_setCell_same _ _ _ h.c5, fun i => by simpa using h.fz i, h.o1.keep k (fun g hg e => by cases hg; exact h.p1 e.symm), h.o2.keep k (fun g hg e => by cases hg; exact h.p2 e.symm), h.o3.keep k (fun g hg e => h.v3p (by rw [hg, e])), h.p1, h.p2, h.b12, h.v3p, h.v31, h.v32⟩
  · rw [World.cell?_setCell_other _ _ _ _ (by simp)]; exact h.c0
  · rw [World.cell?_setCell_other _ _ _ _ (by simp)]; exact h.c1
  · rw [World.cell?_setCell_other _ _ _ _ (by simp)]; exact h.c2
  · rw [World.cell?_setCell_other _ _ _ _ (by simp)]; exact h.c3
  · rw [World.cell?_setCell_other _ _ _ _ (by simp)]; exact h.c4
theorem RefAt.setGiven {w : World} {p b1 b2 : Nat} {v3 v4 : Value} {s : St} {gs : List Int} (h : RefAt w p b1 b2 v3 s) (o : OwnI w v4 gs) (q0 : v4.ownBlock ≠ some p) (q1 : v4.ownBlock ≠ some b1) (q2 : v4.ownBlock ≠ some b2) :
    RefAt (w.setCell ⟨p, 3, none⟩ v4) p b1 b2 v4 { s with given := gs } := by
  have k : Keep (fun z => z = p) w (w.setCell ⟨p, 3, none⟩ v4) := keep_one w ⟨p, 3, none⟩ _
  refine ⟨?_, ?_, ?_, World.cell?_setCell_same _ _ _ h.c3, ?_, ?_, fun i => by simpa using h.fz i, h.o1.keep k (fun g hg e => by cases hg; exact h.p1 e.symm), h.o2.keep k (fun g hg e => by cases hg; exact h.p2 e.symm), o.keep k (fun g hg e => q0 (by rw [hg, e])), h.p1, h.p2, h.b12, q0, q1, q2⟩
  · rw [World.cell?_setCell_other _ _ _ _ (by simp)]; exact h.c0
  · rw [World.cell?_setCell_other _ _ _ _ (by simp)]; exact h.c1
  · rw [World.cell?_setCell_other _ _ _ _ (by simp)]; exact h.c2
  · rw [World.cell?_setCell_other _ _ _ _ (by simp)]; exact h.c4
  · rw [World.cell?_setCell_other _ _ _ _ (by simp)]; exact h.c5
theorem RefAt.setTaken {w : World} {p b1 b2 : Nat} {v3 : Value} {s : St} (h : RefAt w p b1 b2 v3 s) (i : Nat) (b : Bool) : RefAt (w.setCell ⟨b2, i, none⟩ (.bool b)) p b1 b2 v3 { s with taken := s.taken.set i b } := by
  have k : Keep (fun z => z = b2) w (w.setCell ⟨b2, i, none⟩ (.bool b)) := keep_one w ⟨b2, i, none⟩ _
  exact ⟨k.cell h.c0 h.p2, k.cell h.c1 h.p2, k.cell h.c2 h.p2, k.cell h.c3 h.p2, k.cell h.c4 h.p2, k.cell h.c5 h.p2, fun i => by simpa using h.fz i, h.o1.keep k (fun g hg e => by cases hg; exact h.b12 e), h.o2.set i b, h.o3.keep k (fun g hg e => h.v32 (by rw [hg, e])), h.p1, h.p2, h.b12, h.v3p, h.v31, h.v32⟩
theorem RefAt.setTag {w : World} {p b1 b2 : Nat} {v3 : Value} {s : St} (h : RefAt w p b1 b2 v3 s) (i : Nat) (t : Int) : RefAt (w.setCell ⟨b1, i, none⟩ (.int .i64 t)) p b1 b2 v3 { s with tags := s.tags.set i t } := by
  have k : Keep (fun z => z = b1) w (w.setCell ⟨b1, i, none⟩ (.int .i64 t)) := keep_one w ⟨b1, i, none⟩ _
  have l : (s.tags.set i t).length = s.tags.length := List.length_set
  refine ⟨k.cell h.c0 h.p1, ?_, ?_, k.cell h.c3 h.p1, k.cell h.c4 h.p1, k.cell h.c5 h.p1, fun i => by simpa using h.fz i, ?_, ?_, h.o3.keep k (fun g hg e => h.v31 (by rw [hg, e])), h.p1, h.p2, h.b12, h.v3p, h.v31, h.v32⟩
  · simp only [l]; exact k.cell h.c1 h.p1
  · simp only [l]; exact k.cell h.c2 h.p1
  · simp only [l]; exact h.o1.set i t
  · simp only [l]; exact h.o2.keep k (fun g hg e => by cases hg; exact h.b12 e.symm)
/-- The state is now s'; only the Pool's own blocks, and new ones, have turned. -/
def RPost (v : Value) (p b1 b2 : Nat) (v3 : Value) (s : St) (w : World) (e : Ending) (w' : World) : Prop :=
  e = .returned v ∧ ∃ v4, RefAt w' p b1 b2 v4 s ∧ Keep (Foot p b1 b2 v3) w w' ∧ ∀ k, v4.ownBlock = some k → v3.ownBlock = some k ∨ w.heap.size ≤ k
theorem bt_eq (a b : Int) (h : a = b) : (a == b) = true := by simpa using h
theorem rtake_full {w : World} {p b1 b2 : Nat} {v3 : Value} {s : St} (h : RefAt w p b1 b2 v3 s) (ok : Ok s) (hg : s.given = []) (hf : s.fresh = s.tags.length) :
    Calls Try.prog 22 #[.pointer (some ⟨p, 0, none⟩)] w fun e w' => e = .returned (.tuple #[.int .u64 0, .int .i64 15]) ∧ ∃ d, w' = w.drewN d := by
  have g1 := h.c1
  have g3 := h.c3
  have g4 := h.c4
  have n1 := ok.n1
  have o3 := h.o3
  rw [hg] at o3
  rw [hf] at g4
  clear hf
  rcases o3.form with ⟨rfl, _⟩ | ⟨g, c, rfl, _⟩
  all_goals
    go_enter Try.func22, Try.ntmps22
    go_wp2
    go_quiet (fail)
    go_wp2
    go_ret2
    exact ⟨rfl, _, rfl⟩
theorem rtake_fresh {w : World} {p b1 b2 : Nat} {v3 : Value} {s : St} (h : RefAt w p b1 b2 v3 s) (ok : Ok s) (hg : s.given = []) (i : Nat) (hi : s.fresh = i) (hf : i < s.tags.length) :
    Calls Try.prog 22 #[.pointer (some ⟨p, 0, none⟩)] w (RPost (.tuple #[.int .u64 (s.link i), .int .i64 0]) p b1 b2 v3 { s with taken := s.taken.set i true, fresh := i + 1 } w) := by
  have g1 := h.c1
  have g2 := h.c2
  have g3 := h.c3
  have g4 := h.c4
  have z4 := h.fz 4
  have n1 := ok.n1
  have o3 := h.o3
  rw [hg] at o3
  rw [hi] at g4
  have tc := h.tkAt ok i hf
  have tf := h.o2.free i
  have nt : ((i : Int) == (s.tags.length : Int)) = false := by rw [beq_eq_false_iff_ne]; omega
  have q2 := h.p2
  have q1 := h.p1
  have q3 := h.b12
  have okl : ∀ w', RefAt w' p b1 b2 v3 { s with fresh := (i : Int) + 1, taken := s.taken.set i true } → Calls Try.prog 38 #[.pointer (some ⟨p, 0, none⟩), .int .i64 i] w' fun e w2 => e = .returned (.int .u64 (s.link i)) ∧ w' = w2 := fun w' a => rlink_b a i hf n1 (tag_b ok i)
  obtain ⟨y, ey⟩ : ∃ y, s.tk i = y := ⟨_, rfl⟩
  rw [ey] at tc
  clear ey
  rcases o3.form with ⟨rfl, _⟩ | ⟨g, c, rfl, _⟩
  all_goals
    go_enter Try.func22, Try.ntmps22
    go_wp2
    go_quiet (fail)
    have a0 := ((h.keep (drewN_keep (fun _ => False) w nq) (by simp)).setFresh ((i : Int) + 1)).setTaken i true
    go_wp2_with fail
    refine (okl _ a0).mono ?_
    rintro e w' ⟨rfl, rfl⟩
    go_wp2
    go_ret2
    refine ⟨rfl, _, a0, ?_, fun k hk => .inl hk⟩
    exact ((drewN_keep _ w nq).trans (Keep.setCell (Keep.refl _ _) (p := ⟨p, 4, none⟩) (.inl rfl) _)).setCell (p := ⟨b2, i, none⟩) (.inr (.inr (.inl rfl))) _
end Go.Proofs.Ythmohehmpleciaa
