/- Contract of Take of package pool: the list is made where it is not yet; then its top is taken, or none is there; condition: a state that calls can bring about. -/
import Derived.Test.YtmfpjnlplimkeaaGreatPoolB
import Derived.Test.YtmfpjnlplimkeaaGreatOnceDo
namespace Go.Proofs.YtmfpjnlplimkeaaGreat
open Go.ChangeShapes Go.WideShapes Go.ChangeAt Go.RowKit
set_option linter.unusedVariables false

section
variable {w : World} {p b1 : Nat} {d m : Int} {vf : Value} {u : Int} {s : St}
/-- The list is there. -/
def Listed (p b1 : Nat) (vf : Value) (u : Int) (s : St) (w w' : World) : Prop :=
  ∃ b2, Core w' p b1 1 0 (.slice (some ⟨b2, 0, none⟩) s.stack.length s.tags.length) u s ∧ OwnP w' (.slice (some ⟨b2, 0, none⟩) s.stack.length s.tags.length) s.stack ∧ p ≠ b2 ∧ b1 ≠ b2 ∧ Keep (fun k => k = p) w w' ∧ (vf.ownBlock = some b2 ∨ w.heap.size ≤ b2)
def DoPost (p b1 : Nat) (vf : Value) (u : Int) (s : St) (w : World) (e : Ending) (w' : World) : Prop := e = .returned (.tuple #[]) ∧ Listed p b1 vf u s w w'
theorem stack_all (s : St) (hg : s.given = []) (hf : s.fresh = 0) : s.stack.length = s.tags.length := by simp [St.stack, hg, hf]
theorem qdo (h : Core w p b1 d 0 vf u s) (f : Free w p b1 s d vf) (ok : Ok s) :
    Calls Tryz.prog 47 #[.pointer (some ⟨p, 4, none⟩), .func (.func 48) #[.pointer (some ⟨p, 0, none⟩)] #[]] w (DoPost p b1 vf u s w) := by
  cases f with
  | made b2 o q1 q2 =>
    refine (once_done p 4 _ w h.c4).mono ?_
    rintro e w' ⟨rfl, rfl⟩
    exact ⟨rfl, b2, h, o, q1, q2, Keep.refl _ _, .inl rfl⟩
  | not hg hf =>
    have a1 := h.setM 1
    have f5 : w.frozen? ⟨p, 4 + 1, none⟩ = false := h.fz 5
    have kp : Keep (fun z => z = p) w (w.setCell ⟨p, 4 + 1, none⟩ (.int .i32 1)) := keep_one w ⟨p, 5, none⟩ _
    refine (once_first p 4 _ (fun w2 => ∃ b2, Core w2 p b1 0 1 (.slice (some ⟨b2, 0, none⟩) s.tags.length s.tags.length) u s ∧ OwnP w2 (.slice (some ⟨b2, 0, none⟩) s.tags.length s.tags.length) s.stack ∧ w.heap.size ≤ b2 ∧ Keep (fun k => k = p) w w2) w h.c4 h.c5 f5 ((qlistFree a1 ok hg hf).mono ?_)).mono ?_
    · rintro e w2 ⟨rfl, b2, c, o, lb, k⟩
      exact ⟨rfl, ⟨b2, c, o, Nat.le_trans kp.size lb, kp.trans k⟩, c.c4, c.c5, c.fz 4, c.fz 5⟩
    · rintro e w' ⟨rfl, w2, ⟨b2, c, o, lb, k⟩, rfl⟩
      have hl := h.lp
      have hb := h.lb
      have sl := stack_all s hg hf
      have c1 := ((c.keep (Keep.drew (Keep.refl (fun _ => False) _)) (by simp) (by simp)).setD 1).setM 0
      have k2 : Keep (fun z => z = p) w2 ((w2.drew.setCell ⟨p, 4, none⟩ (.int .u32 1)).setCell ⟨p, 4 + 1, none⟩ (.int .i32 0)) := ((Keep.refl (fun z => z = p) _).drew.setCell (p := ⟨p, 4, none⟩) rfl _).setCell (p := ⟨p, 5, none⟩) rfl _
      refine ⟨rfl, b2, ?_, ?_, by omega, by omega, k.trans k2, .inr lb⟩
      · rw [sl]; exact c1
      · rw [sl]; exact o.keep k2 (fun g hg e => by cases hg; have e : b2 = p := e; omega)
theorem Own.cut {g c : Nat} {w : World} {zs : List Int} {x : Int} (h : OwnP w (.slice (some ⟨g, 0, none⟩) (zs.length + 1) c) (zs ++ [x])) : OwnP w (.slice (some ⟨g, 0, none⟩) zs.length c) zs := by
  obtain ⟨h1, h2⟩ := id h
  refine ⟨by simp, .inr ?_⟩
  rcases h2 with ⟨h2, _⟩ | ⟨g', c', cur, hv, hb, hh, hl, hm, hs, ht⟩
  · simp at h2
  · refine ⟨g', c', cur, ?_, hb, hh, by simp at hl; omega, hm, hs, ?_⟩
    · simp at hv ⊢; exact ⟨hv.1, hv.2⟩
    · have := congrArg (List.take zs.length) ht
      simpa [List.take_take] using this
def TakeP (v : Value) (p b1 : Nat) (vf : Value) (st : List Int) (n : Nat) (u : Int) (s : St) (w : World) (e : Ending) (w' : World) : Prop :=
  e = .returned v ∧ ∃ b2, Core w' p b1 1 0 (.slice (some ⟨b2, 0, none⟩) st.length n) u s ∧ OwnP w' (.slice (some ⟨b2, 0, none⟩) st.length n) st ∧ p ≠ b2 ∧ b1 ≠ b2 ∧ Keep (fun k => k = p ∨ k = b1) w w' ∧ (vf.ownBlock = some b2 ∨ w.heap.size ≤ b2)
set_option maxHeartbeats 2000000 in
theorem qtake_full (h : Core w p b1 d 0 vf u s) (f : Free w p b1 s d vf) (ok : Ok s) (hs : s.stack = []) :
    Calls Tryz.prog 28 #[.pointer (some ⟨p, 0, none⟩)] w (TakeP (.tuple #[.int .u64 0, .int .i64 15]) p b1 vf s.stack s.tags.length u s w) := by
  go_enter Tryz.func28, Tryz.ntmps28
  go_wp2_with fail
  refine (qdo h f ok).mono ?_
  rintro e w1 ⟨rfl, b2, c, o, q1, q2, k, g⟩
  have g7 := c.c7
  have sl : s.stack.length = 0 := by rw [hs]; rfl
  rw [sl] at g7
  have P : ∃ b2, Core w1 p b1 1 0 (.slice (some ⟨b2, 0, none⟩) s.stack.length s.tags.length) u s ∧ OwnP w1 (.slice (some ⟨b2, 0, none⟩) s.stack.length s.tags.length) s.stack ∧ p ≠ b2 ∧ b1 ≠ b2 ∧ Keep (fun k => k = p ∨ k = b1) w w1 ∧ (vf.ownBlock = some b2 ∨ w.heap.size ≤ b2) := ⟨b2, c, o, q1, q2, k.mono (fun _ => .inl), g⟩
  clear c o k g sl hs
  go_wp2
  go_ret2
  exact ⟨rfl, P⟩
set_option maxHeartbeats 2000000 in
theorem qtake_top (h : Core w p b1 d 0 vf u s) (f : Free w p b1 s d vf) (ok : Ok s) (hu0 : 0 ≤ u) (hu1 : u ≤ 4096) (st : List Int) (i : Nat) (hs : s.stack = st ++ [(i : Int)]) (hl : st.length ≤ 4096) (hi : i < s.tags.length) :
    Calls Tryz.prog 28 #[.pointer (some ⟨p, 0, none⟩)] w (TakeP (.tuple #[.int .u64 (s.link i), .int .i64 0]) p b1 vf st s.tags.length (u + 1) { s with taken := s.taken.set i true } w) := by
  have n1 := ok.n1
  go_enter Tryz.func28, Tryz.ntmps28
  go_wp2_with fail
  refine (qdo h f ok).mono ?_
  rintro e w1 ⟨rfl, b2, c, o, q1, q2, k, g⟩
  have hlen : s.stack.length = st.length + 1 := by rw [hs]; simp
  rw [hlen] at c o
  rw [hs] at o
  clear hlen hs h f
  have g0 := c.c0
  have g2 := c.c2
  have z2 := c.fz 2
  have g7 := c.c7
  have z7 := c.fz 7
  have gk := c.tk i hi
  have zk := c.fb (i * 2 + 1)
  have top := o.cell st.length (by simp)
  rw [List.getElem_append_right (Nat.le_refl _)] at top
  simp only [Nat.sub_self, List.getElem_cons_zero] at top
  have gc : st.length + 1 ≤ s.tags.length := by
    obtain ⟨_, h2⟩ := id o
    rcases h2 with ⟨h2, _⟩ | ⟨g', c', cur, hv, _, _, hl, _⟩
    · simp at h2
    · simp at hv hl; omega
  have sb1 : IntKind.i64.wrap ((st.length : Int) + 1 - 1) = st.length := by rw [IntWalk.i64_in _ (by omega)]; omega
  have sb2 : (st.length : Int) + 1 - 1 = st.length := by omega
  have sb3 : (0 : Int) ≤ st.length := by omega
  have sb4 : st.length < st.length + 1 := by omega
  have sb5 : IntKind.i64.wrap (st.length : Int) = st.length := IntWalk.i64_in _ (by omega)
  have sb6 : st.length ≤ s.tags.length := by omega
  have sb7 : (st.length : Int) ≤ s.tags.length := by omega
  have a1 := ((c.setF (.slice (some ⟨b2, 0, none⟩) st.length s.tags.length)).setTk i true (by rw [ok.tl]; exact hi) ok.tl).setU (u + 1)
  have K : Keep (fun k => k = p ∨ k = b1) w (((w1.setCell ⟨p, 7, none⟩ (.slice (some ⟨b2, 0, none⟩) st.length s.tags.length)).setCell ⟨b1, i * 2 + 1, none⟩ (.bool true)).setCell ⟨p, 2, none⟩ (.int .i64 (u + 1))) := (((k.mono (fun _ => .inl)).setCell (p := ⟨p, 7, none⟩) (.inl rfl) _).setCell (p := ⟨b1, i * 2 + 1, none⟩) (.inr rfl) _).setCell (p := ⟨p, 2, none⟩) (.inl rfl) _
  have o1 := o.cut.keep (((keep_one w1 ⟨p, 7, none⟩ (.slice (some ⟨b2, 0, none⟩) st.length s.tags.length)).mono (T := fun k => k = p ∨ k = b1) (fun _ => .inl)).setCell (p := ⟨b1, i * 2 + 1, none⟩) (.inr rfl) (.bool true)|>.setCell (p := ⟨p, 2, none⟩) (.inl rfl) (.int .i64 (u + 1))) (fun g hg e => by cases hg; rcases e with e | e; exact q1 e.symm; exact q2 e.symm)
  have hp1 := c.p1
  have P : ∃ b2', Core _ p b1 1 0 (.slice (some ⟨b2', 0, none⟩) st.length s.tags.length) (u + 1) { s with taken := s.taken.set i true } ∧ OwnP _ (.slice (some ⟨b2', 0, none⟩) st.length s.tags.length) st ∧ p ≠ b2' ∧ b1 ≠ b2' ∧ Keep (fun k => k = p ∨ k = b1) w _ ∧ (vf.ownBlock = some b2' ∨ w.heap.size ≤ b2') := ⟨b2, a1, o1, q1, q2, K, g⟩
  have L := qlink_b a1 i hi n1 (tag_bp ok i)
  obtain ⟨y, ey⟩ : ∃ y, s.tk i = y := ⟨_, rfl⟩
  rw [ey] at gk
  clear ey a1 o1 K c o k g
  go_wp2_with fail
  refine L.mono ?_
  rintro e w'' ⟨rfl, rfl⟩
  go_wp2
  go_ret2
  exact ⟨rfl, P⟩
end
end Go.Proofs.YtmfpjnlplimkeaaGreat
