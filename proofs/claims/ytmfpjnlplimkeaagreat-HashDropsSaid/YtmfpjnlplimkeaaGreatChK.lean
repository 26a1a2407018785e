/- Package chain, fourth part: Cut of any Chain over a Store and a word of an Arena: what stands nowhere, what stands first, what stands behind another one; condition: 4095 links at most, the counts of accesses at most 2^61. -/
import Derived.Test.YtmfpjnlplimkeaaGreatChP
namespace Go.Proofs.YtmfpjnlplimkeaaGreat
open Go.ChangeShapes Go.WideShapes Go.ChangeAt Go.RowKit
set_option linter.unusedVariables false

def CutR (w : World) (p : Nat) (S : Nat → Prop) (pa qa q at' : Nat) (s2 : RS) (zs2 : List Int) (C2 : Int) (m : Nat) (dv : Value) (wr : World) : Prop :=
  (m = 1 ∧ dv = .bool false ∧ w = wr) ∨ (m = 0 ∧ dv = .bool true ∧ ∃ S', CG wr p S' s2 pa qa zs2 C2 q at' ∧ Turn pa qa S S' w wr)
section
variable {w w1 w' : World} {p pa qa q at' : Nat} {S S1 S' : Nat → Prop} {s s' : RS} {zs zs' : List Int} {C C' : Int} {l : List Int}
theorem cbeh (h : CG w p S s pa qa zs C q at') (hc : s.c ≤ 2305843009213693952) (x : Int) (hx : U64 x) (y : Ver) (hy : s.get x = .tuple #[verV y, .bool true]) (z : Int) (hz : y.n = z) (hne : z ≠ x) :
    Calls Tryz.prog 38 #[.pointer (some ⟨q, 0, none⟩), .int .u64 x] w fun e w' => e = .returned (.int .u64 z) ∧ ∃ S', CG w' p S' s.tick pa qa zs C q at' ∧ VKeep S S' w w' := by
  refine (cbehind h.hv h.ok hc h.ch.c0 x hx y hy z hz hne).mono ?_
  rintro e w1 ⟨rfl, S1, h1, k1⟩
  exact ⟨rfl, S1, h.store h1 h.ok.tick k1, k1⟩
theorem slice_form {B : Nat} {w : World} {v : Value} (o : OwnU B w v l) : ∃ A c, v = Value.slice A l.length c := by
  rcases OwnU.shape o with ⟨h1, h2⟩ | ⟨g, c, h1, _⟩
  · exact ⟨none, 0, by rw [h1, h2]; rfl⟩
  · exact ⟨_, c, h1⟩
set_option maxRecDepth 100000 in
/-- What does not stand there is not cut. -/
theorem ccut_no (h : CG w p S s pa qa zs C q at') (hC : C ≤ 2305843009213693952) (hc : s.c ≤ 2305843009213693952) (ln : Linked s l) (hl : l.length ≤ 4095) (hz : zs.getD at' 0 = l.headD 0) (x : Int) (hx : x ∉ l) :
    Calls Tryz.prog 11 #[.pointer (some ⟨q, 0, none⟩), .int .u64 x] w fun e w' => e = .returned (.bool false) ∧ ∃ S', CG w' p S' (s.more (l.length + 1)) pa qa zs (C + 1) q at' ∧ Turn pa qa S S' w w' := by
  have hh := clinks h (by omega) hc ln hl hz
  go_enter Tryz.func11, Tryz.ntmps11
  go_wp2
  go_loopw [5] (fun i wr => i = .bool false ∧ w = wr) (fun _ _ => 0)
  case atStart => exact ⟨rfl, rfl⟩
  case round =>
    obtain ⟨rfl, rfl⟩ := hrel
    go_wp2_with fail
    refine hh.mono ?_
    rintro e w1 ⟨v, S1, rfl, o, _, h1, t1⟩
    have hi := index_loop o (by omega) x _ (.inl ⟨hx, rfl⟩)
    clear hh hx o
    go_wp2_with fail
    refine hi.mono ?_
    rintro e w' ⟨rfl, rfl⟩
    clear hi
    go_wp2
    go_ret
    exact ⟨rfl, S1, h1, t1⟩
set_option maxRecDepth 100000 in
set_option maxHeartbeats 4000000 in
/-- The first one is cut. -/
theorem ccut_first (h : CG w p S s pa qa zs C q at') (hC : C ≤ 2305843009213693952) (hc : s.c ≤ 1152921504606846976) (x : Int) (ln : Linked s (x :: l)) (hl : l.length ≤ 4094) (hz : zs.getD at' 0 = x) :
    Calls Tryz.prog 11 #[.pointer (some ⟨q, 0, none⟩), .int .u64 x] w fun e w' => e = .returned (.bool true) ∧ ∃ S', CG w' p S' (s.more (2 * l.length + 4)) pa qa (zs.set at' (l.headD 0)) (C + 3) q at' ∧ Turn pa qa S S' w w' := by
  have ux := (ln.pos h.ok (List.mem_cons_self ..)).1
  have x0 := (ln.pos h.ok (List.mem_cons_self ..)).2
  have nd := List.nodup_cons.1 ln.nd
  have ln2 := ln.cut_first
  have uz := head_u64 ln2 h.ok
  have hzx : l.headD 0 ≠ x := by
    cases l with
    | nil => exact fun e => x0 e.symm
    | cons a t => exact fun e => nd.1 (by rw [show a = x from e]; exact List.mem_cons_self ..)
  have e1 : (x :: l).getD 1 0 = l.headD 0 := by cases l <;> rfl
  have hh := clinks h (by omega) (by omega) ln (by simp; omega) hz
  obtain ⟨z, ez⟩ : ∃ z, l.headD 0 = z := ⟨_, rfl⟩
  obtain ⟨s1, es1⟩ : ∃ s1, s.more (l.length + 2) = s1 := ⟨_, rfl⟩
  have c1 : s1.c ≤ 1152921504606846976 + 300000 := by rw [← es1]; show s.c + 64 * ((l.length + 2 : Nat) : Int) ≤ _; omega
  obtain ⟨y, hy, hyn⟩ := ln.get 0 (by simp)
  rw [Nat.zero_add, e1] at hyn
  have hy : s1.get x = .tuple #[verV y, .bool true] := by rw [← es1]; exact hy
  rw [ez] at hyn hzx uz ⊢
  have ln1 : Linked s1 l := by rw [← es1]; exact ln2.more _
  have ln3 : Linked s1.tick l := ln1.tick
  have est : s.more ((x :: l).length + 1) = s1 := by rw [← es1]; rfl
  have esf : s1.tick.more (l.length + 1) = s.more (2 * l.length + 4) := by
    rw [← es1]; unfold RS.more RS.tick; simp only [RS.mk.injEq, true_and]; omega
  have hz2 : (zs.set at' z).getD at' 0 = l.headD 0 := by rw [getD_setI _ _ _ _ h.lt, if_pos rfl, ez]
  rw [est] at hh
  have hn2 := nd.1
  clear ln ln2 est es1 nd x0 e1
  have Z2 := Lib.hid hz2
  have EF := Lib.hid esf
  have ZX := Lib.hid hzx
  clear hz2 ez esf hzx
  go_enter Tryz.func11, Tryz.ntmps11
  go_wp2
  go_loopg [5] 1 (fun m dv wr => CutR w p S pa qa q at' s1.tick (zs.set at' z) (C + 2) m dv wr)
  case atStart => exact .inl ⟨rfl, rfl, rfl⟩
  case round =>
    rcases hrel with ⟨rfl, rfl, rfl⟩ | ⟨rfl, rfl, S2, h2, t2⟩
    · go_wp2_with fail
      refine hh.mono ?_
      rintro e w1 ⟨v, S1, rfl, o, _, h1, t1⟩
      have hi := index_loop o (by simp; omega) x 0 (.inr ⟨0, ⟨by simp, by simp, fun m hm => absurd hm (Nat.not_lt_zero m)⟩, rfl⟩)
      clear hh o
      go_wp2_with fail
      refine hi.mono ?_
      rintro e w' ⟨rfl, rfl⟩
      clear hi
      have i1 := h1.ch.c1
      have i2 := h1.ch.c2
      go_wp2_with fail
      refine wp_region_held_drew (S := (fun w' => w'.cell? ⟨q, 1, none⟩ = some (.pointer (some ⟨pa, 0, none⟩)) ∧ w'.cell? ⟨q, 2, none⟩ = some (.int .i64 at'))) (by kernel_rfl) ⟨i1, i2⟩ (fun hHeld => ?_)
      have kd := (Keep.refl (fun _ => False) w1).drew
      have hd := h1.drew
      clear i1 i2
      refine wpAnyH_take (i := 0) (v := ?qvu49) rfl (by kernel_rfl) (by kernel_rfl) (by kernel_rfl) (fun _ _ _ h => h) (Or.inl ⟨by rfl, ?qyu49⟩) (by assumption) ?qru49; case qyu49 => ((intro w hSw; (try dsimp only at hSw); go_simp); try (with_reducible rfl))
      ((try simp only [List.getElem_toArray]); (try simp only [List.getElem_cons_succ]); (try simp only [List.getElem_cons_zero]); (try simp only [Act.put]); (try simp only [List.setIfInBounds_toArray]); (try simp only [List.set_cons_succ]); (try simp only [List.set_cons_zero]))
      refine wpAnyH_take (i := 1) (v := ?qvu50) rfl (by kernel_rfl) (by kernel_rfl) (by kernel_rfl) (fun _ _ _ h => h) (Or.inl ⟨by rfl, ?qyu50⟩) (by assumption) ?qru50; case qyu50 => ((intro w hSw; (try dsimp only at hSw); go_simp); try (with_reducible rfl))
      ((try simp only [List.getElem_toArray]); (try simp only [List.getElem_cons_succ]); (try simp only [List.getElem_cons_zero]); (try simp only [Act.put]); (try simp only [List.setIfInBounds_toArray]); (try simp only [List.set_cons_succ]); (try simp only [List.set_cons_zero]))
      refine wpAnyH_take (i := 2) (v := ?qvu51) rfl (by kernel_rfl) (by kernel_rfl) (by kernel_rfl) (fun _ _ _ h => h) (Or.inl ⟨by rfl, ?qyu51⟩) (by assumption) ?qru51; case qyu51 => ((intro w hSw; (try dsimp only at hSw); go_simp); try (with_reducible rfl))
      ((try simp only [List.getElem_toArray]); (try simp only [List.getElem_cons_succ]); (try simp only [List.getElem_cons_zero]); (try simp only [Act.put]); (try simp only [List.setIfInBounds_toArray]); (try simp only [List.set_cons_succ]); (try simp only [List.set_cons_zero]))
      refine wpAnyH_take (i := 3) (v := ?qvu52) rfl (by kernel_rfl) (by kernel_rfl) (by kernel_rfl) (fun _ _ _ h => h) (Or.inl ⟨by rfl, ?qyu52⟩) (by assumption) ?qru52; case qyu52 => ((intro w hSw; (try dsimp only at hSw); go_simp); try (with_reducible rfl))
      ((try simp only [List.getElem_toArray]); (try simp only [List.getElem_cons_succ]); (try simp only [List.getElem_cons_zero]); (try simp only [Act.put]); (try simp only [List.setIfInBounds_toArray]); (try simp only [List.set_cons_succ]); (try simp only [List.set_cons_zero]))
      refine wpAnyH_take (i := 4) (v := ?qvu53) rfl (by kernel_rfl) (by kernel_rfl) (by kernel_rfl) (fun _ _ _ h => h) (Or.inl ⟨by rfl, ?qyu53⟩) (by assumption) ?qru53; case qyu53 => ((intro w hSw; (try dsimp only at hSw); go_simp); try (with_reducible rfl))
      ((try simp only [List.getElem_toArray]); (try simp only [List.getElem_cons_succ]); (try simp only [List.getElem_cons_zero]); (try simp only [Act.put]); (try simp only [List.setIfInBounds_toArray]); (try simp only [List.set_cons_succ]); (try simp only [List.set_cons_zero]))
      refine wpAnyH_take (i := 5) (v := ?qvu54) rfl (by kernel_rfl) (by kernel_rfl) (by kernel_rfl) (fun _ _ _ h => h) (Or.inl ⟨by rfl, ?qyu54⟩) (by assumption) ?qru54; case qyu54 => ((intro w hSw; (try dsimp only at hSw); go_simp); try (with_reducible rfl))
      ((try simp only [List.getElem_toArray]); (try simp only [List.getElem_cons_succ]); (try simp only [List.getElem_cons_zero]); (try simp only [Act.put]); (try simp only [List.setIfInBounds_toArray]); (try simp only [List.set_cons_succ]); (try simp only [List.set_cons_zero]))
      refine wpAnyH_take (i := 6) (v := ?qvu55) rfl (by kernel_rfl) (by kernel_rfl) (by kernel_rfl) (fun _ _ _ h => h) (Or.inl ⟨by rfl, ?qyu55⟩) (by assumption) ?qru55; case qyu55 => ((intro w hSw; (try dsimp only at hSw); go_simp); try (with_reducible rfl))
      ((try simp only [List.getElem_toArray]); (try simp only [List.getElem_cons_succ]); (try simp only [List.getElem_cons_zero]); (try simp only [Act.put]); (try simp only [List.setIfInBounds_toArray]); (try simp only [List.set_cons_succ]); (try simp only [List.set_cons_zero]))
      refine wpAnyH_take (i := 7) (v := ?qvu56) rfl (by kernel_rfl) (by kernel_rfl) (by kernel_rfl) (fun _ _ _ h => h) (Or.inl ⟨by rfl, ?qyu56⟩) (by assumption) ?qru56; case qyu56 => ((intro w hSw; (try dsimp only at hSw); go_simp); try (with_reducible rfl))
      ((try simp only [List.getElem_toArray]); (try simp only [List.getElem_cons_succ]); (try simp only [List.getElem_cons_zero]); (try simp only [Act.put]); (try simp only [List.setIfInBounds_toArray]); (try simp only [List.set_cons_succ]); (try simp only [List.set_cons_zero]))
      refine wpAnyH_take (i := 8) (v := ?qvu57) rfl (by kernel_rfl) (by kernel_rfl) (by kernel_rfl) (fun _ _ _ h => h) (Or.inl ⟨by rfl, ?qyu57⟩) (by assumption) ?qru57; case qyu57 => ((intro w hSw; (try dsimp only at hSw); go_simp); try (with_reducible rfl))
      ((try simp only [List.getElem_toArray]); (try simp only [List.getElem_cons_succ]); (try simp only [List.getElem_cons_zero]); (try simp only [Act.put]); (try simp only [List.setIfInBounds_toArray]); (try simp only [List.set_cons_succ]); (try simp only [List.set_cons_zero]))
      refine wpAnyH_take (i := 9) (v := ?qvu58) rfl (by kernel_rfl) (by kernel_rfl) (by kernel_rfl) (fun _ _ _ h => h) (Or.inl ⟨by rfl, ?qyu58⟩) (by assumption) ?qru58; case qyu58 => ((intro w hSw; (try dsimp only at hSw); go_simp); try (with_reducible rfl))
      ((try simp only [List.getElem_toArray]); (try simp only [List.getElem_cons_succ]); (try simp only [List.getElem_cons_zero]); (try simp only [Act.put]); (try simp only [List.setIfInBounds_toArray]); (try simp only [List.set_cons_succ]); (try simp only [List.set_cons_zero]))
      refine wpAnyH_take (i := 10) (v := ?qvu59) rfl (by kernel_rfl) (by kernel_rfl) (by kernel_rfl) (fun _ _ _ h => h) (Or.inl ⟨by rfl, ?qyu59⟩) (by assumption) ?qru59; case qyu59 => ((intro w hSw; (try dsimp only at hSw); go_simp); try (with_reducible rfl))
      ((try simp only [List.getElem_toArray]); (try simp only [List.getElem_cons_succ]); (try simp only [List.getElem_cons_zero]); (try simp only [Act.put]); (try simp only [List.setIfInBounds_toArray]); (try simp only [List.set_cons_succ]); (try simp only [List.set_cons_zero]))
      refine wpAnyH_ready (rs := [11]) (by kernel_rfl) (by simp) ?_
      refine AllReadyH.cons rfl (fun K hK => ?_) AllReadyH.nil
      go_simp
      refine (cbeh hd (by omega) x ux y hy z hyn ZX.out).mono ?_
      rintro e y1 ⟨rfl, S3, h3, k3⟩
      refine hK.out _ _ ⟨h3.ch.c1, h3.ch.c2⟩ (fun hHeld => ?_)
      clear hK K
      ((try simp only [List.getElem_toArray]); (try simp only [List.getElem_cons_succ]); (try simp only [List.getElem_cons_zero]); (try simp only [Act.put]); (try simp only [List.setIfInBounds_toArray]); (try simp only [List.set_cons_succ]); (try simp only [List.set_cons_zero]))
      refine wpAnyH_ready (rs := [12]) (by kernel_rfl) (by simp) ?_
      refine AllReadyH.cons rfl (fun K hK => ?_) AllReadyH.nil
      go_simp
      refine (ccas h3 (by omega) x z uz hz).mono ?_
      rintro e y2 ⟨rfl, h4, k4⟩
      have t4 := (t1.trans (Turn.quiet kd)).trans ((Turn.store k3).trans (Turn.arena k4))
      refine hK.out _ _ ⟨h4.ch.c1, h4.ch.c2⟩ (fun hHeld => ?_)
      clear hK K
      ((try simp only [List.getElem_toArray]); (try simp only [List.getElem_cons_succ]); (try simp only [List.getElem_cons_zero]); (try simp only [Act.put]); (try simp only [List.setIfInBounds_toArray]); (try simp only [List.set_cons_succ]); (try simp only [List.set_cons_zero]))
      refine wpAnyH_take (i := 13) (v := ?qvu60) rfl (by kernel_rfl) (by kernel_rfl) (by kernel_rfl) (fun _ _ _ h => h) (Or.inl ⟨by rfl, ?qyu60⟩) (by assumption) ?qru60; case qyu60 => ((intro w hSw; (try dsimp only at hSw); go_simp); try (with_reducible rfl))
      ((try simp only [List.getElem_toArray]); (try simp only [List.getElem_cons_succ]); (try simp only [List.getElem_cons_zero]); (try simp only [Act.put]); (try simp only [List.setIfInBounds_toArray]); (try simp only [List.set_cons_succ]); (try simp only [List.set_cons_zero]))
      refine wpAnyH_done (by kernel_rfl) ?_ _
      go_wp2
      go_roundg 0
      (case measure => omega)
      (case rel => exact .inr ⟨rfl, rfl, S3, h4.up (by omega), t4⟩)
    · have hk := clinks h2 (by omega) (by show s1.c + 64 ≤ _; omega) ln3 (by omega) Z2.out
      rw [EF.out] at hk
      clear hh hy hyn
      go_wp2_with fail
      refine hk.mono ?_
      rintro e w1 ⟨v, S3, rfl, o, _, h3, t3⟩
      have hi := index_loop o (by omega) x _ (.inl ⟨hn2, rfl⟩)
      clear hk o hn2
      go_wp2_with fail
      refine hi.mono ?_
      rintro e w' ⟨rfl, rfl⟩
      clear hi
      go_wp2
      go_ret
      exact ⟨rfl, S3, h3.up (by omega), t2.trans t3⟩
set_option maxRecDepth 100000 in
set_option maxHeartbeats 4000000 in
/-- One that stands behind another one is cut. -/
theorem ccut_mid (h : CG w p S s pa qa zs C q at') (hC : C ≤ 2305843009213693952) (hc : s.c ≤ 1152921504606846976) (ln : Linked s l) (hl : l.length ≤ 4095) (hz : zs.getD at' 0 = l.headD 0) (x : Int) (j : Nat) (hj : j + 1 < l.length) (hx : l.getD (j + 1) 0 = x) (b : Int) (hb : l.getD j 0 = b) (s1 s2 : RS) (e1 : s.more (l.length + 2) = s1) (e2 : s1.put (slotOf b) { s1.ver (slotOf b) with n := l.getD (j + 2) 0 } = s2) :
    Calls Tryz.prog 11 #[.pointer (some ⟨q, 0, none⟩), .int .u64 x] w fun e w' => e = .returned (.bool true) ∧ ∃ S', CG w' p S' (s2.more (l.length)) pa qa zs (C + 2) q at' ∧ Turn pa qa S S' w w' := by
  have hxm : x ∈ l := by rw [← hx]; exact getD_mem hj
  have hbm : b ∈ l := by rw [← hb]; exact getD_mem (by omega)
  have ux := (ln.pos h.ok hxm).1
  have ub := (ln.pos h.ok hbm).1
  have x0 := (ln.pos h.ok hxm).2
  have hbl := ln.live b hbm
  have uz := ln.u64 h.ok (j + 2)
  have hzx : l.getD (j + 2) 0 ≠ x := by
    by_cases hlt : j + 2 < l.length
    · intro e
      have := getD_inj ln.nd hlt hj (e.trans hx.symm)
      omega
    · rw [List.getD_eq_getElem?_getD, List.getElem?_eq_none (by omega)]
      exact fun e => x0 e.symm
  have ok1 : ROk s1 := by rw [← e1]; exact h.ok.more _
  have ln1 : Linked s1 l := by rw [← e1]; exact ln.more _
  have c1 : s1.c ≤ 1152921504606846976 + 300000 := by rw [← e1]; show s.c + 64 * ((l.length + 2 : Nat) : Int) ≤ _; omega
  have ln2 : Linked s2 (l.eraseIdx (j + 1)) := by
    rw [← e2, ← hb]; exact ln1.cut ok1 j hj
  have hle : (l.eraseIdx (j + 1)).length + 1 = l.length := by rw [List.length_eraseIdx_of_lt hj]; omega
  have hne : x ∉ l.eraseIdx (j + 1) := by
    rw [← erase_idx ln.nd hj, hx]
    exact fun e => by rw [ln.nd.mem_erase_iff] at e; exact e.1 rfl
  have hze : zs.getD at' 0 = (l.eraseIdx (j + 1)).headD 0 := by
    rw [hz]
    cases l with
    | nil => rfl
    | cons a t => rfl
  have hfa : FirstAt l x (j + 1) := ⟨hj, hx, fun m hm e => by
    have := getD_inj ln.nd (by omega) hj (e.trans hx.symm)
    omega⟩
  have hh := clinks h (by omega) (by omega) ln hl hz
  obtain ⟨y, hy, hyn⟩ := ln.get (j + 1) hj
  rw [hx] at hy
  obtain ⟨z, ez⟩ : ∃ z, l.getD (j + 2) 0 = z := ⟨_, rfl⟩
  rw [ez] at hyn hzx uz e2
  obtain ⟨s0, es0⟩ : ∃ s0, s.more (l.length + 1) = s0 := ⟨_, rfl⟩
  have et : s0.tick = s1 := by rw [← es0, ← e1, RS.more_tick]
  have c0 : s0.c ≤ 1152921504606846976 + 300000 := by rw [← es0]; show s.c + 64 * ((l.length + 1 : Nat) : Int) ≤ _; omega
  have hy : s0.get x = .tuple #[verV y, .bool true] := by rw [← es0]; exact hy
  have hs2 : s1.next b z = (0, s2) := by unfold RS.next; rw [if_pos (by rw [← e1]; exact hbl), e2]
  have c2 : s2.c = s1.c + 64 := by rw [← e2]; rfl
  rw [es0] at hh
  have d0 : j < l.length := by omega
  have wr0 : IntKind.i64.wrap (j : Int) = (j : Int) := IntWalk.i64_in _ (by omega)
  have wr1 : IntKind.i64.wrap ((j : Int) + 1 - 1) = (j : Int) := (IntWalk.i64_in _ (by omega)).trans (by omega)
  have Z2 := Lib.hid hze
  have ZX := Lib.hid hzx
  have HB := Lib.hid hb
  have C2 := Lib.hid c2
  have HL := Lib.hid hle
  clear hz hze ez e1 e2 hxm hbm x0 hbl hx es0 ok1 ln1 ln hzx hb c2 hle
  go_enter Tryz.func11, Tryz.ntmps11
  go_wp2
  go_loopg [5] 1 (fun m dv wr => CutR w p S pa qa q at' s2 zs (C + 1) m dv wr)
  case atStart => exact .inl ⟨rfl, rfl, rfl⟩
  case round =>
    rcases hrel with ⟨rfl, rfl, rfl⟩ | ⟨rfl, rfl, S2, h2, t2⟩
    · go_wp2_with fail
      refine hh.mono ?_
      rintro e w1 ⟨v, S1, rfl, o, dv, h1, t1⟩
      have hi := index_loop o (by omega) x ((j : Int) + 1) (.inr ⟨j + 1, hfa, by omega⟩)
      obtain ⟨g, c, rfl⟩ : ∃ g c, v = Value.slice (some ⟨g, 0, none⟩) l.length c := by
        rcases OwnU.shape o with ⟨h1, h2⟩ | ⟨g, c, h1, _⟩
        · rw [h2] at hj; simp at hj
        · exact ⟨g, c, h1⟩
      have i3 := OwnU.cell o j (by omega)
      rw [HB.out] at i3
      have ng := dv g rfl
      have gl := (OwnU.lt o rfl).2
      have gp : g ≠ pa := by have z1 : w.heap.size ≤ g := (OwnU.lt o rfl).1; have z2 := h.la.1; omega
      have gq : g ≠ qa := by have z1 : w.heap.size ≤ g := (OwnU.lt o rfl).1; have z2 := h.la.2.1; omega
      clear hh o hfa dv
      go_wp2_with fail
      refine hi.mono ?_
      rintro e w' ⟨rfl, rfl⟩
      clear hi
      have i1 := h1.ch.c0
      go_wp2_with fail
      refine wp_region_held_drew (S := (fun w' => w'.cell? ⟨q, 0, none⟩ = some (.pointer (some ⟨p, 0, none⟩)) ∧ w'.cell? ⟨g, j, none⟩ = some (.int .u64 b))) (by kernel_rfl) ⟨i1, i3⟩ (fun hHeld => ?_)
      have kd := (Keep.refl (fun _ => False) w1).drew
      have hd := h1.drew
      clear i1
      refine wpAnyH_take (i := 0) (v := ?qvu61) rfl (by kernel_rfl) (by kernel_rfl) (by kernel_rfl) (fun _ _ _ h => h) (Or.inl ⟨by rfl, ?qyu61⟩) (by assumption) ?qru61; case qyu61 => ((intro w hSw; (try dsimp only at hSw); go_simp); try (with_reducible rfl))
      ((try simp only [List.getElem_toArray]); (try simp only [List.getElem_cons_succ]); (try simp only [List.getElem_cons_zero]); (try simp only [Act.put]); (try simp only [List.setIfInBounds_toArray]); (try simp only [List.set_cons_succ]); (try simp only [List.set_cons_zero]))
      refine wpAnyH_take (i := 1) (v := ?qvu62) rfl (by kernel_rfl) (by kernel_rfl) (by kernel_rfl) (fun _ _ _ h => h) (Or.inl ⟨by rfl, ?qyu62⟩) (by assumption) ?qru62; case qyu62 => ((intro w hSw; (try dsimp only at hSw); go_simp); try (with_reducible rfl))
      ((try simp only [List.getElem_toArray]); (try simp only [List.getElem_cons_succ]); (try simp only [List.getElem_cons_zero]); (try simp only [Act.put]); (try simp only [List.setIfInBounds_toArray]); (try simp only [List.set_cons_succ]); (try simp only [List.set_cons_zero]))
      refine wpAnyH_take (i := 2) (v := ?qvu63) rfl (by kernel_rfl) (by kernel_rfl) (by kernel_rfl) (fun _ _ _ h => h) (Or.inl ⟨by rfl, ?qyu63⟩) (by assumption) ?qru63; case qyu63 => ((intro w hSw; (try dsimp only at hSw); go_simp); try (with_reducible rfl))
      ((try simp only [List.getElem_toArray]); (try simp only [List.getElem_cons_succ]); (try simp only [List.getElem_cons_zero]); (try simp only [Act.put]); (try simp only [List.setIfInBounds_toArray]); (try simp only [List.set_cons_succ]); (try simp only [List.set_cons_zero]))
      refine wpAnyH_take (i := 3) (v := ?qvu64) rfl (by kernel_rfl) (by kernel_rfl) (by kernel_rfl) (fun _ _ _ h => h) (Or.inl ⟨by rfl, ?qyu64⟩) (by assumption) ?qru64; case qyu64 => ((intro w hSw; (try dsimp only at hSw); go_simp); try (with_reducible rfl))
      ((try simp only [List.getElem_toArray]); (try simp only [List.getElem_cons_succ]); (try simp only [List.getElem_cons_zero]); (try simp only [Act.put]); (try simp only [List.setIfInBounds_toArray]); (try simp only [List.set_cons_succ]); (try simp only [List.set_cons_zero]))
      refine wpAnyH_take (i := 4) (v := ?qvu65) rfl (by kernel_rfl) (by kernel_rfl) (by kernel_rfl) (fun _ _ _ h => h) (Or.inl ⟨by rfl, ?qyu65⟩) (by assumption) ?qru65; case qyu65 => ((intro w hSw; (try dsimp only at hSw); go_simp); try (with_reducible rfl))
      ((try simp only [List.getElem_toArray]); (try simp only [List.getElem_cons_succ]); (try simp only [List.getElem_cons_zero]); (try simp only [Act.put]); (try simp only [List.setIfInBounds_toArray]); (try simp only [List.set_cons_succ]); (try simp only [List.set_cons_zero]))
      refine wpAnyH_take (i := 5) (v := ?qvu66) rfl (by kernel_rfl) (by kernel_rfl) (by kernel_rfl) (fun _ _ _ h => h) (Or.inl ⟨by rfl, ?qyu66⟩) (by assumption) ?qru66; case qyu66 => ((intro w hSw; (try dsimp only at hSw); go_simp); try (with_reducible rfl))
      ((try simp only [List.getElem_toArray]); (try simp only [List.getElem_cons_succ]); (try simp only [List.getElem_cons_zero]); (try simp only [Act.put]); (try simp only [List.setIfInBounds_toArray]); (try simp only [List.set_cons_succ]); (try simp only [List.set_cons_zero]))
      refine wpAnyH_take (i := 6) (v := ?qvu67) rfl (by kernel_rfl) (by kernel_rfl) (by kernel_rfl) (fun _ _ _ h => h) (Or.inl ⟨by rfl, ?qyu67⟩) (by assumption) ?qru67; case qyu67 => ((intro w hSw; (try dsimp only at hSw); go_simp); try (with_reducible rfl))
      ((try simp only [List.getElem_toArray]); (try simp only [List.getElem_cons_succ]); (try simp only [List.getElem_cons_zero]); (try simp only [Act.put]); (try simp only [List.setIfInBounds_toArray]); (try simp only [List.set_cons_succ]); (try simp only [List.set_cons_zero]))
      refine wpAnyH_take (i := 7) (v := ?qvu68) rfl (by kernel_rfl) (by kernel_rfl) (by kernel_rfl) (fun _ _ _ h => h) (Or.inl ⟨by rfl, ?qyu68⟩) (by assumption) ?qru68; case qyu68 => ((intro w hSw; (try dsimp only at hSw); go_simp); try (with_reducible rfl))
      ((try simp only [List.getElem_toArray]); (try simp only [List.getElem_cons_succ]); (try simp only [List.getElem_cons_zero]); (try simp only [Act.put]); (try simp only [List.setIfInBounds_toArray]); (try simp only [List.set_cons_succ]); (try simp only [List.set_cons_zero]))
      refine wpAnyH_take (i := 8) (v := ?qvu69) rfl (by kernel_rfl) (by kernel_rfl) (by kernel_rfl) (fun _ _ _ h => h) (Or.inl ⟨by rfl, ?qyu69⟩) (by assumption) ?qru69; case qyu69 => ((intro w hSw; (try dsimp only at hSw); go_simp); try (with_reducible rfl))
      ((try simp only [List.getElem_toArray]); (try simp only [List.getElem_cons_succ]); (try simp only [List.getElem_cons_zero]); (try simp only [Act.put]); (try simp only [List.setIfInBounds_toArray]); (try simp only [List.set_cons_succ]); (try simp only [List.set_cons_zero]))
      refine wpAnyH_take (i := 9) (v := ?qvu70) rfl (by kernel_rfl) (by kernel_rfl) (by kernel_rfl) (fun _ _ _ h => h) (Or.inl ⟨by rfl, ?qyu70⟩) (by assumption) ?qru70; case qyu70 => ((intro w hSw; (try dsimp only at hSw); go_simp); try (with_reducible rfl))
      ((try simp only [List.getElem_toArray]); (try simp only [List.getElem_cons_succ]); (try simp only [List.getElem_cons_zero]); (try simp only [Act.put]); (try simp only [List.setIfInBounds_toArray]); (try simp only [List.set_cons_succ]); (try simp only [List.set_cons_zero]))
      refine wpAnyH_take (i := 10) (v := ?qvu71) rfl (by kernel_rfl) (by kernel_rfl) (by kernel_rfl) (fun _ _ _ h => h) (Or.inl ⟨by rfl, ?qyu71⟩) (by assumption) ?qru71; case qyu71 => ((intro w hSw; (try dsimp only at hSw); go_simp); try (with_reducible rfl))
      ((try simp only [List.getElem_toArray]); (try simp only [List.getElem_cons_succ]); (try simp only [List.getElem_cons_zero]); (try simp only [Act.put]); (try simp only [List.setIfInBounds_toArray]); (try simp only [List.set_cons_succ]); (try simp only [List.set_cons_zero]))
      refine wpAnyH_ready (rs := [11]) (by kernel_rfl) (by simp) ?_
      refine AllReadyH.cons rfl (fun K hK => ?_) AllReadyH.nil
      go_simp
      refine (cbeh hd (by omega) x ux y hy z hyn ZX.out).mono ?_
      rintro e y1 ⟨rfl, S3, h3, k3⟩
      rw [et] at h3
      have i4 : y1.cell? ⟨g, j, none⟩ = some (.int .u64 b) := k3.1.cell (a := ⟨g, j, none⟩) (show w1.drew.cell? _ = _ from i3) ng
      have ng3 : ¬ S3 g := (fun x => by rcases k3.2 g x with y | y; exact ng y; exact absurd y (by show ¬ w1.heap.size ≤ g; omega))
      refine hK.out _ _ ⟨h3.ch.c0, i4⟩ (fun hHeld => ?_)
      clear hK K
      ((try simp only [List.getElem_toArray]); (try simp only [List.getElem_cons_succ]); (try simp only [List.getElem_cons_zero]); (try simp only [Act.put]); (try simp only [List.setIfInBounds_toArray]); (try simp only [List.set_cons_succ]); (try simp only [List.set_cons_zero]))
      refine wpAnyH_ready (rs := [12]) (by kernel_rfl) (by simp) ?_
      refine AllReadyH.cons rfl (fun K hK => ?_) AllReadyH.nil
      go_simp
      refine (cnext h3 (by omega) b z ub uz 0 s2 hs2).mono ?_
      rintro e y2 ⟨rfl, S4, h4, t5⟩
      have t4 := (t1.trans (Turn.quiet kd)).trans ((Turn.store k3).trans t5)
      refine hK.out _ _ ⟨h4.ch.c0, t5.k.cell (a := ⟨g, j, none⟩) i4 (fun x => by rcases x with x | x | x; exact ng3 x; exact gp x; exact gq x)⟩ (fun hHeld => ?_)
      clear hK K
      ((try simp only [List.getElem_toArray]); (try simp only [List.getElem_cons_succ]); (try simp only [List.getElem_cons_zero]); (try simp only [Act.put]); (try simp only [List.setIfInBounds_toArray]); (try simp only [List.set_cons_succ]); (try simp only [List.set_cons_zero]))
      refine wpAnyH_done (by kernel_rfl) ?_ _
      go_wp2
      go_roundg 0
      (case measure => omega)
      (case rel => exact .inr ⟨rfl, rfl, S4, h4.up (by omega), t4⟩)
    · have hk := clinks h2 (by omega) (by rw [C2.out]; omega) ln2 (by have := HL.out; omega) Z2.out
      rw [HL.out] at hk
      clear hh hy hyn hfa
      go_wp2_with fail
      refine hk.mono ?_
      rintro e w1 ⟨v, S3, rfl, o, _, h3, t3⟩
      have hi := index_loop o (by have := HL.out; omega) x _ (.inl ⟨hne, rfl⟩)
      clear hk o hne
      go_wp2_with fail
      refine hi.mono ?_
      rintro e w' ⟨rfl, rfl⟩
      clear hi
      go_wp2
      go_ret
      exact ⟨rfl, S3, h3.up (by omega), t2.trans t3⟩
end
end Go.Proofs.YtmfpjnlplimkeaaGreat
