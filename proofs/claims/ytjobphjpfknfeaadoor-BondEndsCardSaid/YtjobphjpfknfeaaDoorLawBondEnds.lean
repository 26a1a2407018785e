/- Proved here: the tied card of vinculumlaw16.BondEnds: it returns true and leaves its arguments as they were, for any bool and any int; the table of math/bits is the program's own. -/
import Derived.Test.YtjobphjpfknfeaaDoorBnT
import Derived.Test.YtjobphjpfknfeaaDoorBdE
import Derived.Deep.CutRange
namespace Go.Proofs.YtjobphjpfknfeaaDoor.bondEnds
open Go.ChangeShapes Go.WideShapes Go.ChangeAt Go.RowKit
set_option linter.unusedVariables false
open Classical

set_option maxRecDepth 100000 in
set_option maxHeartbeats 4000000 in
theorem walk (well : Bool) (id : Int) (w : World) (h1 : (Lit.int .i64 id).wf = true) (hTab : TabW w) : Calls Tryd.prog 5 #[.bool well, .int .i64 id] w fun e w' => e = .returned (.bool true) ∧ Below w.heap.size w w' := by
  have hid : -9223372036854775808 ≤ id ∧ id ≤ 9223372036854775807 := by
    simp only [Lit.wf, Bool.and_eq_true, decide_eq_true_eq] at h1
    exact h1
  go_enter Tryd.func5, Tryd.ntmps5
  go_wp2_with fail
  refine (bd_new hTab (Below.refl _ w)).mono ?_
  rintro e w1 ⟨p, S1, rfl, D, _, _⟩
  go_wp2_with fail; refine (bd_open D (id := 1) (by unfold I64; omega) two_open1).mono ?_; clear D; rintro e w2 ⟨rfl, S2, D, _⟩
  go_wp2_with fail; refine (bd_open D (id := 2) (by unfold I64; omega) two_open2).mono ?_; clear D; rintro e w3 ⟨rfl, S3, D, _⟩
  go_wp2_with fail; refine (bd_open D (id := 2) (by unfold I64; omega) two_open3).mono ?_; clear D; rintro e w4 ⟨rfl, S4, D, _⟩
  go_wp2_with fail; refine (bd_open D (id := 0) (by unfold I64; omega) two_open0).mono ?_; clear D; rintro e w5 ⟨rfl, S5, D, _⟩
  cases well
  · go_wp2_with fail; refine (bd_bad D (id := 1) (by unfold I64; omega) two_bad).mono ?_; clear D; rintro e w6 ⟨u6, rfl, _, S6, D, _⟩
    go_wp2_with fail; refine (bd_good D (id := 1) (by unfold I64; omega) (two_late (.inr rfl)).1).mono ?_; clear D; rintro e w7 ⟨u7, rfl, _, S7, D, _⟩; go_wp2_with fail; refine (bd_bad D (id := 1) (by unfold I64; omega) (two_late (.inr rfl)).2.1).mono ?_; clear D; rintro e w8 ⟨u8, rfl, _, S8, D, _⟩; go_wp2_with fail; refine (bd_bind D (id := 1) (tt := 2) (by unfold I64; omega) (by unfold I64; omega) (two_late (.inr rfl)).2.2).mono ?_; clear D; rintro e w9 ⟨rfl, S9, D, _⟩; go_wp2_with fail; refine (bd_bind D (id := 2) (tt := 2) (by unfold I64; omega) (by unfold I64; omega) two_self).mono ?_; clear D; rintro e w10 ⟨rfl, S10, D, _⟩; go_wp2_with fail; refine (bd_bind D (id := 2) (tt := 1) (by unfold I64; omega) (by unfold I64; omega) two_ill).mono ?_; clear D; rintro e w11 ⟨rfl, S11, D, _⟩; have sx := bd_state D (id := 2) (by unfold I64; omega); rw [two_st2] at sx; go_wp2_with fail; refine sx.mono ?_; rintro e w12 ⟨rfl, rfl⟩; clear sx; have sx := bd_waits D (id := 2) (by unfold I64; omega); rw [two_waits] at sx; go_wp2_with fail; refine sx.mono ?_; rintro e w13 ⟨rfl, k13⟩; clear sx; have D := D.later k13; clear k13
    rcases (by omega : id = 1 ∨ id = 2 ∨ (id ≠ 1 ∧ id ≠ 2)) with rfl | rfl | ⟨e1, e2⟩
    · go_wp2_with fail; refine (bd_good D (id := 3) (by unfold I64; omega) (two_none (by decide) (by decide)).1).mono ?_; clear D; rintro e w14 ⟨u14, rfl, _, S14, D, _⟩; go_wp2_with fail; refine (bd_bad D (id := 3) (by unfold I64; omega) (two_none (by decide) (by decide)).2.1).mono ?_; clear D; rintro e w15 ⟨u15, rfl, _, S15, D, _⟩; go_wp2_with fail; refine (bd_bind D (id := 3) (tt := 1) (by unfold I64; omega) (by unfold I64; omega) (two_none (by decide) (by decide)).2.2.1).mono ?_; clear D; rintro e w16 ⟨rfl, S16, D, _⟩; go_wp2_with fail; refine (bd_bind D (id := 2) (tt := 3) (by unfold I64; omega) (by unfold I64; omega) (two_none (by decide) (by decide)).2.2.2).mono ?_; clear D; rintro e w17 ⟨rfl, S17, D, _⟩; have sx := bd_state D (id := 3) (by unfold I64; omega); rw [two_no (by decide) (by decide)] at sx; go_wp2_with fail; refine sx.mono ?_; rintro e w18 ⟨rfl, rfl⟩; clear sx; have sx := bd_waits D (id := 3) (by unfold I64; omega); rw [two_waits] at sx; go_wp2_with fail; refine sx.mono ?_; rintro e w19 ⟨rfl, k19⟩; clear sx; have D := D.later k19; clear k19; have bl := D.below; have aw := awake16_any (hTab.on bl); have BL := Lib.hid bl; clear D bl; go_wp2_with fail; refine aw.mono ?_; rintro e wz ⟨rfl, bz⟩; have BZ := Lib.hid (BL.out.trans (bz.mono BL.out.size)); clear aw bz; go_wp2; go_ret; exact ⟨rfl, BZ.out⟩
    · go_wp2_with fail; refine (bd_good D (id := 3) (by unfold I64; omega) (two_none (by decide) (by decide)).1).mono ?_; clear D; rintro e w14 ⟨u14, rfl, _, S14, D, _⟩; go_wp2_with fail; refine (bd_bad D (id := 3) (by unfold I64; omega) (two_none (by decide) (by decide)).2.1).mono ?_; clear D; rintro e w15 ⟨u15, rfl, _, S15, D, _⟩; go_wp2_with fail; refine (bd_bind D (id := 3) (tt := 1) (by unfold I64; omega) (by unfold I64; omega) (two_none (by decide) (by decide)).2.2.1).mono ?_; clear D; rintro e w16 ⟨rfl, S16, D, _⟩; go_wp2_with fail; refine (bd_bind D (id := 2) (tt := 3) (by unfold I64; omega) (by unfold I64; omega) (two_none (by decide) (by decide)).2.2.2).mono ?_; clear D; rintro e w17 ⟨rfl, S17, D, _⟩; have sx := bd_state D (id := 3) (by unfold I64; omega); rw [two_no (by decide) (by decide)] at sx; go_wp2_with fail; refine sx.mono ?_; rintro e w18 ⟨rfl, rfl⟩; clear sx; have sx := bd_waits D (id := 3) (by unfold I64; omega); rw [two_waits] at sx; go_wp2_with fail; refine sx.mono ?_; rintro e w19 ⟨rfl, k19⟩; clear sx; have D := D.later k19; clear k19; have bl := D.below; have aw := awake16_any (hTab.on bl); have BL := Lib.hid bl; clear D bl; go_wp2_with fail; refine aw.mono ?_; rintro e wz ⟨rfl, bz⟩; have BZ := Lib.hid (BL.out.trans (bz.mono BL.out.size)); clear aw bz; go_wp2; go_ret; exact ⟨rfl, BZ.out⟩
    · have q1 : (id == 1) = false := (by simpa using e1)
      have q2 : (id == 2) = false := (by simpa using e2)
      go_wp2_with fail; refine (bd_good D (id := id) (by unfold I64; omega) (two_none e1 e2).1).mono ?_; clear D; rintro e w14 ⟨u14, rfl, _, S14, D, _⟩; go_wp2_with fail; refine (bd_bad D (id := id) (by unfold I64; omega) (two_none e1 e2).2.1).mono ?_; clear D; rintro e w15 ⟨u15, rfl, _, S15, D, _⟩; go_wp2_with fail; refine (bd_bind D (id := id) (tt := 1) (by unfold I64; omega) (by unfold I64; omega) (two_none e1 e2).2.2.1).mono ?_; clear D; rintro e w16 ⟨rfl, S16, D, _⟩; go_wp2_with fail; refine (bd_bind D (id := 2) (tt := id) (by unfold I64; omega) (by unfold I64; omega) (two_none e1 e2).2.2.2).mono ?_; clear D; rintro e w17 ⟨rfl, S17, D, _⟩; have sx := bd_state D (id := id) (by unfold I64; omega); rw [two_no e1 e2] at sx; go_wp2_with fail; refine sx.mono ?_; rintro e w18 ⟨rfl, rfl⟩; clear sx; have sx := bd_waits D (id := id) (by unfold I64; omega); rw [two_waits] at sx; go_wp2_with fail; refine sx.mono ?_; rintro e w19 ⟨rfl, k19⟩; clear sx; have D := D.later k19; clear k19; have bl := D.below; have aw := awake16_any (hTab.on bl); have BL := Lib.hid bl; clear D bl; go_wp2_with fail; refine aw.mono ?_; rintro e wz ⟨rfl, bz⟩; have BZ := Lib.hid (BL.out.trans (bz.mono BL.out.size)); clear aw bz; go_wp2; go_ret; exact ⟨rfl, BZ.out⟩
  · go_wp2_with fail; refine (bd_good D (id := 1) (by unfold I64; omega) two_good).mono ?_; clear D; rintro e w6 ⟨u6, rfl, _, S6, D, _⟩
    go_wp2_with fail; refine (bd_good D (id := 1) (by unfold I64; omega) (two_late (.inl rfl)).1).mono ?_; clear D; rintro e w7 ⟨u7, rfl, _, S7, D, _⟩; go_wp2_with fail; refine (bd_bad D (id := 1) (by unfold I64; omega) (two_late (.inl rfl)).2.1).mono ?_; clear D; rintro e w8 ⟨u8, rfl, _, S8, D, _⟩; go_wp2_with fail; refine (bd_bind D (id := 1) (tt := 2) (by unfold I64; omega) (by unfold I64; omega) (two_late (.inl rfl)).2.2).mono ?_; clear D; rintro e w9 ⟨rfl, S9, D, _⟩; go_wp2_with fail; refine (bd_bind D (id := 2) (tt := 2) (by unfold I64; omega) (by unfold I64; omega) two_self).mono ?_; clear D; rintro e w10 ⟨rfl, S10, D, _⟩; go_wp2_with fail; refine (bd_bind D (id := 2) (tt := 1) (by unfold I64; omega) (by unfold I64; omega) two_well).mono ?_; clear D; rintro e w11 ⟨rfl, S11, D, _⟩; have sx := bd_state D (id := 2) (by unfold I64; omega); rw [two_st2] at sx; go_wp2_with fail; refine sx.mono ?_; rintro e w12 ⟨rfl, rfl⟩; clear sx; have sx := bd_waits D (id := 2) (by unfold I64; omega); rw [two_waits] at sx; go_wp2_with fail; refine sx.mono ?_; rintro e w13 ⟨rfl, k13⟩; clear sx; have D := D.later k13; clear k13
    rcases (by omega : id = 1 ∨ id = 2 ∨ (id ≠ 1 ∧ id ≠ 2)) with rfl | rfl | ⟨e1, e2⟩
    · go_wp2_with fail; refine (bd_good D (id := 3) (by unfold I64; omega) (two_none (by decide) (by decide)).1).mono ?_; clear D; rintro e w14 ⟨u14, rfl, _, S14, D, _⟩; go_wp2_with fail; refine (bd_bad D (id := 3) (by unfold I64; omega) (two_none (by decide) (by decide)).2.1).mono ?_; clear D; rintro e w15 ⟨u15, rfl, _, S15, D, _⟩; go_wp2_with fail; refine (bd_bind D (id := 3) (tt := 1) (by unfold I64; omega) (by unfold I64; omega) (two_none (by decide) (by decide)).2.2.1).mono ?_; clear D; rintro e w16 ⟨rfl, S16, D, _⟩; go_wp2_with fail; refine (bd_bind D (id := 2) (tt := 3) (by unfold I64; omega) (by unfold I64; omega) (two_none (by decide) (by decide)).2.2.2).mono ?_; clear D; rintro e w17 ⟨rfl, S17, D, _⟩; have sx := bd_state D (id := 3) (by unfold I64; omega); rw [two_no (by decide) (by decide)] at sx; go_wp2_with fail; refine sx.mono ?_; rintro e w18 ⟨rfl, rfl⟩; clear sx; have sx := bd_waits D (id := 3) (by unfold I64; omega); rw [two_waits] at sx; go_wp2_with fail; refine sx.mono ?_; rintro e w19 ⟨rfl, k19⟩; clear sx; have D := D.later k19; clear k19; have bl := D.below; have aw := awake16_any (hTab.on bl); have BL := Lib.hid bl; clear D bl; go_wp2_with fail; refine aw.mono ?_; rintro e wz ⟨rfl, bz⟩; have BZ := Lib.hid (BL.out.trans (bz.mono BL.out.size)); clear aw bz; go_wp2; go_ret; exact ⟨rfl, BZ.out⟩
    · go_wp2_with fail; refine (bd_good D (id := 3) (by unfold I64; omega) (two_none (by decide) (by decide)).1).mono ?_; clear D; rintro e w14 ⟨u14, rfl, _, S14, D, _⟩; go_wp2_with fail; refine (bd_bad D (id := 3) (by unfold I64; omega) (two_none (by decide) (by decide)).2.1).mono ?_; clear D; rintro e w15 ⟨u15, rfl, _, S15, D, _⟩; go_wp2_with fail; refine (bd_bind D (id := 3) (tt := 1) (by unfold I64; omega) (by unfold I64; omega) (two_none (by decide) (by decide)).2.2.1).mono ?_; clear D; rintro e w16 ⟨rfl, S16, D, _⟩; go_wp2_with fail; refine (bd_bind D (id := 2) (tt := 3) (by unfold I64; omega) (by unfold I64; omega) (two_none (by decide) (by decide)).2.2.2).mono ?_; clear D; rintro e w17 ⟨rfl, S17, D, _⟩; have sx := bd_state D (id := 3) (by unfold I64; omega); rw [two_no (by decide) (by decide)] at sx; go_wp2_with fail; refine sx.mono ?_; rintro e w18 ⟨rfl, rfl⟩; clear sx; have sx := bd_waits D (id := 3) (by unfold I64; omega); rw [two_waits] at sx; go_wp2_with fail; refine sx.mono ?_; rintro e w19 ⟨rfl, k19⟩; clear sx; have D := D.later k19; clear k19; have bl := D.below; have aw := awake16_any (hTab.on bl); have BL := Lib.hid bl; clear D bl; go_wp2_with fail; refine aw.mono ?_; rintro e wz ⟨rfl, bz⟩; have BZ := Lib.hid (BL.out.trans (bz.mono BL.out.size)); clear aw bz; go_wp2; go_ret; exact ⟨rfl, BZ.out⟩
    · have q1 : (id == 1) = false := (by simpa using e1)
      have q2 : (id == 2) = false := (by simpa using e2)
      go_wp2_with fail; refine (bd_good D (id := id) (by unfold I64; omega) (two_none e1 e2).1).mono ?_; clear D; rintro e w14 ⟨u14, rfl, _, S14, D, _⟩; go_wp2_with fail; refine (bd_bad D (id := id) (by unfold I64; omega) (two_none e1 e2).2.1).mono ?_; clear D; rintro e w15 ⟨u15, rfl, _, S15, D, _⟩; go_wp2_with fail; refine (bd_bind D (id := id) (tt := 1) (by unfold I64; omega) (by unfold I64; omega) (two_none e1 e2).2.2.1).mono ?_; clear D; rintro e w16 ⟨rfl, S16, D, _⟩; go_wp2_with fail; refine (bd_bind D (id := 2) (tt := id) (by unfold I64; omega) (by unfold I64; omega) (two_none e1 e2).2.2.2).mono ?_; clear D; rintro e w17 ⟨rfl, S17, D, _⟩; have sx := bd_state D (id := id) (by unfold I64; omega); rw [two_no e1 e2] at sx; go_wp2_with fail; refine sx.mono ?_; rintro e w18 ⟨rfl, rfl⟩; clear sx; have sx := bd_waits D (id := id) (by unfold I64; omega); rw [two_waits] at sx; go_wp2_with fail; refine sx.mono ?_; rintro e w19 ⟨rfl, k19⟩; clear sx; have D := D.later k19; clear k19; have bl := D.below; have aw := awake16_any (hTab.on bl); have BL := Lib.hid bl; clear D bl; go_wp2_with fail; refine aw.mono ?_; rintro e wz ⟨rfl, bz⟩; have BZ := Lib.hid (BL.out.trans (bz.mono BL.out.size)); clear aw bz; go_wp2; go_ret; exact ⟨rfl, BZ.out⟩
theorem own : ownKnob Tryd.prog.godebug = none := by kernel_rfl
theorem laidOut : laidOutB Tryd.prog = true := by kernel_rfl
set_option maxRecDepth 100000 in
theorem lifted (os : Os) (started : os.Started) (H : Type) (enc : TypeId × Value → H) :
    ReturnsInHanded {} Tryd.checked os 5 .any (fun w args => (Rows.bondEndsSpec.pre enc Tryd.prog Tryd.f5 [] false w args ∧ laidMetH Tryd.prog lay1 w) ∧ sizedMet enc Tryd.prog Tryd.f5 (OpenSpec.ofChange Rows.bondEndsSpec) false w args) (Rows.bondEndsSpec.post enc Tryd.prog Tryd.f5 false true false false) := by
  refine returnsInHanded_of_change_and (C := Tryd.checked) (X := fun w _ => laidMetH Tryd.prog lay1 w) (fun _ _ _ hh h => h.of_heap hh) own started (by kernel_rfl) Tryd.func5
    (ChangeSpec.witness_shaped (enc := enc) (C := Tryd.checked) (os := os) (X := fun w _ => laidMetH Tryd.prog lay1 w) false (World.doorLaid Tryd.prog 14 os) #[.bool false, .int .i64 0] 8 rfl (World.shaped_of_RefB (by kernel_rfl) (by kernel_rfl)) (by kernel_rfl) (by kernel_rfl) (by kernel_rfl) (door_met os _)) ?_
  intro W base args ds gs before hval0 hW _ _ hL _
  have hTab := of_laid hL
  have hval : ∀ (j : Nat) t v, Tryd.f5.params[j]? = some t → args[j]? = some v → Value.okWide Tryd.prog W .any base t v := hval0
  have hW' := hW
  obtain ⟨p, q, hA0, hV, rfl, hfz, hnd⟩ := hW
  have hA : DataW.TrodAll enc Tryd.prog W 0 (fun _ => true) true Tryd.f5.params.toList args.toList ds p := hA0
  rw [Tryd.params5] at hA hval
  obtain ⟨v0, vs0, d0, ds0, p0, q0, hargs, rfl, rfl, h0, r0⟩ := trodAll_cons hA
  obtain ⟨v1, vs1, d1, ds1, p1, q1, rfl, rfl, rfl, h1, r1⟩ := trodAll_cons r0
  obtain ⟨rfl, rfl, rfl⟩ := trodAll_nil r1
  obtain rfl : args = #[v0, v1] := by cases args; simp_all
  obtain ⟨rfl, rfl⟩ := trodVars_none hV
  obtain ⟨a0, rfl, rfl, rfl⟩ := open_bool Tryd.underlying4 (hval 0 4 v0 rfl rfl) h0
  obtain ⟨a1, rfl, rfl, rfl, w1⟩ := open_int Tryd.underlying3 (hval 1 3 v1 rfl rfl) h1
  clear hA0 hval0
  refine (walk a0 a1 W w1 hTab).mono fun e W' ⟨he, bel⟩ => ?_
  subst he
  exact ⟨_, rfl, _, _, _, [], _, [], hW', trodAll_mk1 (shut_bool Tryd.underlying4 _), (trodAll_cons_mk (shut_bool Tryd.underlying4 _) (trodAll_cons_mk (shut_int Tryd.underlying3 w1) trodAll_mk0)), rfl, bel.frame _, fun h => by cases h⟩
theorem over : Rows.bondEndsRow.holds Tryd.pinned (OpenSpec.ofChange Rows.bondEndsSpec) :=
  OpenClaim.holds_of_wide 5 Tryd.f5 rfl rfl rfl rfl rfl rfl rfl ⟨rfl, rfl, rfl, rfl, rfl⟩ rfl rfl rfl rfl rfl (by kernel_rfl) Tryd.func5 (by kernel_rfl)
    (of_decide_eq_true (by kernel_rfl)) (by unfold Func.isWrapper; first | (rw [if_pos (by decide +kernel)]; kernel_rfl) | (rw [if_neg (by decide +kernel)]; exact ⟨rfl, rfl⟩))
    (fun os started H enc _ => lifted os started H enc)
theorem proved : Rows.BondEndsCardSaid :=
  Claim7.holds_tied_plain_at .later [] [.data] true _ false over (fun _ h => by cases h) (by kernel_rfl) (fun _ h => by cases h) bondEnds_row_tie rfl ⟨rfl, rfl⟩ (by kernel_rfl) rfl
    (fun f fn hf hfn => by
      obtain rfl : f = 5 := Option.some.inj ((show Tryd.prog.funcNamed "vinculum/vinculumlaw16.BondEnds" = some 5 by kernel_rfl).symm.trans hf) |>.symm
      obtain rfl : fn = Tryd.f5 := (Option.some.inj (Tryd.func5.symm.trans hfn)).symm
      exact ⟨by kernel_rfl, fun j t ht => by
        rw [Tryd.params5] at ht
        have hm := Array.mem_of_getElem? ht
        have hall : (Tryd.f5.params.toList.all fun u => !Tryd.prog.wantsStandIn u) = true := by kernel_rfl
        rw [Tryd.params5] at hall
        exact (show Tryd.prog.wantsStandIn t = false by simpa using List.all_eq_true.1 hall t (by simpa using hm))⟩)
    (by kernel_rfl)
end Go.Proofs.YtjobphjpfknfeaaDoor.bondEnds
