/- Proved here: the tied card of vinculumlaw16.BondLoops: it returns true and leaves its arguments as they were, for any three ints; the table of math/bits is the program's own. -/
import Derived.Test.YtjobphjpfknfeaaDoorBnT
import Derived.Test.YtjobphjpfknfeaaDoorBdV
import Derived.Deep.LoopGhost
import Derived.Deep.CutRange
namespace Go.Proofs.YtjobphjpfknfeaaDoor.bondLoops
open Go.ChangeShapes Go.WideShapes Go.ChangeAt Go.RowKit
set_option linter.unusedVariables false
open Classical

def Rel (W : World) (p N k : Nat) (iv : Value) (wr : World) : Prop := ∃ S, k ≤ N ∧ iv = .int .i64 ((k : Int) + 1) ∧ Bd W wr p S (upTo k (chF 0) (chE k))
set_option maxRecDepth 100000 in
set_option maxHeartbeats 8000000 in
theorem walk (a0 a1 a2 : Int) (w : World) (hw0 : (Lit.int .i64 a0).wf = true) (hw1 : (Lit.int .i64 a1).wf = true) (hw2 : (Lit.int .i64 a2).wf = true) (hTab : TabW w) : Calls Tryd.prog 8 #[.int .i64 a0, .int .i64 a1, .int .i64 a2] w fun e w' => e = .returned (.bool true) ∧ Below w.heap.size w w' := by
  clear hw0 hw1 hw2
  obtain ⟨q0, m0, h0, e0, f0, l0, -, -, w0, -, w02⟩ := mask_mod a0 40 (by decide)
  have e0 : q0.tmod 40 = (m0 : Int) := e0
  have f0 : q0 % 40 = (m0 : Int) := f0
  obtain ⟨N, eN⟩ : ∃ N, m0 + 2 = N := ⟨_, rfl⟩
  rw [eN] at w02
  obtain ⟨q1, m1, h1, e1, f1, l1, -, -, w1, w11, -⟩ := mask_mod a1 N (by omega)
  obtain ⟨q2, m2, h2, e2, f2, l2, -, -, w2, w21, -⟩ := mask_mod a2 N (by omega)
  obtain ⟨A, eA⟩ : ∃ A : Int, ((m1 + 1 : Nat) : Int) = A := ⟨_, rfl⟩
  obtain ⟨C, eC⟩ : ∃ C : Int, ((m2 + 1 : Nat) : Int) = C := ⟨_, rfl⟩
  rw [eA] at w11
  rw [eC] at w21
  have n0 : ¬ (N : Int) = 0 := by omega
  have rA : 1 ≤ A ∧ A ≤ N := by omega
  have rC : 1 ≤ C ∧ C ≤ N := by omega
  have N41 : N ≤ 41 := by omega
  have wC : IntKind.i64.wrap (C + 1) = C + 1 := IntWalk.i64_in _ (by omega)
  clear eA eC eN l0 l1 l2
  go_enter Tryd.func8, Tryd.ntmps8
  go_wp2_with fail
  go_quiet (fail)
  have b0 : Below w.heap.size w (w.drewN nq) := (drewN_keep (fun _ => False) _ nq).below (Nat.le_refl _) (fun _ q => q.elim)
  go_wp2_with fail
  refine (bd_new hTab b0).mono ?_
  rintro e x1 ⟨p, S1, rfl, D, _, _⟩
  rw [new_up] at D
  go_wp2
  go_loopg [8] N (fun mm i wr => ∃ k : Nat, mm + k = N ∧ Rel w p N k i wr)
  case atStart => exact ⟨0, by omega, S1, by omega, rfl, D⟩
  case round =>
    obtain ⟨k, hgk, S, kN, rfl, B⟩ := hrel
    clear D
    by_cases hlt : k < N
    · have wk : IntKind.i64.wrap ((k : Int) + 1 + 1) = (k : Int) + 1 + 1 := IntWalk.i64_in _ (by omega)
      have wm : IntKind.i64.wrap (k : Int) = (k : Int) := IntWalk.i64_in _ (by omega)
      go_wp2_with fail
      refine (bd_open B (id := (k : Int) + 1) (by unfold I64; omega) (ch_open (by omega))).mono ?_
      clear B
      rintro e x2 ⟨rfl, S2, D, _⟩
      rcases Nat.eq_zero_or_pos k with rfl | hk
      · go_wp2_with fail
        go_roundg (N - 1)
        case measure => omega
        case rel => exact ⟨1, by omega, S2, by omega, rfl, D⟩
      · have hk1 : (1 : Int) < (k : Int) + 1 := by omega
        go_wp2_with fail
        refine (bd_bind D (id := (k : Int) + 1) (tt := k) (by unfold I64; omega) (by unfold I64; omega) (ch_bind hk)).mono ?_
        clear D
        rintro e x3 ⟨rfl, S3, D, _⟩
        go_wp2_with fail
        go_roundg (N - (k + 1))
        case measure => omega
        case rel => exact ⟨k + 1, by omega, S3, by omega, rfl, D⟩
    · obtain rfl : k = N := by omega
      have D := B
      clear B
      rcases (by omega : (A = C ∧ A = 1) ∨ (A = C ∧ 2 ≤ A) ∨ (A < C ∧ A = 1) ∨ (A < C ∧ 2 ≤ A) ∨ A = C + 1 ∨ C + 1 < A) with ⟨rfl, rfl⟩ | ⟨rfl, g⟩ | ⟨g, rfl⟩ | ⟨g, g'⟩ | rfl | g
      · go_wp2_with fail; refine (bd_bind D (id := 1) (tt := 1) (by unfold I64; omega) (by unfold I64; omega) (ch_self (by omega) (by omega))).mono ?_; clear D; rintro e w5 ⟨rfl, S5, D, _⟩; have sx := bd_waits D (id := 1) (by unfold I64; omega); rw [ch_waits1] at sx; go_wp2_with fail; refine sx.mono ?_; rintro e w6 ⟨rfl, k6⟩; clear sx; have D := D.later k6; clear k6; have bl := D.below; have aw := awake16_any (hTab.on bl); have BL := Lib.hid bl; clear D bl; go_wp2_with fail; refine aw.mono ?_; rintro e wz ⟨rfl, bz⟩; have BZ := Lib.hid (BL.out.trans (bz.mono BL.out.size)); clear aw bz; go_wp2; go_ret; exact ⟨rfl, BZ.out⟩
      · have g1 : (A == 1) = false := by simp; omega
        go_wp2_with fail; refine (bd_bind D (id := A) (tt := A) (by unfold I64; omega) (by unfold I64; omega) (ch_self (by omega) (by omega))).mono ?_; clear D; rintro e w5 ⟨rfl, S5, D, _⟩; have sx := bd_waits D (id := A) (by unfold I64; omega); rw [ch_waits (by omega) (by omega) (by omega)] at sx; go_wp2_with fail; refine sx.mono ?_; rintro e w6 ⟨rfl, k6⟩; clear sx; have D := D.later k6; clear k6; have bl := D.below; have aw := awake16_any (hTab.on bl); have BL := Lib.hid bl; clear D bl; go_wp2_with fail; refine aw.mono ?_; rintro e wz ⟨rfl, bz⟩; have BZ := Lib.hid (BL.out.trans (bz.mono BL.out.size)); clear aw bz; go_wp2; go_ret; exact ⟨rfl, BZ.out⟩
      · go_wp2_with fail; refine (bd_bind D (id := 1) (tt := C) (by unfold I64; omega) (by unfold I64; omega) (ch_loop (by omega) (by omega) (by omega))).mono ?_; clear D; rintro e w5 ⟨rfl, S5, D, _⟩; have sx := bd_waits D (id := 1) (by unfold I64; omega); rw [ch_waits1] at sx; go_wp2_with fail; refine sx.mono ?_; rintro e w6 ⟨rfl, k6⟩; clear sx; have D := D.later k6; clear k6; have bl := D.below; have aw := awake16_any (hTab.on bl); have BL := Lib.hid bl; clear D bl; go_wp2_with fail; refine aw.mono ?_; rintro e wz ⟨rfl, bz⟩; have BZ := Lib.hid (BL.out.trans (bz.mono BL.out.size)); clear aw bz; go_wp2; go_ret; exact ⟨rfl, BZ.out⟩
      · have g1 : (A == 1) = false := by simp; omega
        go_wp2_with fail; refine (bd_bind D (id := A) (tt := C) (by unfold I64; omega) (by unfold I64; omega) (ch_loop (by omega) (by omega) (by omega))).mono ?_; clear D; rintro e w5 ⟨rfl, S5, D, _⟩; have sx := bd_waits D (id := A) (by unfold I64; omega); rw [ch_waits (by omega) (by omega) (by omega)] at sx; go_wp2_with fail; refine sx.mono ?_; rintro e w6 ⟨rfl, k6⟩; clear sx; have D := D.later k6; clear k6; have bl := D.below; have aw := awake16_any (hTab.on bl); have BL := Lib.hid bl; clear D bl; go_wp2_with fail; refine aw.mono ?_; rintro e wz ⟨rfl, bz⟩; have BZ := Lib.hid (BL.out.trans (bz.mono BL.out.size)); clear aw bz; go_wp2; go_ret; exact ⟨rfl, BZ.out⟩
      · have hb := ch_near (n := k) (a := C + 1) (by omega) (by omega)
        rw [Int.add_sub_cancel] at hb
        have g1 : (C + 1 == 1) = false := by simp; omega
        go_wp2_with fail; refine (bd_bind D (id := (C + 1)) (tt := C) (by unfold I64; omega) (by unfold I64; omega) hb).mono ?_; clear D; rintro e w5 ⟨rfl, S5, D, _⟩; have sx := bd_waits D (id := (C + 1)) (by unfold I64; omega); rw [ch_waits (by omega) (by omega) (by omega)] at sx; go_wp2_with fail; refine sx.mono ?_; rintro e w6 ⟨rfl, k6⟩; clear sx; have D := D.later k6; clear k6; have bl := D.below; have aw := awake16_any (hTab.on bl); have BL := Lib.hid bl; clear D bl; go_wp2_with fail; refine aw.mono ?_; rintro e wz ⟨rfl, bz⟩; have BZ := Lib.hid (BL.out.trans (bz.mono BL.out.size)); clear aw bz; go_wp2; go_ret; exact ⟨rfl, BZ.out⟩
      · have g1 : (A == 1) = false := by simp; omega
        go_wp2_with fail; refine (bd_bind D (id := A) (tt := C) (by unfold I64; omega) (by unfold I64; omega) (ch_far (by omega) (by omega) (by omega))).mono ?_; clear D; rintro e w5 ⟨rfl, S5, D, _⟩; have sx := bd_waits D (id := A) (by unfold I64; omega); rw [ch_two (by omega) (by omega) (by omega)] at sx; go_wp2_with fail; refine sx.mono ?_; rintro e w6 ⟨rfl, k6⟩; clear sx; have D := D.later k6; clear k6; have bl := D.below; have aw := awake16_any (hTab.on bl); have BL := Lib.hid bl; clear D bl; go_wp2_with fail; refine aw.mono ?_; rintro e wz ⟨rfl, bz⟩; have BZ := Lib.hid (BL.out.trans (bz.mono BL.out.size)); clear aw bz; go_wp2; go_ret; exact ⟨rfl, BZ.out⟩
theorem own : ownKnob Tryd.prog.godebug = none := by kernel_rfl
theorem laidOut : laidOutB Tryd.prog = true := by kernel_rfl
set_option maxRecDepth 100000 in
theorem lifted (os : Os) (started : os.Started) (H : Type) (enc : TypeId × Value → H) :
    ReturnsInHanded {} Tryd.checked os 8 .any (fun w args => (Rows.bondLoopsSpec.pre enc Tryd.prog Tryd.f8 [] false w args ∧ laidMetH Tryd.prog lay1 w) ∧ sizedMet enc Tryd.prog Tryd.f8 (OpenSpec.ofChange Rows.bondLoopsSpec) false w args) (Rows.bondLoopsSpec.post enc Tryd.prog Tryd.f8 false true false false) := by
  refine returnsInHanded_of_change_and (C := Tryd.checked) (X := fun w _ => laidMetH Tryd.prog lay1 w) (fun _ _ _ hh h => h.of_heap hh) own started (by kernel_rfl) Tryd.func8
    (ChangeSpec.witness_shaped (enc := enc) (C := Tryd.checked) (os := os) (X := fun w _ => laidMetH Tryd.prog lay1 w) false (World.doorLaid Tryd.prog 14 os) #[.int .i64 0, .int .i64 0, .int .i64 0] 8 rfl (World.shaped_of_RefB (by kernel_rfl) (by kernel_rfl)) (by kernel_rfl) (by kernel_rfl) (by kernel_rfl) (door_met os _)) ?_
  intro W base args ds gs before hval0 hW _ _ hL _
  have hTab := of_laid hL
  have hval : ∀ (j : Nat) t v, Tryd.f8.params[j]? = some t → args[j]? = some v → Value.okWide Tryd.prog W .any base t v := hval0
  have hW' := hW
  obtain ⟨p, q, hA0, hV, rfl, hfz, hnd⟩ := hW
  have hA : DataW.TrodAll enc Tryd.prog W 0 (fun _ => true) true Tryd.f8.params.toList args.toList ds p := hA0
  rw [Tryd.params8] at hA hval
  obtain ⟨v0, vs0, d0, ds0, p0, q0, hargs, rfl, rfl, h0, r0⟩ := trodAll_cons hA
  obtain ⟨v1, vs1, d1, ds1, p1, q1, rfl, rfl, rfl, h1, r1⟩ := trodAll_cons r0
  obtain ⟨v2, vs2, d2, ds2, p2, q2, rfl, rfl, rfl, h2, r2⟩ := trodAll_cons r1
  obtain ⟨rfl, rfl, rfl⟩ := trodAll_nil r2
  obtain rfl : args = #[v0, v1, v2] := by cases args; simp_all
  obtain ⟨rfl, rfl⟩ := trodVars_none hV
  obtain ⟨a0, rfl, rfl, rfl, w0⟩ := open_int Tryd.underlying3 (hval 0 3 v0 rfl rfl) h0
  obtain ⟨a1, rfl, rfl, rfl, w1⟩ := open_int Tryd.underlying3 (hval 1 3 v1 rfl rfl) h1
  obtain ⟨a2, rfl, rfl, rfl, w2⟩ := open_int Tryd.underlying3 (hval 2 3 v2 rfl rfl) h2
  clear hA0 hval0
  refine (walk a0 a1 a2 W w0 w1 w2 hTab).mono fun e W' ⟨he, bel⟩ => ?_
  subst he
  exact ⟨_, rfl, _, _, _, [], _, [], hW', trodAll_mk1 (shut_bool Tryd.underlying4 _), (trodAll_cons_mk (shut_int Tryd.underlying3 w0) (trodAll_cons_mk (shut_int Tryd.underlying3 w1) (trodAll_cons_mk (shut_int Tryd.underlying3 w2) trodAll_mk0))), rfl, bel.frame _, fun h => by cases h⟩
theorem over : Rows.bondLoopsRow.holds Tryd.pinned (OpenSpec.ofChange Rows.bondLoopsSpec) :=
  OpenClaim.holds_of_wide 8 Tryd.f8 rfl rfl rfl rfl rfl rfl rfl ⟨rfl, rfl, rfl, rfl, rfl⟩ rfl rfl rfl rfl rfl (by kernel_rfl) Tryd.func8 (by kernel_rfl)
    (of_decide_eq_true (by kernel_rfl)) (by unfold Func.isWrapper; first | (rw [if_pos (by decide +kernel)]; kernel_rfl) | (rw [if_neg (by decide +kernel)]; exact ⟨rfl, rfl⟩))
    (fun os started H enc _ => lifted os started H enc)
theorem proved : Rows.BondLoopsCardSaid :=
  Claim7.holds_tied_plain_at .later [] [.data] true _ false over (fun _ h => by cases h) (by kernel_rfl) (fun _ h => by cases h) bondLoops_row_tie rfl ⟨rfl, rfl⟩ (by kernel_rfl) rfl
    (fun f fn hf hfn => by
      obtain rfl : f = 8 := Option.some.inj ((show Tryd.prog.funcNamed "vinculum/vinculumlaw16.BondLoops" = some 8 by kernel_rfl).symm.trans hf) |>.symm
      obtain rfl : fn = Tryd.f8 := (Option.some.inj (Tryd.func8.symm.trans hfn)).symm
      exact ⟨by kernel_rfl, fun j t ht => by
        rw [Tryd.params8] at ht
        have hm := Array.mem_of_getElem? ht
        have hall : (Tryd.f8.params.toList.all fun u => !Tryd.prog.wantsStandIn u) = true := by kernel_rfl
        rw [Tryd.params8] at hall
        exact (show Tryd.prog.wantsStandIn t = false by simpa using List.all_eq_true.1 hall t (by simpa using hm))⟩)
    (by kernel_rfl)
end Go.Proofs.YtjobphjpfknfeaaDoor.bondLoops
