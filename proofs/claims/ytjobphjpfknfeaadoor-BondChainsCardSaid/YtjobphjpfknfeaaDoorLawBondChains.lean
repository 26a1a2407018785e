/- Proved here: the tied card of vinculumlaw16.BondChains: it returns true and leaves its arguments as they were, for any two ints; the table of math/bits is the program's own. -/
import Derived.Test.YtjobphjpfknfeaaDoorBnT
import Derived.Test.YtjobphjpfknfeaaDoorBdV
import Derived.Deep.LoopGhost
import Derived.Deep.CutRange
namespace Go.Proofs.YtjobphjpfknfeaaDoor.bondChains
open Go.ChangeShapes Go.WideShapes Go.ChangeAt Go.RowKit
set_option linter.unusedVariables false
open Classical

section
variable {n a : Nat} {j : Nat}
theorem above : among (fun x => (a : Int) < x) n = (List.range (n - a)).map (fun j : Nat => (a : Int) + 1 + (j : Int)) :=
  rise_ext among_rises (by
    rw [List.pairwise_map]
    exact List.Pairwise.imp (fun h => by omega) List.pairwise_lt_range) fun x => by
    rw [mem_among, List.mem_map]
    constructor
    · rintro ⟨h1, h2, h3⟩
      exact ⟨(x - a - 1).toNat, List.mem_range.2 (by omega), by omega⟩
    · rintro ⟨j, hj, rfl⟩
      have := List.mem_range.1 hj
      omega
theorem above_len : (among (fun x => (a : Int) < x) n).length = n - a := by rw [above]; simp
theorem above_at (hj : j < n - a) : (among (fun x => (a : Int) < x) n).getD j 0 = (a : Int) + 1 + (j : Int) := by
  rw [above, List.getD_eq_getElem?_getD, List.getElem?_map, List.getElem?_range hj]
  rfl
theorem ch_end (h1 : 1 ≤ a) (h2 : 2 ≤ n) : (upTo n (chX a) (chE n)).bind 1 n = (7, upTo n (chX a) (chE n)) := by
  unfold BdS.bind
  rw [if_neg (by rw [upTo_has, upTo_has]; omega), if_neg (by omega), if_pos]
  rw [st_in (by omega) (by omega)]
  unfold chX
  by_cases h : (1 : Int) < a
  · rw [if_pos h]; exact .inl rfl
  · rw [if_neg h, if_pos (by omega)]; exact .inr rfl
theorem ch_doomed {x : Int} (h1 : 1 ≤ a) (h2 : a < x) (h3 : x ≤ n) : (upTo n (chX a) (chE n)).st x = 2 := by
  rw [st_in (by omega) h3]; unfold chX; rw [if_neg (by omega), if_neg (by omega)]
theorem ch_ill (h1 : 1 ≤ a) (h2 : a ≤ n) : (upTo n (chX a) (chE n)).st a = 4 := by
  rw [st_in (by omega) (by omega)]; unfold chX; rw [if_neg (by omega), if_pos rfl]
end
def Rel (W : World) (p N k : Nat) (iv : Value) (wr : World) : Prop := ∃ S, k ≤ N ∧ iv = .int .i64 ((k : Int) + 1) ∧ Bd W wr p S (upTo k (chF 0) (chE k))
def Rel2 (W : World) (p N a k : Nat) (iv : Value) (wr : World) : Prop := ∃ S, k + 1 ≤ a ∧ iv = .int .i64 ((k : Int) + 1) ∧ Bd W wr p S (upTo N (chF k) (chE N))
def Rel3 (W : World) (p N a B : Nat) (S : Nat → Prop) (u : Value) (j : Nat) (iv : Value) (wr : World) : Prop := j ≤ N - a ∧ iv = .int .i64 ((a : Int) + 1 + (j : Int)) ∧ Bd W wr p S (upTo N (chX a) (chE N)) ∧ OwnN B wr u (among (fun x => (a : Int) < x) N)
set_option maxRecDepth 100000 in
set_option maxHeartbeats 8000000 in
theorem walk (a0 a1 : Int) (w : World) (hw0 : (Lit.int .i64 a0).wf = true) (hw1 : (Lit.int .i64 a1).wf = true) (hTab : TabW w) : Calls Tryd.prog 7 #[.int .i64 a0, .int .i64 a1] w fun e w' => e = .returned (.bool true) ∧ Below w.heap.size w w' := by
  clear hw0 hw1
  obtain ⟨q0, m0, h0, e0, f0, l0, -, -, w0, -, w02⟩ := mask_mod a0 60 (by decide)
  have e0 : q0.tmod 60 = (m0 : Int) := e0
  have f0 : q0 % 60 = (m0 : Int) := f0
  obtain ⟨N, eN⟩ : ∃ N, m0 + 2 = N := ⟨_, rfl⟩
  rw [eN] at w02
  obtain ⟨q1, m1, h1, e1, f1, l1, -, -, w1, w11, -⟩ := mask_mod a1 N (by omega)
  obtain ⟨a, eA⟩ : ∃ a, m1 + 1 = a := ⟨_, rfl⟩
  rw [eA] at w11
  have n0 : ¬ (N : Int) = 0 := by omega
  have ra : 1 ≤ a ∧ a ≤ N := by omega
  have N61 : N ≤ 61 ∧ 2 ≤ N := by omega
  clear eA eN l0 l1
  go_enter Tryd.func7, Tryd.ntmps7
  go_wp2_with fail
  refine (bd_new hTab (Below.refl _ w)).mono ?_
  rintro e x1 ⟨p, S1, rfl, D, _, _⟩
  rw [new_up] at D
  go_wp2
  go_loopg [6] N (fun mm i wr => ∃ k : Nat, mm + k = N ∧ Rel w p N k i wr)
  case atStart => exact ⟨0, by omega, S1, by omega, rfl, D⟩
  case round =>
    obtain ⟨k, hgk, S, kN, rfl, B⟩ := hrel
    clear D
    by_cases hlt : k < N
    · have wk : IntKind.i64.wrap ((k : Int) + 1 + 1) = (k : Int) + 1 + 1 := IntWalk.i64_in _ (by omega)
      have wm : IntKind.i64.wrap (k : Int) = (k : Int) := IntWalk.i64_in _ (by omega)
      go_wp2_with fail
      refine (bd_open B (id := (k : Int) + 1) (by unfold I64; omega) (ch_open (by omega))).mono ?_
      clear B
      rintro e x2 ⟨rfl, S2, D, _⟩
      rcases Nat.eq_zero_or_pos k with rfl | hk
      · go_wp2_with fail
        go_roundg (N - 1)
        case measure => omega
        case rel => exact ⟨1, by omega, S2, by omega, rfl, D⟩
      · have hk1 : (1 : Int) < (k : Int) + 1 := by omega
        go_wp2_with fail
        refine (bd_bind D (id := (k : Int) + 1) (tt := k) (by unfold I64; omega) (by unfold I64; omega) (ch_bind hk)).mono ?_
        clear D
        rintro e x3 ⟨rfl, S3, D, _⟩
        go_wp2_with fail
        go_roundg (N - (k + 1))
        case measure => omega
        case rel => exact ⟨k + 1, by omega, S3, by omega, rfl, D⟩
    · obtain rfl : k = N := by omega
      clear kN hgk
      go_wp2
      go_loopg [7, 8, 9] a (fun mm i l e wr => ∃ j : Nat, mm + j = a ∧ Rel2 w p k a j i wr)
      case atStart => exact ⟨0, by omega, S, by omega, rfl, B⟩
      case round =>
        clear B
        obtain ⟨j, hgj, S, ja, rfl, B⟩ := hrel
        by_cases hlt : j + 1 < a
        · have wj : IntKind.i64.wrap ((j : Int) + 1 + 1) = (j : Int) + 1 + 1 := IntWalk.i64_in _ (by omega)
          go_wp2_with fail
          refine (bd_good B (id := (j : Int) + 1) (by unfold I64; omega) (ch_good (g := j) (n := k) (by omega) (by omega))).mono ?_
          clear B
          rintro e x4 ⟨u4, rfl, o4, S4, D4, _⟩
          have o4 : OwnN wr.heap.size x4 u4 [(j : Int) + 1 + 1] := by
            rw [show (j : Int) + 1 + 1 = (j : Int) + 2 from by omega]; exact o4
          have ka : Keep (fun _ => False) x4 (x4.alloc (.cells #[.int .i64 ((j : Int) + 1 + 1)] 3)) := (Keep.refl _ _).alloc _
          have oa := OwnN.keep o4 ka (fun _ _ q => q)
          have sm := sameN_own oa (litN x4 ((j : Int) + 1 + 1)) (by simp)
          have D5 := D4.later ka
          clear D4 o4 oa ka
          go_wp2_with fail
          refine sm.mono ?_
          rintro e x5 ⟨rfl, d, rfl⟩
          have D6 := D5.later (drewN_keep _ _ d)
          clear D5 sm
          go_wp2_with fail
          go_roundg (a - (j + 1))
          case measure => omega
          case rel => exact ⟨j + 1, by omega, S4, by omega, rfl, D6⟩
        · obtain rfl : a = j + 1 := by omega
          have D := B
          clear B
          have ill := ch_bad (a := (j + 1 : Nat)) (n := k) (by omega) (by omega)
          rw [show (((j + 1 : Nat) : Int) - 1) = (j : Int) from by omega] at ill
          have sl := D.lt
          go_wp2_with fail
          refine (bd_bad_in D (id := (j + 1 : Nat)) (by unfold I64; omega) ill).mono ?_
          clear D
          rintro e x4 ⟨u4, rfl, o4, D4, k4⟩
          obtain ⟨B0, eB⟩ : ∃ B0, wr.heap.size = B0 := ⟨_, rfl⟩
          rw [eB] at o4 sl
          obtain ⟨A, c, rfl, hA, hg⟩ := OwnN.out o4
          have hM := above_len (n := k) (a := j + 1)
          obtain ⟨M, eM⟩ : ∃ M, k - (j + 1) = M := ⟨_, rfl⟩
          rw [hM, eM] at o4
          rw [hM, eM]
          have wM : IntKind.i64.wrap ((k : Int) - ((j : Int) + 1)) = (M : Int) := by rw [IntWalk.i64_in _ (by omega)]; omega
          have w1 : IntKind.i64.wrap ((j : Int) + 1 + 1) = (j : Int) + 1 + 1 := IntWalk.i64_in _ (by omega)
          clear k4 eB
          go_wp2_with fail
          go_loopg [12, 13, 14] M (fun mm i l e wr => ∃ t : Nat, mm + t = M ∧ Rel3 w p k (j + 1) B0 S (.slice A M c) t i wr)
          case atStart => exact ⟨0, by omega, by omega, by go_num, D4, by rw [← eM] at o4 ⊢; exact o4⟩
          case round =>
            obtain ⟨t, hgt, tM, rfl, D, o⟩ := hrel
            clear D4 o4
            by_cases hlt : t < M
            · have hz : A ≠ none := fun q => by
                have := congrArg List.length (hA q)
                rw [above_len, List.length_nil] at this
                omega
              obtain ⟨ad, rfl⟩ := Option.ne_none_iff_exists'.1 hz
              obtain ⟨g, rfl⟩ := hg ad rfl
              clear hz
              obtain ⟨x, ex⟩ : ∃ x : Int, ((j + 1 : Nat) : Int) + 1 + (t : Int) = x := ⟨_, rfl⟩
              have ex2 : (j : Int) + 1 + 1 + (t : Int) = x := by omega
              have wx : IntKind.i64.wrap (x - ((j : Int) + 1)) = (t : Int) + 1 := by rw [IntWalk.i64_in _ (by omega)]; omega
              have wx1 : IntKind.i64.wrap (x + 1) = x + 1 := IntWalk.i64_in _ (by omega)
              have xk : x ≤ k := by omega
              rw [ex]
              have late := ch_late (n := k) (a := ((j + 1 : Nat) : Int)) (x := x) (by omega) (by omega) (by omega)
              go_wp2_with fail
              refine (bd_good_in D (id := x) (by unfold I64; omega) late).mono ?_
              rintro e x5 ⟨u5, rfl, _, D5, k5⟩
              have o5 := OwnN.keep o k5 (fun g hg hs => by have := sl g hs; have := OwnN.lt o hg; omega)
              have hc := OwnN.cell o5 t (by rw [above_len]; omega)
              rw [above_at (by omega), ex] at hc
              have sx := bd_state D5 (id := x) (by unfold I64; omega)
              rw [ch_doomed (a := j + 1) (by omega) (by omega) xk] at sx
              clear D o k5 late
              go_wp2_with fail
              refine sx.mono ?_
              rintro e x6 ⟨rfl, rfl⟩
              clear sx
              go_wp2_with fail
              go_roundg (M - (t + 1))
              case measure => omega
              case rel => exact ⟨t + 1, by omega, by omega, by go_num, D5, o5⟩
            · obtain rfl : t = M := by omega
              go_wp2_with fail
              refine (bd_bind D (id := 1) (tt := k) (by unfold I64; omega) (by unfold I64; omega) (ch_end (a := j + 1) (by omega) (by omega))).mono ?_
              clear D
              rintro e x5 ⟨rfl, S5, D, _⟩
              have sx := bd_state D (id := (j + 1 : Nat)) (by unfold I64; omega)
              rw [ch_ill (a := j + 1) (by omega) (by omega)] at sx
              go_wp2_with fail
              refine sx.mono ?_
              rintro e x6 ⟨rfl, rfl⟩
              clear sx
              have bl := D.below
              have aw := awake16_any (hTab.on bl)
              have BL := Lib.hid bl
              clear D bl
              go_wp2_with fail
              refine aw.mono ?_
              rintro e wz ⟨rfl, bz⟩
              have BZ := Lib.hid (BL.out.trans (bz.mono BL.out.size))
              clear aw bz
              go_wp2
              go_ret
              exact ⟨rfl, BZ.out⟩
theorem own : ownKnob Tryd.prog.godebug = none := by kernel_rfl
theorem laidOut : laidOutB Tryd.prog = true := by kernel_rfl
set_option maxRecDepth 100000 in
theorem lifted (os : Os) (started : os.Started) (H : Type) (enc : TypeId × Value → H) :
    ReturnsInHanded {} Tryd.checked os 7 .any (fun w args => (Rows.bondChainsSpec.pre enc Tryd.prog Tryd.f7 [] false w args ∧ laidMetH Tryd.prog lay1 w) ∧ sizedMet enc Tryd.prog Tryd.f7 (OpenSpec.ofChange Rows.bondChainsSpec) false w args) (Rows.bondChainsSpec.post enc Tryd.prog Tryd.f7 false true false false) := by
  refine returnsInHanded_of_change_and (C := Tryd.checked) (X := fun w _ => laidMetH Tryd.prog lay1 w) (fun _ _ _ hh h => h.of_heap hh) own started (by kernel_rfl) Tryd.func7
    (ChangeSpec.witness_shaped (enc := enc) (C := Tryd.checked) (os := os) (X := fun w _ => laidMetH Tryd.prog lay1 w) false (World.doorLaid Tryd.prog 14 os) #[.int .i64 0, .int .i64 0] 8 rfl (World.shaped_of_RefB (by kernel_rfl) (by kernel_rfl)) (by kernel_rfl) (by kernel_rfl) (by kernel_rfl) (door_met os _)) ?_
  intro W base args ds gs before hval0 hW _ _ hL _
  have hTab := of_laid hL
  have hval : ∀ (j : Nat) t v, Tryd.f7.params[j]? = some t → args[j]? = some v → Value.okWide Tryd.prog W .any base t v := hval0
  have hW' := hW
  obtain ⟨p, q, hA0, hV, rfl, hfz, hnd⟩ := hW
  have hA : DataW.TrodAll enc Tryd.prog W 0 (fun _ => true) true Tryd.f7.params.toList args.toList ds p := hA0
  rw [Tryd.params7] at hA hval
  obtain ⟨v0, vs0, d0, ds0, p0, q0, hargs, rfl, rfl, h0, r0⟩ := trodAll_cons hA
  obtain ⟨v1, vs1, d1, ds1, p1, q1, rfl, rfl, rfl, h1, r1⟩ := trodAll_cons r0
  obtain ⟨rfl, rfl, rfl⟩ := trodAll_nil r1
  obtain rfl : args = #[v0, v1] := by cases args; simp_all
  obtain ⟨rfl, rfl⟩ := trodVars_none hV
  obtain ⟨a0, rfl, rfl, rfl, w0⟩ := open_int Tryd.underlying3 (hval 0 3 v0 rfl rfl) h0
  obtain ⟨a1, rfl, rfl, rfl, w1⟩ := open_int Tryd.underlying3 (hval 1 3 v1 rfl rfl) h1
  clear hA0 hval0
  refine (walk a0 a1 W w0 w1 hTab).mono fun e W' ⟨he, bel⟩ => ?_
  subst he
  exact ⟨_, rfl, _, _, _, [], _, [], hW', trodAll_mk1 (shut_bool Tryd.underlying4 _), (trodAll_cons_mk (shut_int Tryd.underlying3 w0) (trodAll_cons_mk (shut_int Tryd.underlying3 w1) trodAll_mk0)), rfl, bel.frame _, fun h => by cases h⟩
theorem over : Rows.bondChainsRow.holds Tryd.pinned (OpenSpec.ofChange Rows.bondChainsSpec) :=
  OpenClaim.holds_of_wide 7 Tryd.f7 rfl rfl rfl rfl rfl rfl rfl ⟨rfl, rfl, rfl, rfl, rfl⟩ rfl rfl rfl rfl rfl (by kernel_rfl) Tryd.func7 (by kernel_rfl)
    (of_decide_eq_true (by kernel_rfl)) (by unfold Func.isWrapper; first | (rw [if_pos (by decide +kernel)]; kernel_rfl) | (rw [if_neg (by decide +kernel)]; exact ⟨rfl, rfl⟩))
    (fun os started H enc _ => lifted os started H enc)
theorem proved : Rows.BondChainsCardSaid :=
  Claim7.holds_tied_plain_at .later [] [.data] true _ false over (fun _ h => by cases h) (by kernel_rfl) (fun _ h => by cases h) bondChains_row_tie rfl ⟨rfl, rfl⟩ (by kernel_rfl) rfl
    (fun f fn hf hfn => by
      obtain rfl : f = 7 := Option.some.inj ((show Tryd.prog.funcNamed "vinculum/vinculumlaw16.BondChains" = some 7 by kernel_rfl).symm.trans hf) |>.symm
      obtain rfl : fn = Tryd.f7 := (Option.some.inj (Tryd.func7.symm.trans hfn)).symm
      exact ⟨by kernel_rfl, fun j t ht => by
        rw [Tryd.params7] at ht
        have hm := Array.mem_of_getElem? ht
        have hall : (Tryd.f7.params.toList.all fun u => !Tryd.prog.wantsStandIn u) = true := by kernel_rfl
        rw [Tryd.params7] at hall
        exact (show Tryd.prog.wantsStandIn t = false by simpa using List.all_eq_true.1 hall t (by simpa using hm))⟩)
    (by kernel_rfl)
end Go.Proofs.YtjobphjpfknfeaaDoor.bondChains
