/- Proved here: vinculumlaw14.WritesTwice returns true and leaves its arguments as they were, for any script and any 64-bit word; no further condition. -/
import Derived.Test.YthojmdjcfkadoaaWrP
import Derived.Test.YthojmdjcfkadoaaOps14
import Derived.Test.YthojmdjcfkadoaaMask
import Derived.Deep.LoopGhost
import Derived.Deep.CutRange
import Derived.Deep.CutBlock
import Derived.Deep.RegionHeld3
import Derived.StillTailTactics
namespace Go.Proofs.Ythojmdjcfkadoaa.writesTwice
open Go.ChangeShapes Go.WideShapes Go.ChangeAt Go.RowKit
set_option linter.unusedVariables false

def R1 (w : World) (a b k : Nat) (iv : Value) (wr : World) : Prop := ∃ (Sa Sb : Nat → Prop) (s : List WrI), iv = .int .i64 k ∧ W2 w wr a Sa s b Sb []
def R2 (w : World) (a b K : Nat) (s : List WrI) (pv iv : Value) (wr : World) : Prop := ∃ (k : Nat) (Sa Sb : Nat → Prop), k ≤ 64 ∧ iv = .int .i64 k ∧ W2P w wr a Sa s b Sb [] pv (prs 3 K k)
set_option maxRecDepth 100000 in
set_option maxHeartbeats 8000000 in
theorem walk (a0 : Option Addr) (n0 c0 : Nat) (f : Nat → OpI) (a1 : Int) (w : World) (w0 : IsOps w a0 n0 c0 f) (w1 : (Lit.int .u64 a1).wf = true) :
    Calls Try.prog 6 #[.slice a0 n0 c0, .int .u64 a1] w fun e w' => e = .returned (.bool true) ∧ Below w.heap.size w w' := by
  obtain ⟨K, rfl⟩ : ∃ n : Nat, a1 = (n : Int) := ⟨a1.toNat, by have := bounds_u64 w1; omega⟩
  have hK : K ≤ 18446744073709551615 := by have := bounds_u64 w1; omega
  obtain ⟨m0, x0, l0, ok0⟩ := id w0
  clear w0 w1
  go_enter Try.func6, Try.ntmps6
  go_wp2_with fail
  refine (wr_new (Below.refl _ _)).mono ?_
  rintro e y1 ⟨a, Sa, rfl, Ca, _, _⟩
  go_wp2_with fail
  refine (wr_new Ca.b).mono ?_
  rintro e y2 ⟨b, Sb, rfl, Cb, kb, gb⟩
  have D : W2 w y2 a Sa [] b Sb [] := ⟨Ca.quiet kb, Cb, fun g h1 h2 => by have := Ca.lt g h1; have := gb g h2; omega⟩
  clear Ca Cb kb gb
  go_upto_block 0 with fail
  go_cut [] from 19 to 56 (fun wx => ∃ k iv, R1 w a b k iv wx)
  case first =>
    go_wp2_with fail
    go_loopg [7] 40 (fun m iv wr => ∃ k : Nat, m + k = 40 ∧ R1 w a b k iv wr)
    case atStart => exact ⟨0, rfl, Sa, Sb, [], rfl, D⟩
    case round =>
      clear D
      obtain ⟨k, hgk, Sa, Sb, s, rfl, D⟩ := hrel
      have wk : IntKind.i64.wrap ((k : Int) + 1) = (k : Int) + 1 := IntWalk.i64_in _ (by omega)
      by_cases hlt : k < n0 ∧ k < 40
      · obtain ⟨h1, h2⟩ := hlt
        obtain ⟨bb, off, rfl, hb, hc⟩ := l0 (by omega)
        obtain ⟨q0, q1, q2⟩ := hc k h1
        have q0 := (D.below.cell (p := ⟨bb, off + k * 3, none⟩) hb).trans q0
        have q1 := (D.below.cell (p := ⟨bb, off + k * 3 + 1, none⟩) hb).trans q1
        have q2 := (D.below.cell (p := ⟨bb, off + k * 3 + 2, none⟩) hb).trans q2
        obtain ⟨kd, ekd⟩ : ∃ x, (f k).kind = x := ⟨_, rfl⟩
        obtain ⟨ky, eky⟩ : ∃ x, (f k).key = x := ⟨_, rfl⟩
        obtain ⟨vl, evl⟩ : ∃ x, (f k).val = x := ⟨_, rfl⟩
        rw [ekd] at q0
        rw [eky] at q1
        rw [evl] at q2
        obtain ⟨i, ei⟩ : ∃ n : Nat, ky % 64 = (n : Int) := ⟨(ky % 64).toNat, by omega⟩
        obtain ⟨j, ej⟩ : ∃ n : Nat, vl % 65536 = (n : Int) := ⟨(vl % 65536).toNat, by omega⟩
        have mi : bits .and .i64 ky 63 = (i : Int) := (i64_mask ky 6 (by decide)).trans ei
        have mj : bits .and .i64 vl 65535 = (j : Int) := (i64_mask vl 16 (by decide)).trans ej
        have hi : i < 64 := by omega
        have hj : j < 65536 := by omega
        clear ekd eky evl ei ej hc l0
        by_cases h0 : kd = 0
        · subst h0
          obtain ⟨s', hs⟩ : ∃ s', putI s (i : Int) (j : Int) = (0, s') := by unfold putI; rw [if_neg (by omega)]; exact ⟨_, rfl⟩
          have kd := (Keep.refl (fun _ => False) wr).drew
          have D := D.quiet kd
          go_wp2_with fail
          go_still_tail 13, (by kernel_rfl)
          change wpList _ _ _ _ _ wr.drew
          go_wp2_with fail
          refine (wr_put D.ra _ _ _ _ hs).mono ?_
          rintro e y3 ⟨rfl, S3, C3, k3⟩
          have D := D.stepA C3 k3
          go_wp2
          go_roundg (40 - (k + 1))
          case measure => omega
          case rel => exact ⟨k + 1, by omega, S3, Sb, s', by go_num, D⟩
        · have e0 : (kd == 0) = false := by simpa using h0
          obtain ⟨s', hs⟩ : ∃ s', dropI s (i : Int) = (0, s') := by unfold dropI; rw [if_neg (by omega)]; exact ⟨_, rfl⟩
          clear h0
          go_wp2_with fail
          refine (wr_drop D.ra _ _ _ hs).mono ?_
          rintro e y3 ⟨rfl, S3, C3, k3⟩
          have D := D.stepA C3 k3
          go_wp2
          go_roundg (40 - (k + 1))
          case measure => omega
          case rel => exact ⟨k + 1, by omega, S3, Sb, s', by go_num, D⟩
      · have hR : R1 w a b k (.int .i64 k) wr := ⟨Sa, Sb, s, rfl, D⟩
        clear D l0
        rcases (by omega : n0 ≤ k ∨ (k < n0 ∧ 40 ≤ k)) with h | ⟨h, h'⟩
        · have d1 : ¬ k < n0 := by omega
          go_wp2_with fail
          go_meet
          case rel => exact ⟨k, _, hR⟩
        · have d1 : ¬ (k : Int) < 40 := by omega
          go_wp2_with fail
          go_meet
          case rel => exact ⟨k, _, hR⟩
  case rest =>
  clear D
  obtain ⟨_, _, Sa, Sb, s, _, D⟩ := hcut
  have P := W2P.start D
  clear D
  go_wp2
  go_loopw [8, 9] (fun pv iv wr => R2 w a b K s pv iv wr) (fun _ iv _ => 64 - (intOf iv).toNat)
  case atStart => exact ⟨0, Sa, Sb, Nat.zero_le _, rfl, P⟩
  case round =>
    clear P
    obtain ⟨k, Sa, Sb, k64, rfl, P⟩ := hrel
    have wk : IntKind.i64.wrap ((k : Int) + 1) = (k : Int) + 1 := IntWalk.i64_in _ (by omega)
    have pl := prs_len 3 K k
    by_cases hlt : k < 64
    · cases hbt : K.testBit k with
      | true =>
        have ba := bit_true hK hbt
        have e1 : prs 3 K (k + 1) = prs 3 K k ++ [⟨k, 3 * k⟩] := by show (if _ then _ else _) = _; rw [if_pos hbt]
        have w3 : IntKind.i64.wrap (3 * (k : Int)) = 3 * (k : Int) := IntWalk.i64_in _ (by omega)
        clear hbt
        go_wp2_with (with_reducible refine wp_stop 72 rfl ?_)
        intro _
        refine wp_pushP rfl (.tmp 66) (.tmp 71) rfl w.heap.size P.r.below.size u8 (prs 3 K k) rfl P.o ⟨k, 3 * k⟩ rfl (by omega) ?_
        intro g c y3 o3 k3 hg
        have P := P.push o3 k3 hg
        rw [← e1] at P
        clear o3 k3 hg e1
        go_wp2
        first | exact ⟨⟨k + 1, Sa, Sb, by omega, by go_num, P⟩, by simp [intOf]; omega⟩ | (refine ⟨?rel2, ?meas2⟩; (case meas2 => (simp [intOf]; omega)); (case rel2 => ((repeat apply Exists.intro); exact ⟨⟨k + 1, Sa, Sb, by omega, by go_num, P⟩, rfl⟩)))
      | false =>
        have ba := bit_false hK hbt
        have e1 : prs 3 K (k + 1) = prs 3 K k := by show (if _ then _ else _) = _; rw [if_neg (by simp [hbt])]
        rw [← e1] at P
        clear hbt e1
        go_wp2
        first | exact ⟨⟨k + 1, Sa, Sb, by omega, by go_num, P⟩, by simp [intOf]; omega⟩ | (refine ⟨?rel2, ?meas2⟩; (case meas2 => (simp [intOf]; omega)); (case rel2 => ((repeat apply Exists.intro); exact ⟨⟨k + 1, Sa, Sb, by omega, by go_num, P⟩, rfl⟩)))
    · obtain rfl : k = 64 := by omega
      have hr := prs_rise 3 K 64
      obtain ⟨p, ep⟩ : ∃ p, prs 3 K 64 = p := ⟨_, rfl⟩
      rw [ep] at P hr pl
      clear ep wk k64 hlt
      have bs := P.r.below.size
      go_wp2_with fail
      refine (wr_over P.r.ra _ p P.o.lies (by omega) 0 63).mono ?_
      rintro e y3 ⟨u1, r1, S3, rfl, ou, du, ho, _, C3, k3⟩
      have i1 := ho hr
      have l1 := i1.len
      have ub : ∀ g, u1.ownBlock = some g → ¬ Sb g := fun g hg x => by have := P.r.rb.lt g x; have := (OwnP.lt ou hg).1; omega
      have P := P.stepA C3 k3
      clear ho C3 k3
      go_wp2_with fail
      refine (wr_over P.r.ra _ r1 ou.lies (by omega) 0 63).mono ?_
      rintro e y4 ⟨u2, r2, S4, rfl, ou2, du2, ho, _, C4, k4⟩
      have i2 := ho i1.rise
      obtain rfl : r2 = r1 := i2.eq i1 fun key => by rw [i1.tell]; exact over_over _ _ _ _ _
      have ou := (sepP ou du k4)
      have P := P.stepA C4 k4
      clear ho C4 k4 i2
      go_wp2_with fail
      refine (sameP_lies ou2.lies ou.1.lies (by omega)).mono ?_
      rintro e y5 ⟨rfl, d, rfl⟩
      have kd := drewN_keep (fun _ => False) y4 d
      have P := (P.quiet kd).swap
      have o1 := OwnP.keep ou.1 kd (by simp)
      clear ou ou2 du du2 kd
      go_wp2_with fail
      refine (wr_over P.r.ra _ p P.o.lies (by omega) 0 63).mono ?_
      rintro e y6 ⟨u3, r3, S6, rfl, ou3, du3, ho, _, C6, k6⟩
      obtain rfl : r3 = p := (ho hr).same hr fun key => over_nil _ _ _ _
      have o1 := (sepP o1 ub k6).1
      have P := P.stepA C6 k6
      clear ho C6 k6 ub
      go_wp2_with fail
      refine (sameP_lies ou3.lies P.o.lies (by omega)).mono ?_
      rintro e y7 ⟨rfl, d2, rfl⟩
      have kd := drewN_keep (fun _ => False) y6 d2
      have P := P.quiet kd
      have o1 := OwnP.keep o1 kd (by simp)
      clear ou3 du3 kd
      go_wp2_with fail
      refine (rising_yes o1.lies i1.rise (by omega)).mono ?_
      rintro e y8 ⟨rfl, d3, rfl⟩
      have P := P.quiet (drewN_keep (fun _ => False) _ d3)
      rw [World.drewN_drewN] at P
      clear o1
      go_wp2_with fail
      refine (awake14_any _).mono ?_
      rintro e y9 ⟨rfl, b9⟩
      go_wp2
      go_ret
      exact ⟨rfl, P.r.below.trans (b9.mono P.r.below.size)⟩
theorem own : ownKnob Try.prog.godebug = none := by kernel_rfl
theorem laidOut : laidOutB Try.prog = true := by kernel_rfl
set_option maxRecDepth 100000 in
theorem lifted (os : Os) (started : os.Started) (H : Type) (enc : TypeId × Value → H) :
    ReturnsInHanded {} Try.checked os 6 .any (Rows.writesTwiceSpec.pre6 enc Try.prog Try.f6 Rows.writesTwiceRow.domain false) (Rows.writesTwiceSpec.post enc Try.prog Try.f6 false true false false) := by
  refine returnsInHanded_of_change (C := Try.checked) own started (by kernel_rfl) Try.func6
    (ChangeSpec.witness6 (enc := enc) (C := Try.checked) false ⟨#[], #[.slice none 0 0, .int .u64 0], []⟩ 8 (by kernel_rfl) (by kernel_rfl) (by kernel_rfl) (by kernel_rfl)) ?_
  intro W base args ds gs before hval0 hW hcnd _
  have hval : ∀ (j : Nat) t v, Try.f6.params[j]? = some t → args[j]? = some v → Value.okWide Try.prog W .any base t v := hval0
  have hW' := hW
  obtain ⟨p, q, hA0, hV, rfl, hfz, hnd⟩ := hW
  have hA : DataW.TrodAll enc Try.prog W 0 (fun _ => true) true Try.f6.params.toList args.toList ds p := hA0
  rw [Try.params6] at hA hval
  obtain ⟨v0, vs0, d0, ds0, p0, q0, hargs, rfl, rfl, h0, r0⟩ := trodAll_cons hA
  obtain ⟨v1, vs1, d1, ds1, p1, q1, rfl, rfl, rfl, h1, r1⟩ := trodAll_cons r0
  obtain ⟨rfl, rfl, rfl⟩ := trodAll_nil r1
  obtain rfl : args = #[v0, v1] := by cases args; simp_all
  obtain ⟨rfl, rfl⟩ := trodVars_none hV
  obtain ⟨a0, len0, cap0, rfl⟩ := okWide_slice Try.underlying41 (hval 0 41 v0 rfl rfl)
  have k0 := h0
  have lt0 : ∀ x ∈ p0, x.block < W.heap.size := by obtain ⟨m, hm⟩ := k0; exact DataW.trod_lt m _ _ _ hm
  obtain ⟨z0, w0⟩ : ∃ f, IsOps W a0 len0 cap0 f := is_ops h0
  obtain ⟨a1, rfl, rfl, rfl, w1⟩ := open_int Try.underlying22 (hval 1 22 v1 rfl rfl) h1
  clear hA0 hval0
  refine (walk a0 len0 cap0 z0 a1 W w0 w1).mono fun e W' ⟨he, bel⟩ => ?_
  subst he
  exact ⟨_, rfl, _, _, _, [], _, [], hW', trodAll_mk1 (shut_bool Try.underlying4 _), (trodAll_cons_mk (Below.trod laidOut (by kernel_rfl) (of_decide_eq_true (by kernel_rfl)) k0 bel lt0) (trodAll_cons_mk (shut_int Try.underlying22 w1) trodAll_mk0)), rfl, bel.frame _, fun h => by cases h⟩
theorem over : Rows.writesTwiceRow.holds Try.pinned (OpenSpec.ofChange Rows.writesTwiceSpec) :=
  OpenClaim.holds_of_wide 6 Try.f6 rfl rfl rfl rfl rfl rfl rfl ⟨rfl, rfl, rfl, rfl, rfl⟩ rfl rfl rfl rfl rfl (by kernel_rfl) Try.func6 (by kernel_rfl)
    (of_decide_eq_true (by kernel_rfl)) (by unfold Func.isWrapper; first | (rw [if_pos (by decide +kernel)]; kernel_rfl) | (rw [if_neg (by decide +kernel)]; exact ⟨rfl, rfl⟩))
    (fun os started H enc _ => lifted os started H enc)
theorem proved : Rows.WritesTwiceSaid := over
end Go.Proofs.Ythojmdjcfkadoaa.writesTwice
