/- Proved here: vinculumlaw14.WritesSplit returns true and leaves its arguments as they were, for any script, any 64-bit word and any int; no further condition. -/
import Derived.Test.YthojmdjcfkadoaaWrP
import Derived.Test.YthojmdjcfkadoaaOps14
import Derived.Test.YthojmdjcfkadoaaMask
import Derived.Deep.LoopGhost
import Derived.Deep.CutRange
import Derived.Deep.CutBlock
import Derived.Deep.RegionHeld3
import Derived.StillTailTactics
namespace Go.Proofs.Ythojmdjcfkadoaa.writesSplit
open Go.ChangeShapes Go.WideShapes Go.ChangeAt Go.RowKit
set_option linter.unusedVariables false

def R1 (w : World) (a k : Nat) (iv : Value) (wr : World) : Prop := ∃ (Sa : Nat → Prop) (s : List WrI), iv = .int .i64 k ∧ Wr w wr a Sa s
def R2 (w : World) (a K : Nat) (s : List WrI) (pv iv : Value) (wr : World) : Prop := ∃ (k : Nat) (Sa : Nat → Prop), k ≤ 64 ∧ iv = .int .i64 k ∧ WP w wr a Sa s pv (prs 1 K k)
set_option maxRecDepth 100000 in
set_option maxHeartbeats 8000000 in
theorem walk (a0 : Option Addr) (n0 c0 : Nat) (f : Nat → OpI) (a1 a2 : Int) (w : World) (w0 : IsOps w a0 n0 c0 f) (w1 : (Lit.int .u64 a1).wf = true) (w2 : (Lit.int .i64 a2).wf = true) :
    Calls Try.prog 4 #[.slice a0 n0 c0, .int .u64 a1, .int .i64 a2] w fun e w' => e = .returned (.bool true) ∧ Below w.heap.size w w' := by
  obtain ⟨K, rfl⟩ : ∃ n : Nat, a1 = (n : Int) := ⟨a1.toNat, by have := bounds_u64 w1; omega⟩
  have hK : K ≤ 18446744073709551615 := by have := bounds_u64 w1; omega
  obtain ⟨t, et⟩ : ∃ n : Nat, a2 % 64 = (n : Int) := ⟨(a2 % 64).toNat, by omega⟩
  have mt : bits .and .i64 a2 63 = (t : Int) := (i64_mask a2 6 (by decide)).trans et
  have ht : t < 64 := by omega
  obtain ⟨m0, x0, l0, ok0⟩ := id w0
  clear w0 w1 w2 et
  go_enter Try.func4, Try.ntmps4
  go_wp2_with fail
  refine (wr_new (Below.refl _ _)).mono ?_
  rintro e y1 ⟨a, Sa, rfl, D, _, _⟩
  go_upto_block 0 with fail
  go_cut [] from 17 to 54 (fun wx => ∃ k iv, R1 w a k iv wx)
  case first =>
    go_wp2_with fail
    go_loopg [8] 40 (fun m iv wr => ∃ k : Nat, m + k = 40 ∧ R1 w a k iv wr)
    case atStart => exact ⟨0, rfl, Sa, [], rfl, D⟩
    case round =>
      clear D
      obtain ⟨k, hgk, Sa, s, rfl, D⟩ := hrel
      have wk : IntKind.i64.wrap ((k : Int) + 1) = (k : Int) + 1 := IntWalk.i64_in _ (by omega)
      by_cases hlt : k < n0 ∧ k < 40
      · obtain ⟨h1, h2⟩ := hlt
        obtain ⟨bb, off, rfl, hb, hc⟩ := l0 (by omega)
        obtain ⟨q0, q1, q2⟩ := hc k h1
        have q0 := (D.b.cell (p := ⟨bb, off + k * 3, none⟩) hb).trans q0
        have q1 := (D.b.cell (p := ⟨bb, off + k * 3 + 1, none⟩) hb).trans q1
        have q2 := (D.b.cell (p := ⟨bb, off + k * 3 + 2, none⟩) hb).trans q2
        obtain ⟨kd, ekd⟩ : ∃ x, (f k).kind = x := ⟨_, rfl⟩
        obtain ⟨ky, eky⟩ : ∃ x, (f k).key = x := ⟨_, rfl⟩
        obtain ⟨vl, evl⟩ : ∃ x, (f k).val = x := ⟨_, rfl⟩
        rw [ekd] at q0
        rw [eky] at q1
        rw [evl] at q2
        obtain ⟨i, ei⟩ : ∃ n : Nat, ky % 64 = (n : Int) := ⟨(ky % 64).toNat, by omega⟩
        obtain ⟨j, ej⟩ : ∃ n : Nat, vl % 65536 = (n : Int) := ⟨(vl % 65536).toNat, by omega⟩
        have mi : bits .and .i64 ky 63 = (i : Int) := (i64_mask ky 6 (by decide)).trans ei
        have mj : bits .and .i64 vl 65535 = (j : Int) := (i64_mask vl 16 (by decide)).trans ej
        have hi : i < 64 := by omega
        have hj : j < 65536 := by omega
        clear ekd eky evl ei ej hc l0
        by_cases h0 : kd = 0
        · subst h0
          obtain ⟨s', hs⟩ : ∃ s', putI s (i : Int) (j : Int) = (0, s') := by unfold putI; rw [if_neg (by omega)]; exact ⟨_, rfl⟩
          have kd := (Keep.refl (fun _ => False) wr).drew
          have D := D.quiet kd
          go_wp2_with fail
          go_still_tail 13, (by kernel_rfl)
          change wpList _ _ _ _ _ wr.drew
          go_wp2_with fail
          refine (wr_put D _ _ _ _ hs).mono ?_
          rintro e y3 ⟨rfl, S3, C3, k3⟩
          go_wp2
          go_roundg (40 - (k + 1))
          case measure => omega
          case rel => exact ⟨k + 1, by omega, S3, s', by go_num, C3⟩
        · have e0 : (kd == 0) = false := by simpa using h0
          obtain ⟨s', hs⟩ : ∃ s', dropI s (i : Int) = (0, s') := by unfold dropI; rw [if_neg (by omega)]; exact ⟨_, rfl⟩
          clear h0
          go_wp2_with fail
          refine (wr_drop D _ _ _ hs).mono ?_
          rintro e y3 ⟨rfl, S3, C3, k3⟩
          go_wp2
          go_roundg (40 - (k + 1))
          case measure => omega
          case rel => exact ⟨k + 1, by omega, S3, s', by go_num, C3⟩
      · have hR : R1 w a k (.int .i64 k) wr := ⟨Sa, s, rfl, D⟩
        clear D l0
        rcases (by omega : n0 ≤ k ∨ (k < n0 ∧ 40 ≤ k)) with h | ⟨h, h'⟩
        · have d1 : ¬ k < n0 := by omega
          go_wp2_with fail
          go_meet
          case rel => exact ⟨k, _, hR⟩
        · have d1 : ¬ (k : Int) < 40 := by omega
          go_wp2_with fail
          go_meet
          case rel => exact ⟨k, _, hR⟩
  case rest =>
  clear D
  obtain ⟨_, _, Sa, s, _, D⟩ := hcut
  have P := WP.start D
  clear D
  go_wp2
  go_loopw [9, 10] (fun pv iv wr => R2 w a K s pv iv wr) (fun _ iv _ => 64 - (intOf iv).toNat)
  case atStart => exact ⟨0, Sa, Nat.zero_le _, rfl, P⟩
  case round =>
    clear P
    obtain ⟨k, Sa, k64, rfl, P⟩ := hrel
    have wk : IntKind.i64.wrap ((k : Int) + 1) = (k : Int) + 1 := IntWalk.i64_in _ (by omega)
    have pl := prs_len 1 K k
    by_cases hlt : k < 64
    · cases hbt : K.testBit k with
      | true =>
        have ba := bit_true hK hbt
        have e1 : prs 1 K (k + 1) = prs 1 K k ++ [⟨k, k⟩] := by show (if _ then _ else _) = _; rw [if_pos hbt, Int.one_mul]
        clear hbt
        go_wp2_with (with_reducible refine wp_stop 69 rfl ?_)
        intro _
        refine wp_pushP rfl (.tmp 64) (.tmp 68) rfl w.heap.size P.r.b.size u9 (prs 1 K k) rfl P.o ⟨k, k⟩ rfl (by omega) ?_
        intro g c y3 o3 k3 hg
        have P := P.push o3 k3 hg
        rw [← e1] at P
        clear o3 k3 hg e1
        go_wp2
        first | exact ⟨⟨k + 1, Sa, by omega, by go_num, P⟩, by simp [intOf]; omega⟩ | (refine ⟨?rel2, ?meas2⟩; (case meas2 => (simp [intOf]; omega)); (case rel2 => ((repeat apply Exists.intro); exact ⟨⟨k + 1, Sa, by omega, by go_num, P⟩, rfl⟩)))
      | false =>
        have ba := bit_false hK hbt
        have e1 : prs 1 K (k + 1) = prs 1 K k := by show (if _ then _ else _) = _; rw [if_neg (by simp [hbt])]
        rw [← e1] at P
        clear hbt e1
        go_wp2
        first | exact ⟨⟨k + 1, Sa, by omega, by go_num, P⟩, by simp [intOf]; omega⟩ | (refine ⟨?rel2, ?meas2⟩; (case meas2 => (simp [intOf]; omega)); (case rel2 => ((repeat apply Exists.intro); exact ⟨⟨k + 1, Sa, by omega, by go_num, P⟩, rfl⟩)))
    · obtain rfl : k = 64 := by omega
      have hr := prs_rise 1 K 64
      obtain ⟨p, ep⟩ : ∃ p, prs 1 K 64 = p := ⟨_, rfl⟩
      rw [ep] at P hr pl
      have wt1 : IntKind.i64.wrap ((t : Int) + 1) = (t : Int) + 1 := IntWalk.i64_in _ (by omega)
      have wt2 : IntKind.i64.wrap ((t : Int) - 1) = (t : Int) - 1 := IntWalk.i64_in _ (by omega)
      clear ep wk k64 hlt
      go_wp2_with fail
      refine (wr_over P.r _ p P.o.lies (by omega) 0 (t : Int)).mono ?_
      rintro e y3 ⟨u1, r1, S1, rfl, o1, d1, ho, _, C1, k1⟩
      have i1 := ho hr
      have n1 := i1.len
      have P := P.step C1 k1
      clear ho C1 k1
      go_wp2_with fail
      refine (wr_over P.r _ r1 o1.lies (by omega) ((t : Int) + 1) 63).mono ?_
      rintro e y4 ⟨u2, r2, S2, rfl, o2, d2, ho, _, C2, k2⟩
      have i2 := ho i1.rise
      have n2 := i2.len
      have P := P.step C2 k2
      clear ho C2 k2 o1 d1
      go_wp2_with fail
      refine (wr_over P.r _ p P.o.lies (by omega) (t : Int) 63).mono ?_
      rintro e y5 ⟨u3, r3, S3, rfl, o3, d3, ho, _, C3, k3⟩
      have i3 := ho hr
      have n3 := i3.len
      have Q2 := sepP o2 d2 k3
      have P := P.step C3 k3
      clear ho C3 k3 o2 d2
      go_wp2_with fail
      refine (wr_over P.r _ r3 o3.lies (by omega) 0 ((t : Int) - 1)).mono ?_
      rintro e y6 ⟨u4, r4, S4, rfl, o4, d4, ho, _, C4, k4⟩
      have i4 := ho i3.rise
      have n4 := i4.len
      have Q2 := sepP Q2.1 Q2.2 k4
      have P := P.step C4 k4
      clear ho C4 k4 o3 d3
      go_wp2_with fail
      refine (wr_over P.r _ p P.o.lies (by omega) 0 63).mono ?_
      rintro e y7 ⟨u5, r5, S5, rfl, o5, d5, ho, _, C5, k5⟩
      have i5 := ho hr
      have Q2 := sepP Q2.1 Q2.2 k5
      have Q4 := sepP o4 d4 k5
      have P := P.step C5 k5
      clear ho C5 k5 o4 d4
      obtain rfl : r2 = r5 := i2.eq i5 fun key => by rw [i1.tell]; exact over_parts s (fun x => by omega) key _
      obtain rfl : r4 = r2 := i4.eq i5 fun key => by rw [i3.tell]; exact over_parts s (fun x => by omega) key _
      clear i1 i2 i3 i4
      go_wp2_with fail
      refine (sameP_lies Q2.1.lies o5.lies (by omega)).mono ?_
      rintro e z1 ⟨rfl, e1, rfl⟩
      have kd := drewN_keep (fun _ => False) y7 e1
      have P := P.quiet kd
      have q4 := OwnP.keep Q4.1 kd (by simp)
      have o5 := OwnP.keep o5 kd (by simp)
      clear Q2 Q4 kd
      go_wp2_with fail
      refine (sameP_lies q4.lies o5.lies (by omega)).mono ?_
      rintro e z2 ⟨rfl, e2, rfl⟩
      have P := P.quiet (drewN_keep (fun _ => False) _ e2)
      rw [World.drewN_drewN] at P
      clear q4 o5
      go_wp2_with fail
      refine (wr_over P.r _ p P.o.lies (by omega) 9 8).mono ?_
      rintro e z3 ⟨u6, r6, S6, rfl, o6, d6, ho, _, C6, k6⟩
      obtain rfl : r6 = p := (ho hr).same hr fun key => over_empty s (by omega) key _
      have P := P.step C6 k6
      clear ho C6 k6
      go_wp2_with fail
      refine (sameP_lies o6.lies P.o.lies (by omega)).mono ?_
      rintro e z4 ⟨rfl, e3, rfl⟩
      have P := P.quiet (drewN_keep (fun _ => False) _ e3)
      clear o6
      go_wp2_with fail
      refine (awake14_any _).mono ?_
      rintro e y9 ⟨rfl, b9⟩
      go_wp2
      go_ret
      exact ⟨rfl, P.r.b.trans (b9.mono P.r.b.size)⟩
theorem own : ownKnob Try.prog.godebug = none := by kernel_rfl
theorem laidOut : laidOutB Try.prog = true := by kernel_rfl
set_option maxRecDepth 100000 in
theorem lifted (os : Os) (started : os.Started) (H : Type) (enc : TypeId × Value → H) :
    ReturnsInHanded {} Try.checked os 4 .any (Rows.writesSplitSpec.pre6 enc Try.prog Try.f4 Rows.writesSplitRow.domain false) (Rows.writesSplitSpec.post enc Try.prog Try.f4 false true false false) := by
  refine returnsInHanded_of_change (C := Try.checked) own started (by kernel_rfl) Try.func4
    (ChangeSpec.witness6 (enc := enc) (C := Try.checked) false ⟨#[], #[.slice none 0 0, .int .u64 0, .int .i64 0], []⟩ 8 (by kernel_rfl) (by kernel_rfl) (by kernel_rfl) (by kernel_rfl)) ?_
  intro W base args ds gs before hval0 hW hcnd _
  have hval : ∀ (j : Nat) t v, Try.f4.params[j]? = some t → args[j]? = some v → Value.okWide Try.prog W .any base t v := hval0
  have hW' := hW
  obtain ⟨p, q, hA0, hV, rfl, hfz, hnd⟩ := hW
  have hA : DataW.TrodAll enc Try.prog W 0 (fun _ => true) true Try.f4.params.toList args.toList ds p := hA0
  rw [Try.params4] at hA hval
  obtain ⟨v0, vs0, d0, ds0, p0, q0, hargs, rfl, rfl, h0, r0⟩ := trodAll_cons hA
  obtain ⟨v1, vs1, d1, ds1, p1, q1, rfl, rfl, rfl, h1, r1⟩ := trodAll_cons r0
  obtain ⟨v2, vs2, d2, ds2, p2, q2, rfl, rfl, rfl, h2, r2⟩ := trodAll_cons r1
  obtain ⟨rfl, rfl, rfl⟩ := trodAll_nil r2
  obtain rfl : args = #[v0, v1, v2] := by cases args; simp_all
  obtain ⟨rfl, rfl⟩ := trodVars_none hV
  obtain ⟨a0, len0, cap0, rfl⟩ := okWide_slice Try.underlying41 (hval 0 41 v0 rfl rfl)
  have k0 := h0
  have lt0 : ∀ x ∈ p0, x.block < W.heap.size := by obtain ⟨m, hm⟩ := k0; exact DataW.trod_lt m _ _ _ hm
  obtain ⟨z0, w0⟩ : ∃ f, IsOps W a0 len0 cap0 f := is_ops h0
  obtain ⟨a1, rfl, rfl, rfl, w1⟩ := open_int Try.underlying22 (hval 1 22 v1 rfl rfl) h1
  obtain ⟨a2, rfl, rfl, rfl, w2⟩ := open_int Try.underlying3 (hval 2 3 v2 rfl rfl) h2
  clear hA0 hval0
  refine (walk a0 len0 cap0 z0 a1 a2 W w0 w1 w2).mono fun e W' ⟨he, bel⟩ => ?_
  subst he
  exact ⟨_, rfl, _, _, _, [], _, [], hW', trodAll_mk1 (shut_bool Try.underlying4 _), (trodAll_cons_mk (Below.trod laidOut (by kernel_rfl) (of_decide_eq_true (by kernel_rfl)) k0 bel lt0) (trodAll_cons_mk (shut_int Try.underlying22 w1) (trodAll_cons_mk (shut_int Try.underlying3 w2) trodAll_mk0))), rfl, bel.frame _, fun h => by cases h⟩
theorem over : Rows.writesSplitRow.holds Try.pinned (OpenSpec.ofChange Rows.writesSplitSpec) :=
  OpenClaim.holds_of_wide 4 Try.f4 rfl rfl rfl rfl rfl rfl rfl ⟨rfl, rfl, rfl, rfl, rfl⟩ rfl rfl rfl rfl rfl (by kernel_rfl) Try.func4 (by kernel_rfl)
    (of_decide_eq_true (by kernel_rfl)) (by unfold Func.isWrapper; first | (rw [if_pos (by decide +kernel)]; kernel_rfl) | (rw [if_neg (by decide +kernel)]; exact ⟨rfl, rfl⟩))
    (fun os started H enc _ => lifted os started H enc)
theorem proved : Rows.WritesSplitSaid := over
end Go.Proofs.Ythojmdjcfkadoaa.writesSplit
