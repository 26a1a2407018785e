/- Proved here: vinculumlaw4.ClockTwo returns true and leaves its argument as it was, for every slice of bools; no further condition. -/
import Derived.Test.YtecocdhjhmifhaaBools
import Derived.Test.YtecocdhjhmifhaaClock
import Derived.BigRegion
namespace Go.Proofs.Ytecocdhjhmifhaa.clockTwo
open Go.ChangeShapes Go.WideShapes Go.ChangeAt Go.RowKit
set_option linter.unusedVariables false

def Rel (n p q r s B : Nat) (w : World) (k l : Nat) (la i : Value) (wr : World) : Prop :=
  k ≤ n ∧ k ≤ 40 ∧ l ≤ k ∧ i = .int .i64 k ∧ la = .int .u64 l ∧ Wd wr p q 1 0 l (2 * k) ∧ Ck wr r p 0 1000 ∧ Ck wr s p 0 20 ∧ Below B w wr
set_option maxRecDepth 100000 in
set_option maxHeartbeats 4000000 in
theorem walk (a0 : Option Addr) (len0 cap0 : Nat) (f : Nat → Bool) (w : World) (w0 : IsBools w a0 len0 cap0 f) :
    Calls Try.prog 5 #[.slice a0 len0 cap0] w fun e w' => e = .returned (.bool true) ∧ Below w.heap.size w w' := by
  obtain ⟨l2, l3, lc⟩ := id w0
  go_enter Try.func5, Try.ntmps5
  go_wp2_with fail
  refine (new_ok 1 _ (by omega) (by omega)).mono ?_
  rintro e x1 ⟨p, q, rfl, h1, hp, hq, b1⟩
  have h1 := wd_new 0 h1
  have l1 := h1.lt
  go_wp2_with fail
  refine (cknew_ok 0 1000 h1 (by omega) (by omega) (by omega)).mono ?_
  rintro e x2 ⟨r, rfl, c2, hr, b2⟩
  have h2 := h1.keep (Keep.of_below b2 (fun _ => False)) (by simp) (by simp)
  have nr : ¬ Two p q r := by unfold Two; omega
  have b2 := b1.trans (b2.mono b1.size)
  have s2 := h2.lt
  clear h1 b1
  go_wp2_with fail
  refine (cknew_ok 0 20 h2 (by omega) (by omega) (by omega)).mono ?_
  rintro e x3 ⟨s, rfl, d3, hs, b3⟩
  have h3 := h2.keep (Keep.of_below b3 (fun _ => False)) (by simp) (by simp)
  have c3 := c2.keep (Keep.of_below b3 (fun _ => False)) (by simp)
  have ns : ¬ Two p q s := by unfold Two; omega
  have b3 := b2.trans (b3.mono b2.size)
  clear h2 c2 b2 l1 hr s2 hs
  go_wp2
  go_loopw [9, 10] (fun la i wr => ∃ k l : Nat, Rel len0 p q r s w.heap.size w k l la i wr) (fun _ i _ => len0 - (intOf i).toNat)
  case atStart => exact ⟨0, 0, Nat.zero_le _, by omega, Nat.le_refl _, rfl, rfl, h3, c3, d3, b3⟩
  case round =>
    obtain ⟨k, l, kl, k4, lk, rfl, rfl, hw, hc, hd, br⟩ := hrel
    clear h3 c3 d3 b3
    by_cases hlt : k < len0 ∧ k < 40
    · obtain ⟨hl, h40⟩ := hlt
      obtain ⟨b, off, rfl, hb, hce⟩ := lc (by omega)
      have hce := (br.cell (p := ⟨b, off + k, none⟩) hb).trans (hce k hl)
      clear lc
      have wt : IntKind.u64.wrap ((l : Int) + 1) = ((l + 1 : Nat) : Int) := by rw [IntKind.wrap_u64]; omega
      obtain ⟨t, et⟩ : ∃ t : Nat, l + 1 = t := ⟨_, rfl⟩
      rw [et] at wt
      have te : (l : Int) + 1 = (t : Int) := by omega
      have TE := Lib.hid te
      have T2 := Lib.hid et
      clear te et
      cases hx : f k with
      | true =>
        rw [hx] at hce
        go_wp2_with fail
        refine (ckdraw_ok hw hc nr (by omega) (by omega) (by omega) (by omega) t _ TE.out rfl).mono ?_
        rintro e y1 ⟨rfl, h4, k4⟩
        have c4 := hc.keep k4 nr
        have d4 := hd.keep k4 ns
        have b4 := br.trans (k4.below br.size (two_ge hp hq))
        go_wp2
        go_roundw
        case rel => exact ⟨k + 1, t, by omega, by omega, by have := T2.out; omega, by go_num, rfl, by rw [show (2 * ((k + 1 : Nat) : Int)) = 2 * k + 2 by omega]; exact h4, c4, d4, b4⟩
        case measure => simp [intOf]; omega
      | false =>
        rw [hx] at hce
        by_cases h20 : l < 20
        · go_wp2_with fail
          refine (ckdraw_ok hw hd ns (by omega) (by omega) (by omega) (by omega) t _ TE.out rfl).mono ?_
          rintro e y1 ⟨rfl, h4, k4⟩
          have c4 := hc.keep k4 nr
          have d4 := hd.keep k4 ns
          have b4 := br.trans (k4.below br.size (two_ge hp hq))
          go_wp2
          go_roundw
          case rel => exact ⟨k + 1, t, by omega, by omega, by have := T2.out; omega, by go_num, rfl, by rw [show (2 * ((k + 1 : Nat) : Int)) = 2 * k + 2 by omega]; exact h4, c4, d4, b4⟩
          case measure => simp [intOf]; omega
        · go_wp2_with fail
          refine (ckdraw_over hw hd ns (by omega) (by omega) (by omega) _ rfl).mono ?_
          rintro e y1 ⟨rfl, h4, k4⟩
          have c4 := hc.keep k4 nr
          have d4 := hd.keep k4 ns
          have b4 := br.trans (k4.below br.size (two_ge hp hq))
          have h5 : Wd y1 p q 1 0 l (2 * ((k + 1 : Nat) : Int)) := by obtain ⟨zs, c, g1, g2, g3, g4, g5⟩ := h4; exact ⟨zs, c, g1, g2, g3, g4, by omega⟩
          go_wp2
          go_roundw
          case rel => exact ⟨k + 1, l, by omega, by omega, by omega, by go_num, rfl, h5, c4, d4, b4⟩
          case measure => simp [intOf]; omega
    · clear lc
      rcases (by omega : (k = 40 ∧ 40 < len0) ∨ k = len0) with ⟨hk, hl⟩ | hk
      all_goals
        subst hk
        go_wp2_with fail
        refine (cknow hw hc (by omega) (by omega) _ rfl).mono ?_
        rintro e y1 ⟨rfl, h4, k4⟩
        have d4 := hd.keep k4 ns
        have b4 := br.trans (k4.below br.size (two_ge hp hq))
        go_wp2_with fail
        refine (cknow h4 d4 (by omega) (by omega) _ rfl).mono ?_
        rintro e y2 ⟨rfl, h5, k5⟩
        have b5 := b4.trans (k5.below b4.size (two_ge hp hq))
        go_wp2_with fail
        refine (awake4_any _).mono ?_
        rintro e y7 ⟨rfl, b7⟩
        go_wp2
        go_ret
        exact ⟨rfl, b5.trans (b7.mono b5.size)⟩
theorem own : ownKnob Try.prog.godebug = none := by kernel_rfl
theorem laidOut : laidOutB Try.prog = true := by kernel_rfl
set_option maxRecDepth 100000 in
theorem lifted (os : Os) (started : os.Started) (H : Type) (enc : TypeId × Value → H) :
    ReturnsInHanded {} Try.checked os 5 .any (Rows.clockTwoSpec.pre6 enc Try.prog Try.f5 Rows.clockTwoRow.domain false) (Rows.clockTwoSpec.post enc Try.prog Try.f5 false true false false) := by
  refine returnsInHanded_of_change (C := Try.checked) own started (by kernel_rfl) Try.func5
    (ChangeSpec.witness6 (enc := enc) (C := Try.checked) false ⟨#[], #[.slice none 0 0], []⟩ 8 (by kernel_rfl) (by kernel_rfl) (by kernel_rfl) (by kernel_rfl)) ?_
  intro W base args ds gs before hval0 hW hcnd _
  have hval : ∀ (j : Nat) t v, Try.f5.params[j]? = some t → args[j]? = some v → Value.okWide Try.prog W .any base t v := hval0
  have hW' := hW
  obtain ⟨p, q, hA0, hV, rfl, hfz, hnd⟩ := hW
  have hA : DataW.TrodAll enc Try.prog W 0 (fun _ => true) true Try.f5.params.toList args.toList ds p := hA0
  rw [Try.params5] at hA hval
  obtain ⟨v0, vs0, d0, ds0, p0, q0, hargs, rfl, rfl, h0, r0⟩ := trodAll_cons hA
  obtain ⟨rfl, rfl, rfl⟩ := trodAll_nil r0
  obtain rfl : args = #[v0] := by cases args; simp_all
  obtain ⟨rfl, rfl⟩ := trodVars_none hV
  obtain ⟨a0, len0, cap0, rfl⟩ := okWide_slice Try.underlying38 (hval 0 38 v0 rfl rfl)
  have k0 := h0
  have lt0 : ∀ x ∈ p0, x.block < W.heap.size := by obtain ⟨m, hm⟩ := k0; exact DataW.trod_lt m _ _ _ hm
  obtain ⟨z0, w0⟩ : ∃ f, IsBools W a0 len0 cap0 f := is_bools_here h0
  clear hA0 hval0
  refine (walk a0 len0 cap0 z0 W w0).mono fun e W' ⟨he, bel⟩ => ?_
  subst he
  exact ⟨_, rfl, _, _, _, [], _, [], hW', trodAll_mk1 (shut_bool Try.underlying4 _), (trodAll_cons_mk (Below.trod laidOut (by kernel_rfl) (of_decide_eq_true (by kernel_rfl)) k0 bel lt0) trodAll_mk0), rfl, bel.frame _, fun h => by cases h⟩
theorem over : Rows.clockTwoRow.holds Try.pinned (OpenSpec.ofChange Rows.clockTwoSpec) :=
  OpenClaim.holds_of_wide 5 Try.f5 rfl rfl rfl rfl rfl rfl rfl ⟨rfl, rfl, rfl, rfl, rfl⟩ rfl rfl rfl rfl rfl (by kernel_rfl) Try.func5 (by kernel_rfl)
    (of_decide_eq_true (by kernel_rfl)) (by unfold Func.isWrapper; first | (rw [if_pos (by decide +kernel)]; kernel_rfl) | (rw [if_neg (by decide +kernel)]; exact ⟨rfl, rfl⟩))
    (fun os started H enc _ => lifted os started H enc)
theorem proved : Rows.ClockTwoSaid := over
#print axioms proved
end Go.Proofs.Ytecocdhjhmifhaa.clockTwo
