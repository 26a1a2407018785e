/- Proved here: vinculumlaw4.ClockDraws returns true and leaves its arguments as they were, for every place, limit, word and number; no further condition. -/
import Derived.Test.YtecocdhjhmifhaaBits
import Derived.Test.YtecocdhjhmifhaaClock
import Derived.BigRegion
import Derived.ChangeOld
namespace Go.Proofs.Ytecocdhjhmifhaa.clockDraws
open Go.ChangeShapes Go.WideShapes Go.ChangeAt Go.RowKit
set_option linter.unusedVariables false

def Rel (at' m p q r B : Nat) (lim : Int) (w : World) (k : Nat) (now i : Value) (wr : World) : Prop :=
  ∃ y : Int, k ≤ m ∧ i = .int .i64 k ∧ now = .int .u64 y ∧ Wd wr p q 5 at' y (4 * k + 2) ∧ Ck wr r p at' lim ∧ Below B w wr
set_option maxRecDepth 100000 in
set_option maxHeartbeats 4000000 in
theorem walk (a0 a1 a2 a3 : Int) (w : World) (w0 : (Lit.int .i64 a0).wf = true) (w1 : (Lit.int .u64 a1).wf = true) (w2 : (Lit.int .u64 a2).wf = true) (w3 : (Lit.int .i64 a3).wf = true) :
    Calls Try.prog 4 #[.int .i64 a0, .int .u64 a1, .int .u64 a2, .int .i64 a3] w fun e w' => e = .returned (.bool true) ∧ Below w.heap.size w w' := by
  obtain ⟨p0, p1⟩ := bounds_i64 w0
  obtain ⟨q0, q1⟩ := bounds_u64 w1
  obtain ⟨s0, s1⟩ := bounds_u64 w2
  by_cases hg : 0 ≤ a0 ∧ a0 < 5 ∧ 1 ≤ a1 ∧ a1 ≤ 1099511627776
  · obtain ⟨g0, g1, g2, g3⟩ := hg
    obtain ⟨at', rfl⟩ : ∃ at' : Nat, a0 = at' := ⟨a0.toNat, by omega⟩
    have hn := i64_mask a3 5 (by decide)
    obtain ⟨m, em⟩ : ∃ m : Nat, a3 % 32 = m := ⟨(a3 % 32).toNat, by omega⟩
    have hn : bits .and .i64 a3 31 = m := hn.trans em
    have m1 : m ≤ 31 := by omega
    clear em
    go_enter Try.func4, Try.ntmps4
    go_wp2_with fail
    refine (new_ok 5 _ (by omega) (by omega)).mono ?_
    rintro e x1 ⟨p, q, rfl, h1, hp, hq, b1⟩
    have h1 := wd_new at' h1
    have l1 := h1.lt
    go_wp2_with fail
    refine (cknew_ok at' a1 h1 (by omega) g2 g3).mono ?_
    rintro e x2 ⟨r, rfl, c2, hr, b2⟩
    have h2 := h1.keep (Keep.of_below b2 (fun _ => False)) (by simp) (by simp)
    have nr : ¬ Two p q r := by unfold Two; omega
    have b2 := b1.trans (b2.mono b1.size)
    go_wp2_with fail
    refine (cknew_nil 0 5 _).mono ?_
    rintro e x3 ⟨rfl, rfl⟩
    go_wp2_with fail
    refine (wstore a2 h2 (by omega) (by omega) s0 s1 1 rfl).mono ?_
    rintro e x3 ⟨rfl, h3, k3⟩
    have c3 := c2.keep k3 nr
    have b3 := b2.trans (k3.below b2.size (two_ge hp hq))
    have h3 : Wd x3 p q 5 at' a2 2 := by obtain ⟨zs, c, g1, g2, g3, g4, g5⟩ := h3; exact ⟨zs, c, g1, g2, g3, g4, by omega⟩
    clear h1 h2 c2 b1 b2 k3 l1 hr
    go_wp2
    go_loopw [16, 17] (fun now i wr => ∃ k : Nat, Rel at' m p q r w.heap.size a1 w k now i wr) (fun _ i _ => m - (intOf i).toNat)
    case atStart => exact ⟨0, a2, Nat.zero_le _, rfl, rfl, h3, c3, b3⟩
    case round =>
      obtain ⟨k, y, kl, rfl, rfl, hw, hc, br⟩ := hrel
      clear h3 c3 b3
      have yb := hw.b
      by_cases hlt : k < m
      · by_cases hy : y < a1
        · obtain ⟨t, et⟩ : ∃ t, y + 1 = t := ⟨_, rfl⟩
          have wt : IntKind.u64.wrap (y + 1) = t := by rw [IntKind.wrap_u64]; omega
          have ET := Lib.hid et
          clear et
          go_wp2_with fail
          refine (ckdraw_ok hw hc nr (by omega) (by omega) hy g3 t _ ET.out rfl).mono ?_
          rintro e y1 ⟨rfl, h4, k4⟩
          have c4 := hc.keep k4 nr
          have b4 := br.trans (k4.below br.size (two_ge hp hq))
          go_wp2_with fail
          refine (cknow h4 c4 (by omega) (by omega) _ rfl).mono ?_
          rintro e y2 ⟨rfl, h5, k5⟩
          have c5 := c4.keep k5 nr
          have b5 := b4.trans (k5.below b4.size (two_ge hp hq))
          go_wp2_with fail
          refine (wload h5 (by omega) (by omega) _ rfl).mono ?_
          rintro e y3 ⟨rfl, h6, k6⟩
          have c6 := c5.keep k6 nr
          have b6 := b5.trans (k6.below b5.size (two_ge hp hq))
          have h6 : Wd y3 p q 5 at' t (4 * ((k + 1 : Nat) : Int) + 2) := by obtain ⟨zs, c, g1, g2, g3, g4, g5⟩ := h6; exact ⟨zs, c, g1, g2, g3, g4, by omega⟩
          go_wp2
          go_roundw
          case rel => exact ⟨k + 1, t, by omega, by go_num, rfl, h6, c6, b6⟩
          case measure => simp [intOf]; omega
        · go_wp2_with fail
          refine (ckdraw_over hw hc nr (by omega) (by omega) (by omega) _ rfl).mono ?_
          rintro e y1 ⟨rfl, h4, k4⟩
          have c4 := hc.keep k4 nr
          have b4 := br.trans (k4.below br.size (two_ge hp hq))
          go_wp2_with fail
          refine (cknow h4 c4 (by omega) (by omega) _ rfl).mono ?_
          rintro e y2 ⟨rfl, h5, k5⟩
          have c5 := c4.keep k5 nr
          have b5 := b4.trans (k5.below b4.size (two_ge hp hq))
          go_wp2_with fail
          refine (wload h5 (by omega) (by omega) _ rfl).mono ?_
          rintro e y3 ⟨rfl, h6, k6⟩
          have c6 := c5.keep k6 nr
          have b6 := b5.trans (k6.below b5.size (two_ge hp hq))
          have h6 : Wd y3 p q 5 at' y (4 * ((k + 1 : Nat) : Int) + 2) := by obtain ⟨zs, c, g1, g2, g3, g4, g5⟩ := h6; exact ⟨zs, c, g1, g2, g3, g4, by omega⟩
          go_wp2
          go_roundw
          case rel => exact ⟨k + 1, y, by omega, by go_num, rfl, h6, c6, b6⟩
          case measure => simp [intOf]; omega
      · obtain rfl : k = m := by omega
        go_wp2_with fail
        refine (cklimit hc).mono ?_
        rintro e y1 ⟨rfl, rfl⟩
        go_wp2_with fail
        refine (awake4_any _).mono ?_
        rintro e y7 ⟨rfl, b7⟩
        go_wp2
        go_ret
        exact ⟨rfl, br.trans (b7.mono br.size)⟩
  · have hno : a0 < 0 ∨ 5 ≤ a0 ∨ a1 < 1 ∨ 1099511627776 < a1 := by omega
    rcases (by omega : a0 < 0 ∨ (0 ≤ a0 ∧ 5 ≤ a0) ∨ (0 ≤ a0 ∧ a0 < 5 ∧ a1 < 1) ∨ (0 ≤ a0 ∧ a0 < 5 ∧ 1 ≤ a1 ∧ 1099511627776 < a1)) with h | ⟨h, h2⟩ | ⟨h, h2, h3⟩ | ⟨h, h2, h3, h4⟩
    all_goals
      go_enter Try.func4, Try.ntmps4
      go_wp2_with fail
      refine (new_ok 5 _ (by omega) (by omega)).mono ?_
      rintro e x1 ⟨p, q, rfl, h1, hp, hq, b1⟩
      have h1 := wd_new 0 h1
      go_wp2_with fail
      refine (cknew_no a0 a1 h1 hno).mono ?_
      rintro e x2 ⟨rfl, rfl⟩
      go_wp2_with fail
      refine (cknew_nil 0 5 _).mono ?_
      rintro e x3 ⟨rfl, rfl⟩
      go_wp2_with fail
      refine (awake4_any _).mono ?_
      rintro e y7 ⟨rfl, b7⟩
      go_wp2
      go_ret
      exact ⟨rfl, b1.trans (b7.mono b1.size)⟩
theorem own : ownKnob Try.prog.godebug = none := by kernel_rfl
theorem laidOut : laidOutB Try.prog = true := by kernel_rfl
set_option maxRecDepth 100000 in
theorem lifted (os : Os) (started : os.Started) (H : Type) (enc : TypeId × Value → H) :
    ReturnsInHanded {} Try.checked os 4 .any (Rows.clockDrawsSpec.pre6 enc Try.prog Try.f4 Rows.clockDrawsRow.domain false) (Rows.clockDrawsSpec.post enc Try.prog Try.f4 false true false false) := by
  refine returnsInHanded_of_change (C := Try.checked) own started (by kernel_rfl) Try.func4
    (ChangeSpec.witness6 (enc := enc) (C := Try.checked) false ⟨#[], #[.int .i64 0, .int .u64 0, .int .u64 0, .int .i64 0], []⟩ 8 (by kernel_rfl) (by kernel_rfl) (by kernel_rfl) (by kernel_rfl)) ?_
  intro W base args ds gs before hval0 hW hcnd _
  have hval : ∀ (j : Nat) t v, Try.f4.params[j]? = some t → args[j]? = some v → Value.okWide Try.prog W .any base t v := hval0
  have hW' := hW
  obtain ⟨p, q, hA0, hV, rfl, hfz, hnd⟩ := hW
  have hA : DataW.TrodAll enc Try.prog W 0 (fun _ => true) true Try.f4.params.toList args.toList ds p := hA0
  rw [Try.params4] at hA hval
  obtain ⟨v0, vs0, d0, ds0, p0, q0, hargs, rfl, rfl, h0, r0⟩ := trodAll_cons hA
  obtain ⟨v1, vs1, d1, ds1, p1, q1, rfl, rfl, rfl, h1, r1⟩ := trodAll_cons r0
  obtain ⟨v2, vs2, d2, ds2, p2, q2, rfl, rfl, rfl, h2, r2⟩ := trodAll_cons r1
  obtain ⟨v3, vs3, d3, ds3, p3, q3, rfl, rfl, rfl, h3, r3⟩ := trodAll_cons r2
  obtain ⟨rfl, rfl, rfl⟩ := trodAll_nil r3
  obtain rfl : args = #[v0, v1, v2, v3] := by cases args; simp_all
  obtain ⟨rfl, rfl⟩ := trodVars_none hV
  obtain ⟨a0, rfl, rfl, rfl, w0⟩ := open_int Try.underlying3 (hval 0 3 v0 rfl rfl) h0
  obtain ⟨a1, rfl, rfl, rfl, w1⟩ := open_int Try.underlying22 (hval 1 22 v1 rfl rfl) h1
  obtain ⟨a2, rfl, rfl, rfl, w2⟩ := open_int Try.underlying22 (hval 2 22 v2 rfl rfl) h2
  obtain ⟨a3, rfl, rfl, rfl, w3⟩ := open_int Try.underlying3 (hval 3 3 v3 rfl rfl) h3
  clear hA0 hval0
  refine (walk a0 a1 a2 a3 W w0 w1 w2 w3).mono fun e W' ⟨he, bel⟩ => ?_
  subst he
  exact ⟨_, rfl, _, _, _, [], _, [], hW', trodAll_mk1 (shut_bool Try.underlying4 _), (trodAll_cons_mk (shut_int Try.underlying3 w0) (trodAll_cons_mk (shut_int Try.underlying22 w1) (trodAll_cons_mk (shut_int Try.underlying22 w2) (trodAll_cons_mk (shut_int Try.underlying3 w3) trodAll_mk0)))), rfl, bel.frame _, fun h => by cases h⟩
theorem over : Rows.clockDrawsRow.holds Try.pinned (OpenSpec.ofChange Rows.clockDrawsSpec) :=
  OpenClaim.holds_of_wide 4 Try.f4 rfl rfl rfl rfl rfl rfl rfl ⟨rfl, rfl, rfl, rfl, rfl⟩ rfl rfl rfl rfl rfl (by kernel_rfl) Try.func4 (by kernel_rfl)
    (of_decide_eq_true (by kernel_rfl)) (by unfold Func.isWrapper; first | (rw [if_pos (by decide +kernel)]; kernel_rfl) | (rw [if_neg (by decide +kernel)]; exact ⟨rfl, rfl⟩))
    (fun os started H enc _ => lifted os started H enc)
theorem proved : Rows.ClockDrawsSaid := over
#print axioms proved
end Go.Proofs.Ytecocdhjhmifhaa.clockDraws
