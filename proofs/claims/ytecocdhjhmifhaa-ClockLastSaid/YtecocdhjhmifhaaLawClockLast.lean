/- Proved here: vinculumlaw4.ClockLast returns true and leaves its arguments as they were, for every limit and every int; no further condition. -/
import Derived.Test.YtecocdhjhmifhaaBits
import Derived.Test.YtecocdhjhmifhaaClock
import Derived.BigRegion
import Derived.ChangeOld
import Derived.Deep.CutRange
namespace Go.Proofs.Ytecocdhjhmifhaa.clockLast
open Go.ChangeShapes Go.WideShapes Go.ChangeAt Go.RowKit
set_option linter.unusedVariables false

def Rel (n p q r B : Nat) (d lim : Int) (w : World) (k : Nat) (i : Value) (wr : World) : Prop :=
  k ≤ n ∧ i = .int .u64 ((k : Int) + 1) ∧ Wd wr p q 1 0 (d + k) (1 + 2 * k) ∧ Ck wr r p 0 lim ∧ Below B w wr
set_option maxRecDepth 100000 in
set_option maxHeartbeats 4000000 in
theorem walk (a0 a1 : Int) (w : World) (w0 : (Lit.int .u64 a0).wf = true) (w1 : (Lit.int .i64 a1).wf = true) :
    Calls Try.prog 3 #[.int .u64 a0, .int .i64 a1] w fun e w' => e = .returned (.bool true) ∧ Below w.heap.size w w' := by
  obtain ⟨p0, p1⟩ := bounds_u64 w0
  obtain ⟨q0, q1⟩ := bounds_i64 w1
  have hm := u64_mask40 a0 p0 p1
  obtain ⟨l, el⟩ : ∃ l, a0 % 1099511627776 = l := ⟨_, rfl⟩
  have l0 : 0 ≤ l := by omega
  have l1 : l ≤ 1099511627775 := by omega
  rw [el] at hm
  obtain ⟨lim, elim⟩ : ∃ lim, l + 1 = lim := ⟨_, rfl⟩
  have wl : IntKind.u64.wrap (l + 1) = lim := by rw [IntKind.wrap_u64]; omega
  have m0 : 1 ≤ lim := by omega
  have m1 : lim ≤ 1099511627776 := by omega
  have hn := i64_mask a1 5 (by decide)
  obtain ⟨n0, en⟩ : ∃ n0, a1 % 32 = n0 := ⟨_, rfl⟩
  have hn : bits .and .i64 a1 31 = n0 := hn.trans en
  have n1 : 0 ≤ n0 := by omega
  have n2 : n0 ≤ 31 := by omega
  clear el elim en p0 p1 q0 q1 w0 w1
  obtain ⟨n, hnn⟩ : ∃ n : Nat, (if lim < n0 then lim else n0) = n := ⟨(if lim < n0 then lim else n0).toNat, by split <;> omega⟩
  have nl : n ≤ lim := by split at hnn <;> omega
  have nm : n ≤ 31 := by split at hnn <;> omega
  go_enter Try.func3, Try.ntmps3
  go_upto_if 25 with fail
  go_cut [5] from 20 to 27 (fun s wx => s = .int .u64 n ∧ w = wx)
  case first =>
    by_cases hc : lim < n0
    · have hn : lim = n := by rwa [if_pos hc] at hnn
      go_wp2_with fail
      go_meet
      case rel => exact ⟨by rw [← hn], rfl⟩
    · have hn : n0 = n := by rwa [if_neg hc] at hnn
      go_wp2_with fail
      go_meet
      case rel => exact ⟨by rw [← hn], rfl⟩
  case rest =>
  obtain ⟨rfl, rfl⟩ := hcut
  clear hnn hn hm wl l0 l1 n1 n2
  go_wp2_with fail
  refine (new_ok 1 _ (by omega) (by omega)).mono ?_
  rintro e x1 ⟨p, q, rfl, h1, hp, hq, b1⟩
  have h1 := wd_new 0 h1
  go_wp2_with fail
  refine (cknew_ok 0 lim h1 (by omega) m0 m1).mono ?_
  rintro e x2 ⟨r, rfl, c2, hr, b2⟩
  have l1 := h1.lt
  have h2 := h1.keep (Keep.of_below b2 (fun _ => False)) (by simp) (by simp)
  have nr : ¬ Two p q r := by unfold Two; omega
  have b2 := b1.trans (b2.mono b1.size)
  obtain ⟨d, ed⟩ : ∃ d, lim - n = d := ⟨_, rfl⟩
  have wd : IntKind.u64.wrap (lim - n) = d := by rw [IntKind.wrap_u64]; omega
  have ED := Lib.hid ed
  have d0 : 0 ≤ d := by omega
  have d1 : d ≤ 1099511627776 := by omega
  clear ed
  go_wp2_with fail
  refine (wstore d h2 (by omega) (by omega) (by omega) (by omega) 1 rfl).mono ?_
  rintro e x3 ⟨rfl, h3, k3⟩
  have c3 := c2.keep k3 nr
  have b3 := b2.trans (k3.below b2.size (two_ge hp hq))
  clear h1 h2 c2 b1 b2 k3 l1 hr
  go_wp2
  go_loopw [10] (fun i wr => ∃ k : Nat, Rel n p q r w.heap.size d lim w k i wr) (fun i _ => n + 1 - (intOf i).toNat)
  case atStart => exact ⟨0, Nat.zero_le _, rfl, by simpa using h3, c3, b3⟩
  case round =>
    obtain ⟨k, hk, rfl, hw, hc, br⟩ := hrel
    clear h3 c3 b3
    by_cases hlt : k < n
    · obtain ⟨t, et⟩ : ∃ t, d + (k : Int) + 1 = t := ⟨_, rfl⟩
      have dn : d + (n : Int) = lim := by have := ED.out; omega
      have wt : IntKind.u64.wrap (d + ((k : Int) + 1)) = t := by rw [IntKind.wrap_u64]; omega
      have tl : d + (k : Int) < lim := by omega
      have ET := Lib.hid et
      go_wp2_with fail
      refine (ckdraw_ok hw hc nr (by omega) (by omega) tl m1 t _ ET.out rfl).mono ?_
      rintro e y1 ⟨rfl, h4, k4⟩
      have c4 := hc.keep k4 nr
      have b4 := br.trans (k4.below br.size (two_ge hp hq))
      clear et dn tl
      go_wp2
      go_roundw
      case rel => exact ⟨k + 1, by omega, by go_num, by rw [show d + ((k + 1 : Nat) : Int) = t by have := ET.out; omega, show (1 + 2 * ((k + 1 : Nat) : Int)) = 1 + 2 * k + 2 by omega]; exact h4, c4, b4⟩
      case measure => simp [intOf]; omega
    · obtain rfl : k = n := by omega
      have dn : d + (k : Int) = lim := by have := ED.out; omega
      rw [dn] at hw
      clear dn
      go_wp2_with fail
      refine (ckdraw_over hw hc nr (by omega) (by omega) (by omega) _ rfl).mono ?_
      rintro e y1 ⟨rfl, h4, k4⟩
      have c4 := hc.keep k4 nr
      have b4 := br.trans (k4.below br.size (two_ge hp hq))
      go_wp2_with fail
      refine (ckdraw_over h4 c4 nr (by omega) (by omega) (by omega) _ rfl).mono ?_
      rintro e y2 ⟨rfl, h5, k5⟩
      have c5 := c4.keep k5 nr
      have b5 := b4.trans (k5.below b4.size (two_ge hp hq))
      go_wp2_with fail
      refine (cknow h5 c5 (by omega) (by omega) _ rfl).mono ?_
      rintro e y3 ⟨rfl, h6, k6⟩
      have b6 := b5.trans (k6.below b5.size (two_ge hp hq))
      go_wp2_with fail
      refine (awake4_any _).mono ?_
      rintro e y7 ⟨rfl, b7⟩
      go_wp2
      go_ret
      exact ⟨rfl, b6.trans (b7.mono b6.size)⟩
theorem own : ownKnob Try.prog.godebug = none := by kernel_rfl
theorem laidOut : laidOutB Try.prog = true := by kernel_rfl
set_option maxRecDepth 100000 in
theorem lifted (os : Os) (started : os.Started) (H : Type) (enc : TypeId × Value → H) :
    ReturnsInHanded {} Try.checked os 3 .any (Rows.clockLastSpec.pre6 enc Try.prog Try.f3 Rows.clockLastRow.domain false) (Rows.clockLastSpec.post enc Try.prog Try.f3 false true false false) := by
  refine returnsInHanded_of_change (C := Try.checked) own started (by kernel_rfl) Try.func3
    (ChangeSpec.witness6 (enc := enc) (C := Try.checked) false ⟨#[], #[.int .u64 0, .int .i64 0], []⟩ 8 (by kernel_rfl) (by kernel_rfl) (by kernel_rfl) (by kernel_rfl)) ?_
  intro W base args ds gs before hval0 hW hcnd _
  have hval : ∀ (j : Nat) t v, Try.f3.params[j]? = some t → args[j]? = some v → Value.okWide Try.prog W .any base t v := hval0
  have hW' := hW
  obtain ⟨p, q, hA0, hV, rfl, hfz, hnd⟩ := hW
  have hA : DataW.TrodAll enc Try.prog W 0 (fun _ => true) true Try.f3.params.toList args.toList ds p := hA0
  rw [Try.params3] at hA hval
  obtain ⟨v0, vs0, d0, ds0, p0, q0, hargs, rfl, rfl, h0, r0⟩ := trodAll_cons hA
  obtain ⟨v1, vs1, d1, ds1, p1, q1, rfl, rfl, rfl, h1, r1⟩ := trodAll_cons r0
  obtain ⟨rfl, rfl, rfl⟩ := trodAll_nil r1
  obtain rfl : args = #[v0, v1] := by cases args; simp_all
  obtain ⟨rfl, rfl⟩ := trodVars_none hV
  obtain ⟨a0, rfl, rfl, rfl, w0⟩ := open_int Try.underlying22 (hval 0 22 v0 rfl rfl) h0
  obtain ⟨a1, rfl, rfl, rfl, w1⟩ := open_int Try.underlying3 (hval 1 3 v1 rfl rfl) h1
  clear hA0 hval0
  refine (walk a0 a1 W w0 w1).mono fun e W' ⟨he, bel⟩ => ?_
  subst he
  exact ⟨_, rfl, _, _, _, [], _, [], hW', trodAll_mk1 (shut_bool Try.underlying4 _), (trodAll_cons_mk (shut_int Try.underlying22 w0) (trodAll_cons_mk (shut_int Try.underlying3 w1) trodAll_mk0)), rfl, bel.frame _, fun h => by cases h⟩
theorem over : Rows.clockLastRow.holds Try.pinned (OpenSpec.ofChange Rows.clockLastSpec) :=
  OpenClaim.holds_of_wide 3 Try.f3 rfl rfl rfl rfl rfl rfl rfl ⟨rfl, rfl, rfl, rfl, rfl⟩ rfl rfl rfl rfl rfl (by kernel_rfl) Try.func3 (by kernel_rfl)
    (of_decide_eq_true (by kernel_rfl)) (by unfold Func.isWrapper; first | (rw [if_pos (by decide +kernel)]; kernel_rfl) | (rw [if_neg (by decide +kernel)]; exact ⟨rfl, rfl⟩))
    (fun os started H enc _ => lifted os started H enc)
theorem proved : Rows.ClockLastSaid := over
#print axioms proved
end Go.Proofs.Ytecocdhjhmifhaa.clockLast
