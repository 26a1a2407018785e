/- Proved here: vinculumlaw12.CursorWhole returns true and leaves its arguments as they were, for any word, two ints and a word; no further condition. -/
import Derived.Test.YtopnhkogapidhaaCuD
import Derived.Test.YtopnhkogapidhaaMask
import Derived.ChangeOld
import Derived.Deep.CutRange
namespace Go.Proofs.Ytopnhkogapidhaa.cursorWhole
open Go.ChangeShapes Go.WideShapes Go.ChangeAt Go.RowKit
set_option linter.unusedVariables false

def low (M : Nat) (k : Nat) : Nat → Nat := fun j => if j < k ∧ M.testBit j = true then j % 2 + 1 else 0
theorem low_start (M : Nat) : low M 0 = fun _ => 0 := funext fun j => by unfold low; rw [if_neg (by omega)]
theorem low_put {M k : Nat} (hk : k < 64) (hb : M.testBit k = true) : putT (low M k) (k : Int) (((k % 2 : Nat) : Int) + 1) = (true, 0, low M (k + 1)) := by
  unfold putT
  rw [if_neg (by omega), show (k : Int).toNat = k by omega, if_neg (by unfold low; rw [if_neg (by omega)]; exact Nat.lt_irrefl 0)]
  have : (fun j => if j = k then (((k % 2 : Nat) : Int) + 1).toNat else low M k j) = low M (k + 1) := funext fun j => by
    unfold low
    by_cases e : j = k
    · subst e; rw [if_pos rfl, if_pos ⟨by omega, hb⟩]; omega
    · rw [if_neg e]
      have e2 : (j < k + 1) = (j < k) := propext ⟨fun _ => by omega, fun _ => by omega⟩
      simp only [e2]
  rw [this]
theorem low_skip {M k : Nat} (hb : M.testBit k = false) : low M k = low M (k + 1) := funext fun j => by
  unfold low
  by_cases e : j = k
  · subst e; rw [if_neg (by omega), if_neg (by simp [hb])]
  · have e2 : (j < k + 1) = (j < k) := propext ⟨fun _ => by omega, fun _ => by omega⟩
    simp only [e2]
theorem low_bit {M j : Nat} (hj : j < 64) : (low M 64 j = 0 → M.testBit j = false) ∧ (0 < low M 64 j → M.testBit j = true) := by
  unfold low
  cases e : M.testBit j
  · rw [if_neg (by simp)]
    exact ⟨fun _ => rfl, fun h => absurd h (Nat.lt_irrefl 0)⟩
  · rw [if_pos ⟨hj, rfl⟩]
    exact ⟨fun h => by omega, fun _ => rfl⟩
/-- A Cursor over lo .. hi, and p, where the reckoning stands. -/
def Cur (x : CS) (lo hi : Int) (p : Nat) : Prop := x.lo = lo ∧ x.hi = hi ∧ ((x.done = false ∧ x.from' = p ∧ (p : Int) ≤ hi + 1) ∨ (x.done = true ∧ hi < p))
theorem cur_new (lo : Nat) (hi : Int) (h : (lo : Int) ≤ hi) : Cur (CS.new (lo : Int) hi) (lo : Int) hi lo := ⟨rfl, rfl, .inl ⟨rfl, rfl, by omega⟩⟩
theorem tells {M : Nat} {x : CS} {lo hi : Int} {p : Nat} (h : Cur x lo hi p) (h0 : 0 ≤ lo) (hi63 : hi ≤ 63) (hi0 : 0 ≤ hi) :
    ∃ (T : Nat) (ok : Bool) (kk : Int) (x' : CS), p ≤ T ∧ (T = p ∨ (T : Int) ≤ hi + 1) ∧ (∀ j : Nat, p ≤ j → j < T → (j : Int) ≤ hi ∧ M.testBit j = false) ∧
      nextC (low M 64) x = (kk, ok, x') ∧ Cur x' lo hi (T + 1) ∧ (((T : Int) ≤ hi ∧ M.testBit T = true ∧ ok = true ∧ kk = (T : Int)) ∨ (hi < (T : Int) ∧ ok = false ∧ kk = 0)) := by
  obtain ⟨e1, e2, h⟩ := h
  rcases h with ⟨d, f, l⟩ | ⟨d, l⟩
  · rcases rng_head 64 (Nat.le_refl _) (th := low M 64) (lo := (p : Int)) (hi := hi) with ⟨h3, h4⟩ | ⟨k, t, h3, h4, h5, h6, h7, h8⟩
    · refine ⟨(hi + 1).toNat, false, 0, { x with done := true }, by omega, by omega, fun j g1 g2 => ⟨by omega, (low_bit (by omega)).1 (h4 j (by omega) (by omega) (by omega))⟩, ?_, ⟨e1, e2, .inr ⟨rfl, by omega⟩⟩, .inr ⟨by omega, rfl, rfl⟩⟩
      unfold nextC
      rw [if_neg (by simp [d]), f, e2, h3]
    · refine ⟨k, true, k, { x with at' := k }, by omega, by omega, fun j g1 g2 => ⟨by omega, (low_bit (by omega)).1 (h8 j g2 (by omega))⟩, ?_, ⟨e1, e2, .inl ⟨d, ?_, by omega⟩⟩, .inl ⟨h7, (low_bit h4).2 h5, rfl, rfl⟩⟩
      · unfold nextC
        rw [if_neg (by simp [d]), f, e2, h3]
      · unfold CS.from'
        show (if (k : Int) < 0 then x.lo else (k : Int) + 1) = ((k + 1 : Nat) : Int)
        rw [if_neg (by omega)]
        omega
  · refine ⟨p, false, 0, { x with done := true }, Nat.le_refl _, .inl rfl, fun j g1 g2 => by omega, ?_, ⟨e1, e2, .inr ⟨rfl, by omega⟩⟩, .inr ⟨l, rfl, rfl⟩⟩
    unfold nextC
    rw [if_pos d]
def R1 (w : World) (t M : Nat) (i : Value) (wr : World) : Prop := ∃ (k : Nat) (S : Nat → Prop), k ≤ 64 ∧ i = .int .i64 k ∧ Cu w wr t S (low M k) (fun _ => none)
def R2 (w : World) (t c d M lo hi : Nat) (pv qv iv : Value) (wr : World) : Prop := ∃ (p q i : Nat) (S : Nat → Prop) (cs : Nat → Option CS) (x1 x2 : CS),
  i ≤ 140 ∧ p ≤ hi + 1 + i ∧ q ≤ 64 + i ∧ pv = .int .i64 p ∧ qv = .int .i64 q ∧ iv = .int .i64 i ∧ cs c = some x1 ∧ cs d = some x2 ∧ Cur x1 (lo : Int) (hi : Int) p ∧ Cur x2 0 63 q ∧ Cu w wr t S (low M 64) cs
def R3 (y : World) (p T : Nat) (v : Value) (wr : World) : Prop := y = wr ∧ ∃ j : Nat, p ≤ j ∧ j ≤ T ∧ v = .int .i64 j
set_option maxRecDepth 100000 in
set_option maxHeartbeats 8000000 in
theorem walk (a0 a1 a2 a3 : Int) (w : World) (w0 : (Lit.int .u64 a0).wf = true) (w1 : (Lit.int .i64 a1).wf = true) (w2 : (Lit.int .i64 a2).wf = true) (w3 : (Lit.int .u64 a3).wf = true) :
    Calls Try.prog 6 #[.int .u64 a0, .int .i64 a1, .int .i64 a2, .int .u64 a3] w fun e w' => e = .returned (.bool true) ∧ Below w.heap.size w w' := by
  obtain ⟨M, rfl⟩ : ∃ n : Nat, a0 = (n : Int) := ⟨a0.toNat, by have := bounds_u64 w0; omega⟩
  obtain ⟨N, rfl⟩ : ∃ n : Nat, a3 = (n : Int) := ⟨a3.toNat, by have := bounds_u64 w3; omega⟩
  have hM : M ≤ 18446744073709551615 := by have := bounds_u64 w0; omega
  have hN : N ≤ 18446744073709551615 := by have := bounds_u64 w3; omega
  obtain ⟨l0, e1⟩ : ∃ n : Nat, a1 % 64 = (n : Int) := ⟨(a1 % 64).toNat, by omega⟩
  obtain ⟨h0, e2⟩ : ∃ n : Nat, a2 % 64 = (n : Int) := ⟨(a2 % 64).toNat, by omega⟩
  have lb : l0 < 64 := by omega
  have hb : h0 < 64 := by omega
  have m1 : bits .and .i64 a1 63 = (l0 : Int) := (i64_mask a1 6 (by decide)).trans e1
  have m2 : bits .and .i64 a2 63 = (h0 : Int) := (i64_mask a2 6 (by decide)).trans e2
  clear e1 e2 w0 w1 w2 w3
  go_enter Try.func6, Try.ntmps6
  go_wp2_with fail
  refine (k_tnew _).mono ?_
  rintro e y0 ⟨t, S0, rfl, C0⟩
  rw [← low_start M] at C0
  go_wp2_with fail
  go_loopw [10] (fun i wr => R1 w t M i wr) (fun i _ => 64 - (intOf i).toNat)
  case atStart => exact ⟨0, S0, Nat.zero_le _, rfl, C0⟩
  case round =>
    clear C0
    obtain ⟨k, S, k64, rfl, C1⟩ := hrel
    have wk : IntKind.i64.wrap ((k : Int) + 1) = (k : Int) + 1 := IntWalk.i64_in _ (by omega)
    by_cases hlt : k < 64
    · cases hbt : M.testBit k with
      | true =>
        have ba := bit_true hM hbt
        have hp := low_put hlt hbt
        have k1 : bits .and .i64 (k : Int) 1 = ((k % 2 : Nat) : Int) := (i64_mask (k : Int) 1 (by decide)).trans (by omega)
        obtain ⟨v, ev⟩ : ∃ v, k % 2 = v := ⟨_, rfl⟩
        rw [ev] at hp k1
        have w1 : IntKind.i64.wrap ((v : Int) + 1) = (v : Int) + 1 := IntWalk.i64_in _ (by omega)
        clear ev
        go_wp2_with fail
        refine (k_put C1 _ _ _ _ _ hp).mono ?_
        rintro e y3 ⟨rfl, S3, C3, k3⟩
        go_wp2_with fail
        go_roundw
        case rel => exact ⟨k + 1, S3, by omega, by go_num, C3⟩
        case measure => simp [intOf]; omega
      | false =>
        have ba := bit_false hM hbt
        rw [low_skip hbt] at C1
        go_wp2_with fail
        go_roundw
        case rel => exact ⟨k + 1, S, by omega, by go_num, C1⟩
        case measure => simp [intOf]; omega
    · obtain rfl : k = 64 := by omega
      clear hlt k64 wk
      go_upto_if 46 with fail
      go_cut [1, 2] from 22 to 148 (fun l h wx => (∃ lo hi : Nat, l = .int .i64 lo ∧ h = .int .i64 hi ∧ lo ≤ hi ∧ hi < 64) ∧ wr = wx)
      case first =>
        by_cases hc : (h0 : Int) < (l0 : Int)
        · have d1 : decide ((h0 : Int) < (l0 : Int)) = true := decide_eq_true hc
          go_wp2_with fail
          go_meet
          case rel => exact ⟨⟨h0, l0, rfl, rfl, by omega, lb⟩, rfl⟩
        · have d1 : decide ((h0 : Int) < (l0 : Int)) = false := decide_eq_false hc
          go_wp2_with fail
          go_meet
          case rel => exact ⟨⟨l0, h0, rfl, rfl, by omega, hb⟩, rfl⟩
      case rest =>
      obtain ⟨⟨lo, hi, rfl, rfl, hle, hi64⟩, rfl⟩ := hcut
      clear m1 m2
      go_wp2_with fail
      refine (k_new C1 (lo : Int) (hi : Int) ⟨by omega, by omega, by omega⟩).mono ?_
      rintro e z1 ⟨c, S2, rfl, hq, C2, _⟩
      clear C1 hq
      go_wp2_with fail
      refine (k_new C2 0 63 ⟨by omega, by omega, by omega⟩).mono ?_
      rintro e z2 ⟨d, S3, rfl, hq, C3, _⟩
      have hcd : c ≠ d := fun e => by rw [← e, updC_at] at hq; exact absurd hq (by simp)
      clear C2 hq
      go_wp2_with fail
      go_loopw [15, 16, 17] (fun pv qv iv wr => R2 w t c d M lo hi pv qv iv wr) (fun _ _ iv _ => 140 - (intOf iv).toNat)
      case atStart => exact ⟨lo, 0, 0, S3, _, _, _, by omega, by omega, by omega, rfl, rfl, rfl, (updC_ne hcd).trans updC_at, updC_at, cur_new lo _ (by omega), cur_new 0 63 (by omega), C3⟩
      case round =>
        clear C3
        obtain ⟨p, q, i, S4, cs, x1, x2, i140, pb, qb, rfl, rfl, rfl, cs1, cs2, u1, u2, C4⟩ := hrel
        have wi : IntKind.i64.wrap ((i : Int) + 1) = (i : Int) + 1 := IntWalk.i64_in _ (by omega)
        by_cases hlt : i < 140
        · have mi : bits .and .i64 (i : Int) 63 = ((i % 64 : Nat) : Int) := (i64_mask (i : Int) 6 (by decide)).trans (by omega)
          obtain ⟨v, ev⟩ : ∃ v, i % 64 = v := ⟨_, rfl⟩
          have v64 : v < 64 := by omega
          rw [ev] at mi
          clear ev
          cases hv : N.testBit v with
          | true =>
            have ba := bit_true hN hv
            obtain ⟨T, ok, kk, x', t1, t2, t3, hX, cu, hT⟩ := tells (M := M) u1 (by omega) (by omega) (by omega)
            go_wp2_with fail
            go_loopw [15] (fun v wx => R3 wr p T v wx) (fun v _ => 300 - (intOf v).toNat)
            case atStart => exact ⟨rfl, p, Nat.le_refl _, t1, rfl⟩
            case round =>
              obtain ⟨rfl, j, j1, j2, rfl⟩ := hrel
              have wj : IntKind.i64.wrap ((j : Int) + 1) = (j : Int) + 1 := IntWalk.i64_in _ (by omega)
              by_cases hj : j < T
              · have bj := bit_false hM (t3 j j1 hj).2
                have d1 : (j : Int) ≤ (hi : Int) := (t3 j j1 hj).1
                go_wp2_with fail
                first | exact ⟨⟨rfl, j + 1, by omega, by omega, by go_num⟩, by simp [intOf]; omega⟩ | (refine ⟨?rel2, ?meas2⟩; (case meas2 => (simp [intOf]; omega)); (case rel2 => ((repeat apply Exists.intro); exact ⟨⟨rfl, j + 1, by omega, by omega, by go_num⟩, rfl⟩)))
              · obtain rfl : j = T := by omega
                rcases hT with ⟨g1, g2, rfl, rfl⟩ | ⟨g1, rfl, rfl⟩
                · have bj := bit_true hM g2
                  go_wp2_with fail
                  refine (k_next C4 _ cs1 _ _ _ hX).mono ?_
                  rintro e y5 ⟨rfl, S5, C5, _⟩
                  go_wp2_with fail
                  first | exact ⟨⟨j + 1, q, i + 1, S5, _, x', x2, by omega, by omega, by omega, by go_num, rfl, by go_num, updC_at, (updC_ne (fun e => hcd e.symm)).trans cs2, cu, u2, C5⟩, by simp [intOf]; omega⟩ | (refine ⟨?rel2, ?meas2⟩; (case meas2 => (simp [intOf]; omega)); (case rel2 => ((repeat apply Exists.intro); exact ⟨⟨j + 1, q, i + 1, S5, _, x', x2, by omega, by omega, by omega, by go_num, rfl, by go_num, updC_at, (updC_ne (fun e => hcd e.symm)).trans cs2, cu, u2, C5⟩, rfl⟩)))
                · have d1 : ¬ (j : Int) ≤ (hi : Int) := by omega
                  go_wp2_with fail
                  refine (k_next C4 _ cs1 _ _ _ hX).mono ?_
                  rintro e y5 ⟨rfl, S5, C5, _⟩
                  go_wp2_with fail
                  first | exact ⟨⟨j + 1, q, i + 1, S5, _, x', x2, by omega, by omega, by omega, by go_num, rfl, by go_num, updC_at, (updC_ne (fun e => hcd e.symm)).trans cs2, cu, u2, C5⟩, by simp [intOf]; omega⟩ | (refine ⟨?rel2, ?meas2⟩; (case meas2 => (simp [intOf]; omega)); (case rel2 => ((repeat apply Exists.intro); exact ⟨⟨j + 1, q, i + 1, S5, _, x', x2, by omega, by omega, by omega, by go_num, rfl, by go_num, updC_at, (updC_ne (fun e => hcd e.symm)).trans cs2, cu, u2, C5⟩, rfl⟩)))
          | false =>
            have ba := bit_false hN hv
            obtain ⟨T, ok, kk, x', t1, t2, t3, hX, cu, hT⟩ := tells (M := M) u2 (by omega) (by omega) (by omega)
            go_wp2_with fail
            go_loopw [16] (fun v wx => R3 wr q T v wx) (fun v _ => 300 - (intOf v).toNat)
            case atStart => exact ⟨rfl, q, Nat.le_refl _, t1, rfl⟩
            case round =>
              obtain ⟨rfl, j, j1, j2, rfl⟩ := hrel
              have wj : IntKind.i64.wrap ((j : Int) + 1) = (j : Int) + 1 := IntWalk.i64_in _ (by omega)
              by_cases hj : j < T
              · have bj := bit_false hM (t3 j j1 hj).2
                have d1 : (j : Int) ≤ 63 := (t3 j j1 hj).1
                go_wp2_with fail
                first | exact ⟨⟨rfl, j + 1, by omega, by omega, by go_num⟩, by simp [intOf]; omega⟩ | (refine ⟨?rel2, ?meas2⟩; (case meas2 => (simp [intOf]; omega)); (case rel2 => ((repeat apply Exists.intro); exact ⟨⟨rfl, j + 1, by omega, by omega, by go_num⟩, rfl⟩)))
              · obtain rfl : j = T := by omega
                rcases hT with ⟨g1, g2, rfl, rfl⟩ | ⟨g1, rfl, rfl⟩
                · have bj := bit_true hM g2
                  go_wp2_with fail
                  refine (k_next C4 _ cs2 _ _ _ hX).mono ?_
                  rintro e y5 ⟨rfl, S5, C5, _⟩
                  go_wp2_with fail
                  first | exact ⟨⟨p, j + 1, i + 1, S5, _, x1, x', by omega, by omega, by omega, rfl, by go_num, by go_num, (updC_ne hcd).trans cs1, updC_at, u1, cu, C5⟩, by simp [intOf]; omega⟩ | (refine ⟨?rel2, ?meas2⟩; (case meas2 => (simp [intOf]; omega)); (case rel2 => ((repeat apply Exists.intro); exact ⟨⟨p, j + 1, i + 1, S5, _, x1, x', by omega, by omega, by omega, rfl, by go_num, by go_num, (updC_ne hcd).trans cs1, updC_at, u1, cu, C5⟩, rfl⟩)))
                · have d1 : ¬ (j : Int) ≤ 63 := by omega
                  go_wp2_with fail
                  refine (k_next C4 _ cs2 _ _ _ hX).mono ?_
                  rintro e y5 ⟨rfl, S5, C5, _⟩
                  go_wp2_with fail
                  first | exact ⟨⟨p, j + 1, i + 1, S5, _, x1, x', by omega, by omega, by omega, rfl, by go_num, by go_num, (updC_ne hcd).trans cs1, updC_at, u1, cu, C5⟩, by simp [intOf]; omega⟩ | (refine ⟨?rel2, ?meas2⟩; (case meas2 => (simp [intOf]; omega)); (case rel2 => ((repeat apply Exists.intro); exact ⟨⟨p, j + 1, i + 1, S5, _, x1, x', by omega, by omega, by omega, rfl, by go_num, by go_num, (updC_ne hcd).trans cs1, updC_at, u1, cu, C5⟩, rfl⟩)))
        · obtain rfl : i = 140 := by omega
          go_wp2_with fail
          refine (awake12_any _).mono ?_
          rintro e z9 ⟨rfl, b9⟩
          go_wp2
          go_ret
          exact ⟨rfl, C4.b.trans (b9.mono C4.b.size)⟩
theorem own : ownKnob Try.prog.godebug = none := by kernel_rfl
theorem laidOut : laidOutB Try.prog = true := by kernel_rfl
set_option maxRecDepth 100000 in
theorem lifted (os : Os) (started : os.Started) (H : Type) (enc : TypeId × Value → H) :
    ReturnsInHanded {} Try.checked os 6 .any (Rows.cursorWholeSpec.pre6 enc Try.prog Try.f6 Rows.cursorWholeRow.domain false) (Rows.cursorWholeSpec.post enc Try.prog Try.f6 false true false false) := by
  refine returnsInHanded_of_change (C := Try.checked) own started (by kernel_rfl) Try.func6
    (ChangeSpec.witness6 (enc := enc) (C := Try.checked) false ⟨#[], #[.int .u64 0, .int .i64 0, .int .i64 0, .int .u64 0], []⟩ 8 (by kernel_rfl) (by kernel_rfl) (by kernel_rfl) (by kernel_rfl)) ?_
  intro W base args ds gs before hval0 hW hcnd _
  have hval : ∀ (j : Nat) t v, Try.f6.params[j]? = some t → args[j]? = some v → Value.okWide Try.prog W .any base t v := hval0
  have hW' := hW
  obtain ⟨p, q, hA0, hV, rfl, hfz, hnd⟩ := hW
  have hA : DataW.TrodAll enc Try.prog W 0 (fun _ => true) true Try.f6.params.toList args.toList ds p := hA0
  rw [Try.params6] at hA hval
  obtain ⟨v0, vs0, d0, ds0, p0, q0, hargs, rfl, rfl, h0, r0⟩ := trodAll_cons hA
  obtain ⟨v1, vs1, d1, ds1, p1, q1, rfl, rfl, rfl, h1, r1⟩ := trodAll_cons r0
  obtain ⟨v2, vs2, d2, ds2, p2, q2, rfl, rfl, rfl, h2, r2⟩ := trodAll_cons r1
  obtain ⟨v3, vs3, d3, ds3, p3, q3, rfl, rfl, rfl, h3, r3⟩ := trodAll_cons r2
  obtain ⟨rfl, rfl, rfl⟩ := trodAll_nil r3
  obtain rfl : args = #[v0, v1, v2, v3] := by cases args; simp_all
  obtain ⟨rfl, rfl⟩ := trodVars_none hV
  obtain ⟨a0, rfl, rfl, rfl, w0⟩ := open_int Try.underlying22 (hval 0 22 v0 rfl rfl) h0
  obtain ⟨a1, rfl, rfl, rfl, w1⟩ := open_int Try.underlying3 (hval 1 3 v1 rfl rfl) h1
  obtain ⟨a2, rfl, rfl, rfl, w2⟩ := open_int Try.underlying3 (hval 2 3 v2 rfl rfl) h2
  obtain ⟨a3, rfl, rfl, rfl, w3⟩ := open_int Try.underlying22 (hval 3 22 v3 rfl rfl) h3
  clear hA0 hval0
  refine (walk a0 a1 a2 a3 W w0 w1 w2 w3).mono fun e W' ⟨he, bel⟩ => ?_
  subst he
  exact ⟨_, rfl, _, _, _, [], _, [], hW', trodAll_mk1 (shut_bool Try.underlying4 _), (trodAll_cons_mk (shut_int Try.underlying22 w0) (trodAll_cons_mk (shut_int Try.underlying3 w1) (trodAll_cons_mk (shut_int Try.underlying3 w2) (trodAll_cons_mk (shut_int Try.underlying22 w3) trodAll_mk0)))), rfl, bel.frame _, fun h => by cases h⟩
theorem over : Rows.cursorWholeRow.holds Try.pinned (OpenSpec.ofChange Rows.cursorWholeSpec) :=
  OpenClaim.holds_of_wide 6 Try.f6 rfl rfl rfl rfl rfl rfl rfl ⟨rfl, rfl, rfl, rfl, rfl⟩ rfl rfl rfl rfl rfl (by kernel_rfl) Try.func6 (by kernel_rfl)
    (of_decide_eq_true (by kernel_rfl)) (by unfold Func.isWrapper; first | (rw [if_pos (by decide +kernel)]; kernel_rfl) | (rw [if_neg (by decide +kernel)]; exact ⟨rfl, rfl⟩))
    (fun os started H enc _ => lifted os started H enc)
theorem proved : Rows.CursorWholeSaid := over
#print axioms proved
end Go.Proofs.Ytopnhkogapidhaa.cursorWhole
