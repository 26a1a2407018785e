/- Proved here: vinculumlaw11.TowerAnyway returns true and leaves its arguments as they were, for any int and any three 64-bit words; no further condition. -/
import Derived.Test.YteaanaggcenloaaTwS
import Derived.ChangeOld
import Derived.Deep.LoopGhost
import Derived.Deep.CutRange
import Derived.Deep.CutBlock
namespace Go.Proofs.Yteaanaggcenloaa.towerAnyway
open Go.ChangeShapes Go.WideShapes Go.ChangeAt Go.RowKit
set_option linter.unusedVariables false

/-- The key of round i. -/
def at37 (T i : Nat) : Nat := (i * 37 + T) % 64
def seen (T : Nat) : Nat → Nat → Bool
  | 0 => fun _ => false
  | i + 1 => plus (seen T i) (at37 T i)
theorem seen_of {T : Nat} : ∀ m i, i < m → seen T m (at37 T i) = true
  | m + 1, i, h => by
    show (seen T m (at37 T i) || decide (at37 T i = at37 T m)) = true
    by_cases e : i = m
    · subst e; simp
    · rw [seen_of m i (by omega)]; rfl
theorem seen_all {T : Nat} (hT : T < 64) {j : Nat} (hj : j < 64) : seen T 64 j = true := by
  have e : at37 T ((j + 64 - T) * 45 % 64) = j := by unfold at37; omega
  have := seen_of (T := T) 64 ((j + 64 - T) * 45 % 64) (Nat.mod_lt _ (by omega))
  rwa [e] at this
def R1 (w : World) (a b A B T i : Nat) (iv : Value) (wr : World) : Prop := ∃ SA S2, i ≤ 64 ∧ iv = .int .i64 i ∧ TT w wr a SA (SB A B (below i)) b S2 (SB A B (seen T i))
def R2 (w : World) (a b A B k : Nat) (iv : Value) (wr : World) : Prop := ∃ SA S2, k ≤ 64 ∧ iv = .int .i64 k ∧ TT w wr a SA (SB A B (below 64)) b S2 (SB A B (below 64))
def R3 (w : World) (a b A B k : Nat) (iv : Value) (wr : World) : Prop := ∃ SA S2, 1 ≤ k ∧ k ≤ 5 ∧ iv = .int .i64 k ∧ TT w wr a SA (SB A B (below 64)) b S2 (SB A B (below 64))
set_option maxRecDepth 100000 in
set_option maxHeartbeats 8000000 in
theorem walk (a0 a1 a2 a3 : Int) (w : World) (w0 : (Lit.int .u64 a0).wf = true) (w1 : (Lit.int .u64 a1).wf = true) (w2 : (Lit.int .i64 a2).wf = true) (w3 : (Lit.int .u64 a3).wf = true) :
    Calls Try.prog 7 #[.int .u64 a0, .int .u64 a1, .int .i64 a2, .int .u64 a3] w fun e w' => e = .returned (.bool true) ∧ Below w.heap.size w w' := by
  obtain ⟨A, rfl⟩ : ∃ n : Nat, a0 = (n : Int) := ⟨a0.toNat, by have := bounds_u64 w0; omega⟩
  obtain ⟨B, rfl⟩ : ∃ n : Nat, a1 = (n : Int) := ⟨a1.toNat, by have := bounds_u64 w1; omega⟩
  obtain ⟨C, rfl⟩ : ∃ n : Nat, a3 = (n : Int) := ⟨a3.toNat, by have := bounds_u64 w3; omega⟩
  obtain ⟨T, eT⟩ : ∃ n : Nat, a2 % 64 = (n : Int) := ⟨(a2 % 64).toNat, by omega⟩
  have hA : A ≤ 18446744073709551615 := by have := bounds_u64 w0; omega
  have hB : B ≤ 18446744073709551615 := by have := bounds_u64 w1; omega
  have hC : C ≤ 18446744073709551615 := by have := bounds_u64 w3; omega
  have hT : T < 64 := by omega
  have h2 : bits .and .i64 a2 63 = (T : Int) := (i64_mask a2 6 (by decide)).trans eT
  clear w0 w1 w2 w3 eT
  go_enter Try.func7, Try.ntmps7
  go_wp2_with fail
  refine (t_new (Below.refl _ _)).mono ?_
  rintro e y0 ⟨a, SA, rfl, CA, _, _⟩
  go_wp2_with fail
  refine (t_new CA.b).mono ?_
  rintro e y1 ⟨b, S2, rfl, C2, kk, gg⟩
  have D0 : TT w y1 a SA (fun _ => 0) b S2 (fun _ => 0) := ⟨CA.quiet kk, C2, fun g h1 h2 => by have := CA.lt g h1; have := gg g h2; omega⟩
  rw [← SB_none (A := A) (B := B)] at D0
  rw [show (fun _ => false) = below 0 from funext fun j => by simp [below]] at D0
  have D0 : TT w y1 a SA (SB A B (below 0)) b S2 (SB A B (seen T 0)) := by
    rw [show seen T 0 = below 0 from funext fun j => by simp [below, seen]]
    exact D0
  clear CA C2 kk gg
  go_wp2
  go_loopw [11] (fun iv wr => ∃ i : Nat, R1 w a b A B T i iv wr) (fun iv _ => 64 - (intOf iv).toNat)
  case atStart => exact ⟨0, SA, S2, Nat.zero_le _, rfl, D0⟩
  case round =>
    obtain ⟨i, SA, S2, i64, rfl, D⟩ := hrel
    clear D0
    have wk : IntKind.i64.wrap ((i : Int) + 1) = (i : Int) + 1 := IntWalk.i64_in _ (by omega)
    by_cases hlt : i < 64
    · obtain ⟨k, ek⟩ : ∃ k, at37 T i = k := ⟨_, rfl⟩
      have ek2 : ((i : Int) * 37 + (T : Int)).tmod 64 = (k : Int) := by rw [Int.tmod_eq_emod_of_nonneg (by omega), ← ek]; unfold at37; omega
      have w1 : IntKind.i64.wrap ((i : Int) * 37) = (i : Int) * 37 := IntWalk.i64_in _ (by omega)
      have w2 : IntKind.i64.wrap ((i : Int) * 37 + (T : Int)) = (i : Int) * 37 + (T : Int) := IntWalk.i64_in _ (by omega)
      have k64 : k < 64 := by rw [← ek]; exact Nat.mod_lt _ (by omega)
      have w3 : IntKind.i64.wrap (k : Int) = (k : Int) := IntWalk.i64_in _ (by omega)
      have e1 : below (i + 1) = plus (below i) i := funext fun j => by
        unfold plus below
        by_cases e : j = i
        · subst e; simp
        · simp [e]; omega
      have e2 : seen T (i + 1) = plus (seen T i) k := by show plus _ _ = _; rw [ek]
      have t1 := two_at B i hB
      have t2 := two_at B k hB
      have p1 : A.testBit i = true → _ := fun hb => SB_put (A := A) (B := B) (P := below i) hlt hb
      have p2 : A.testBit k = true → _ := fun hb => SB_put (A := A) (B := B) (P := seen T i) k64 hb
      have g1 : (hgB B i : Int) = ((B / 2 ^ i % 4 : Nat) : Int) + 1 := rfl
      have g2 : (hgB B k : Int) = ((B / 2 ^ k % 4 : Nat) : Int) + 1 := rfl
      rw [g1] at p1
      rw [g2] at p2
      obtain ⟨v1, ev1⟩ : ∃ v, B / 2 ^ i % 4 = v := ⟨_, rfl⟩
      obtain ⟨v2, ev2⟩ : ∃ v, B / 2 ^ k % 4 = v := ⟨_, rfl⟩
      have l1 : v1 < 4 := by rw [← ev1]; exact Nat.mod_lt _ (by omega)
      have l2 : v2 < 4 := by rw [← ev2]; exact Nat.mod_lt _ (by omega)
      rw [ev1] at t1 p1
      rw [ev2] at t2 p2
      have x1 : IntKind.i64.wrap (v1 : Int) = (v1 : Int) := IntWalk.i64_in _ (by omega)
      have x2 : IntKind.i64.wrap ((v1 : Int) + 1) = (v1 : Int) + 1 := IntWalk.i64_in _ (by omega)
      have x3 : IntKind.i64.wrap (v2 : Int) = (v2 : Int) := IntWalk.i64_in _ (by omega)
      have x4 : IntKind.i64.wrap ((v2 : Int) + 1) = (v2 : Int) + 1 := IntWalk.i64_in _ (by omega)
      clear ev1 ev2 g1 g2 ek
      have E1 := Lib.hid e1
      have E2 := Lib.hid e2
      have P1 := Lib.hid p1
      have P2 := Lib.hid p2
      clear e1 e2 p1 p2
      go_upto_if 39 with fail
      go_cut [] from 25 to 62 (fun wx => ∃ SA S2, TT w wx a SA (SB A B (below (i + 1))) b S2 (SB A B (seen T i)))
      case first =>
        cases hb : A.testBit i with
        | true =>
          have ba := bit_true hA hb
          go_wp2_with fail
          refine (t_put D.ra _ _ _ _ _ (P1.out hb)).mono ?_
          rintro e y2 ⟨rfl, S3, C3, k3⟩
          have D := D.step C3 k3
          rw [← E1.out] at D
          go_wp2_with fail
          go_meet
          case rel => exact ⟨S3, S2, D⟩
        | false =>
          have ba := bit_false hA hb
          have es : SB A B (below i) = SB A B (below (i + 1)) := by rw [E1.out]; exact SB_skip hb
          rw [es] at D
          go_wp2_with fail
          go_meet
          case rel => exact ⟨SA, S2, D⟩
      case rest =>
      obtain ⟨SA, S2, D⟩ := hcut
      cases hb : A.testBit k with
      | true =>
        have ba := bit_true hA hb
        go_wp2_with fail
        refine (t_put D.rb _ _ _ _ _ (P2.out hb)).mono ?_
        rintro e y2 ⟨rfl, S3, C3, k3⟩
        have D := (D.swap.step C3 k3).swap
        rw [← E2.out] at D
        go_wp2
        first | exact ⟨⟨i + 1, SA, S3, by omega, by go_num, D⟩, by simp [intOf]; omega⟩ | (refine ⟨?rel2, ?meas2⟩; (case meas2 => (simp [intOf]; omega)); (case rel2 => ((repeat apply Exists.intro); exact ⟨⟨i + 1, SA, S3, by omega, by go_num, D⟩, rfl⟩)))
      | false =>
        have ba := bit_false hA hb
        have es : SB A B (seen T i) = SB A B (seen T (i + 1)) := by rw [E2.out]; exact SB_skip hb
        rw [es] at D
        go_wp2
        first | exact ⟨⟨i + 1, SA, S2, by omega, by go_num, D⟩, by simp [intOf]; omega⟩ | (refine ⟨?rel2, ?meas2⟩; (case meas2 => (simp [intOf]; omega)); (case rel2 => ((repeat apply Exists.intro); exact ⟨⟨i + 1, SA, S2, by omega, by go_num, D⟩, rfl⟩)))
    · obtain rfl : i = 64 := by omega
      have e3 : SB A B (seen T 64) = SB A B (below 64) := SB_same fun j hj _ => by rw [seen_all hT hj]; simp [below, hj]
      rw [e3] at D
      clear e3 hlt i64 wk h2
      go_wp2
      go_loopw [13] (fun iv wr => ∃ k : Nat, R2 w a b A B k iv wr) (fun iv _ => 64 - (intOf iv).toNat)
      case atStart => exact ⟨0, SA, S2, Nat.zero_le _, rfl, D⟩
      case round =>
        clear D
        obtain ⟨k, SA, S2, k64, rfl, D⟩ := hrel
        have wk : IntKind.i64.wrap ((k : Int) + 1) = (k : Int) + 1 := IntWalk.i64_in _ (by omega)
        by_cases hlt : k < 64
        · have hl := u64_andN A C hA hC
          have hle : A &&& C ≤ 18446744073709551615 := and_le _ _ hA
          have hlb : (A &&& C).testBit k = (A.testBit k && C.testBit k) := Nat.testBit_and ..
          obtain ⟨E, eE⟩ : ∃ E, A &&& C = E := ⟨_, rfl⟩
          rw [eE] at hl hlb hle
          clear eE
          cases hb : E.testBit k with
          | true =>
            have hbE := bit_true hle hb
            rw [hb] at hlb
            have hbt : A.testBit k = true := by
              cases h1 : A.testBit k
              · rw [h1] at hlb; simp at hlb
              · rfl
            have hp : below 64 k = true := by simp [below, hlt]
            have q1 := SB_drop (A := A) (B := B) hlt hbt hp
            have q2 : decide (0 < hgtT (SB A B (minus (below 64) k)) k) = false := by
              rw [hgt_nat _ hlt, SB_no (by simp [minus])]
              rfl
            have q3 := SB_put (A := A) (B := B) (P := minus (below 64) k) hlt hbt
            have em : plus (minus (below 64) k) k = below 64 := funext fun j => by
              unfold plus minus below
              by_cases e : j = k
              · subst e; simp [hlt]
              · simp [e]
            have em2 : minus (below 64) k k = false := by simp [minus]
            rw [em, em2] at q3
            have g1 : (hgB B k : Int) = ((B / 2 ^ k % 4 : Nat) : Int) + 1 := rfl
            have t1 := two_at B k hB
            rw [g1] at q3
            obtain ⟨v1, ev1⟩ : ∃ v, B / 2 ^ k % 4 = v := ⟨_, rfl⟩
            have l1 : v1 < 4 := by rw [← ev1]; exact Nat.mod_lt _ (by omega)
            rw [ev1] at t1 q3
            have x1 : IntKind.i64.wrap (v1 : Int) = (v1 : Int) := IntWalk.i64_in _ (by omega)
            have x2 : IntKind.i64.wrap ((v1 : Int) + 1) = (v1 : Int) + 1 := IntWalk.i64_in _ (by omega)
            have Q1 := Lib.hid q1
            have Q2 := Lib.hid q2
            have Q3 := Lib.hid q3
            clear ev1 g1 em em2 hp hlb hb hbt q1 q2 q3
            go_wp2_with fail
            refine (t_drop D.rb _ _ _ Q1.out).mono ?_
            rintro e y2 ⟨rfl, S3, C3, k3⟩
            have D := (D.swap.step C3 k3).swap
            go_wp2_with fail
            refine (t_has D.rb _ _ Q2.out).mono ?_
            rintro e y3 ⟨rfl, S4, C4, k4⟩
            have D := (D.swap.step C4 k4).swap
            go_wp2_with fail
            refine (t_put D.rb _ _ _ _ _ Q3.out).mono ?_
            rintro e y4 ⟨rfl, S5, C5, k5⟩
            have D := (D.swap.step C5 k5).swap
            go_wp2
            first | exact ⟨⟨k + 1, SA, S5, by omega, by go_num, D⟩, by simp [intOf]; omega⟩ | (refine ⟨?rel2, ?meas2⟩; (case meas2 => (simp [intOf]; omega)); (case rel2 => ((repeat apply Exists.intro); exact ⟨⟨k + 1, SA, S5, by omega, by go_num, D⟩, rfl⟩)))
          | false =>
            have hbE := bit_false hle hb
            clear hlb hb
            go_wp2
            first | exact ⟨⟨k + 1, SA, S2, by omega, by go_num, D⟩, by simp [intOf]; omega⟩ | (refine ⟨?rel2, ?meas2⟩; (case meas2 => (simp [intOf]; omega)); (case rel2 => ((repeat apply Exists.intro); exact ⟨⟨k + 1, SA, S2, by omega, by go_num, D⟩, rfl⟩)))
        · obtain rfl : k = 64 := by omega
          clear hlt k64 wk
          go_wp2
          go_loopw [16] (fun iv wr => ∃ k : Nat, R3 w a b A B k iv wr) (fun iv _ => 5 - (intOf iv).toNat)
          case atStart => exact ⟨1, SA, S2, Nat.le_refl _, by omega, rfl, D⟩
          case round =>
            clear D
            obtain ⟨h, SA, S2, h1, h5, rfl, D⟩ := hrel
            have wk : IntKind.i64.wrap ((h : Int) + 1) = (h : Int) + 1 := IntWalk.i64_in _ (by omega)
            by_cases hlt : h ≤ 4
            · have ll := level_len (th := SB A B (below 64)) (h : Int)
              obtain ⟨zs, ez⟩ : ∃ zs, levelT (SB A B (below 64)) (h : Int) = zs := ⟨_, rfl⟩
              rw [ez] at ll
              go_wp2_with fail
              refine (t_level D.ra _ _ ez).mono ?_
              rintro e y2 ⟨v1, S3, rfl, o3, d3, C3, k3⟩
              have hlt3 : ∀ g, v1.ownBlock = some g → ¬ S2 g := fun g hg hs => by have := (OwnN.lt o3 hg).1; have := D.rb.lt g hs; omega
              have D := D.step C3 k3
              go_wp2_with fail
              refine (t_level D.rb _ _ ez).mono ?_
              rintro e y3 ⟨v2, S4, rfl, o4, d4, C4, k4⟩
              have o3 := OwnN.keep o3 k4.1 hlt3
              have D := (D.swap.step C4 k4).swap
              go_wp2_with fail
              refine (sameN_own o3 o4 (by omega)).mono ?_
              rintro e y4 ⟨rfl, dd, rfl⟩
              have D := D.quiet (drewN_keep _ _ dd)
              clear o3 o4 d3 d4 ez
              go_wp2
              first | exact ⟨⟨h + 1, S3, S4, by omega, by omega, by go_num, D⟩, by simp [intOf]; omega⟩ | (refine ⟨?rel2, ?meas2⟩; (case meas2 => (simp [intOf]; omega)); (case rel2 => ((repeat apply Exists.intro); exact ⟨⟨h + 1, S3, S4, by omega, by omega, by go_num, D⟩, rfl⟩)))
            · obtain rfl : h = 5 := by omega
              clear hlt h1 h5 wk
              obtain ⟨zs, ez⟩ : ∃ zs, rngT (SB A B (below 64)) 0 63 64 = zs := ⟨_, rfl⟩
              have ll : zs.length ≤ 64 := by rw [← ez]; exact rng_len _ _ _
              obtain ⟨nn, en⟩ : ∃ n : Int, ((lvl (SB A B (below 64)) 1 64).length : Int) = n := ⟨_, rfl⟩
              go_wp2_with fail
              refine (t_range D.ra _ _ _ ez).mono ?_
              rintro e y2 ⟨v1, S3, rfl, o3, d3, C3, k3⟩
              have hlt3 : ∀ g, v1.ownBlock = some g → ¬ S2 g := fun g hg hs => by have := (OwnN.lt o3 hg).1; have := D.rb.lt g hs; omega
              have D := D.step C3 k3
              go_wp2_with fail
              refine (t_range D.rb _ _ _ ez).mono ?_
              rintro e y3 ⟨v2, S4, rfl, o4, d4, C4, k4⟩
              have o3 := OwnN.keep o3 k4.1 hlt3
              have D := (D.swap.step C4 k4).swap
              go_wp2_with fail
              refine (sameN_own o3 o4 (by omega)).mono ?_
              rintro e y4 ⟨rfl, dd, rfl⟩
              have D := D.quiet (drewN_keep _ _ dd)
              clear o3 o4 d3 d4 ez
              go_wp2_with fail
              refine (t_len D.ra _ en).mono ?_
              rintro e y5 ⟨rfl, S5, C5, k5⟩
              have D := D.step C5 k5
              go_wp2_with fail
              refine (t_len D.rb _ en).mono ?_
              rintro e y6 ⟨rfl, S6, C6, k6⟩
              have D := (D.swap.step C6 k6).swap
              clear en
              go_wp2_with fail
              refine (awake11_any _).mono ?_
              rintro e z9 ⟨rfl, b9⟩
              go_wp2
              go_ret
              exact ⟨rfl, D.ra.b.trans (b9.mono D.ra.b.size)⟩
theorem own : ownKnob Try.prog.godebug = none := by kernel_rfl
theorem laidOut : laidOutB Try.prog = true := by kernel_rfl
set_option maxRecDepth 100000 in
theorem lifted (os : Os) (started : os.Started) (H : Type) (enc : TypeId × Value → H) :
    ReturnsInHanded {} Try.checked os 7 .any (Rows.towerAnywaySpec.pre6 enc Try.prog Try.f7 Rows.towerAnywayRow.domain false) (Rows.towerAnywaySpec.post enc Try.prog Try.f7 false true false false) := by
  refine returnsInHanded_of_change (C := Try.checked) own started (by kernel_rfl) Try.func7
    (ChangeSpec.witness6 (enc := enc) (C := Try.checked) false ⟨#[], #[.int .u64 0, .int .u64 0, .int .i64 0, .int .u64 0], []⟩ 8 (by kernel_rfl) (by kernel_rfl) (by kernel_rfl) (by kernel_rfl)) ?_
  intro W base args ds gs before hval0 hW hcnd _
  have hval : ∀ (j : Nat) t v, Try.f7.params[j]? = some t → args[j]? = some v → Value.okWide Try.prog W .any base t v := hval0
  have hW' := hW
  obtain ⟨p, q, hA0, hV, rfl, hfz, hnd⟩ := hW
  have hA : DataW.TrodAll enc Try.prog W 0 (fun _ => true) true Try.f7.params.toList args.toList ds p := hA0
  rw [Try.params7] at hA hval
  obtain ⟨v0, vs0, d0, ds0, p0, q0, hargs, rfl, rfl, h0, r0⟩ := trodAll_cons hA
  obtain ⟨v1, vs1, d1, ds1, p1, q1, rfl, rfl, rfl, h1, r1⟩ := trodAll_cons r0
  obtain ⟨v2, vs2, d2, ds2, p2, q2, rfl, rfl, rfl, h2, r2⟩ := trodAll_cons r1
  obtain ⟨v3, vs3, d3, ds3, p3, q3, rfl, rfl, rfl, h3, r3⟩ := trodAll_cons r2
  obtain ⟨rfl, rfl, rfl⟩ := trodAll_nil r3
  obtain rfl : args = #[v0, v1, v2, v3] := by cases args; simp_all
  obtain ⟨rfl, rfl⟩ := trodVars_none hV
  obtain ⟨a0, rfl, rfl, rfl, w0⟩ := open_int Try.underlying22 (hval 0 22 v0 rfl rfl) h0
  obtain ⟨a1, rfl, rfl, rfl, w1⟩ := open_int Try.underlying22 (hval 1 22 v1 rfl rfl) h1
  obtain ⟨a2, rfl, rfl, rfl, w2⟩ := open_int Try.underlying3 (hval 2 3 v2 rfl rfl) h2
  obtain ⟨a3, rfl, rfl, rfl, w3⟩ := open_int Try.underlying22 (hval 3 22 v3 rfl rfl) h3
  clear hA0 hval0
  refine (walk a0 a1 a2 a3 W w0 w1 w2 w3).mono fun e W' ⟨he, bel⟩ => ?_
  subst he
  exact ⟨_, rfl, _, _, _, [], _, [], hW', trodAll_mk1 (shut_bool Try.underlying4 _), (trodAll_cons_mk (shut_int Try.underlying22 w0) (trodAll_cons_mk (shut_int Try.underlying22 w1) (trodAll_cons_mk (shut_int Try.underlying3 w2) (trodAll_cons_mk (shut_int Try.underlying22 w3) trodAll_mk0)))), rfl, bel.frame _, fun h => by cases h⟩
theorem over : Rows.towerAnywayRow.holds Try.pinned (OpenSpec.ofChange Rows.towerAnywaySpec) :=
  OpenClaim.holds_of_wide 7 Try.f7 rfl rfl rfl rfl rfl rfl rfl ⟨rfl, rfl, rfl, rfl, rfl⟩ rfl rfl rfl rfl rfl (by kernel_rfl) Try.func7 (by kernel_rfl)
    (of_decide_eq_true (by kernel_rfl)) (by unfold Func.isWrapper; first | (rw [if_pos (by decide +kernel)]; kernel_rfl) | (rw [if_neg (by decide +kernel)]; exact ⟨rfl, rfl⟩))
    (fun os started H enc _ => lifted os started H enc)
theorem proved : Rows.TowerAnywaySaid := over
#print axioms proved
end Go.Proofs.Yteaanaggcenloaa.towerAnyway
