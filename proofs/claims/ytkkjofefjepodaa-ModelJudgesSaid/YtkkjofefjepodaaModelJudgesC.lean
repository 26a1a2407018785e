/- Ways through vinculumlaw19.ModelJudges. Conditions: those of the way. -/
import Derived.Test.YtkkjofefjepodaaMdA
namespace Go.Proofs.Ytkkjofefjepodaa.modelJudges
open Go.ChangeShapes Go.WideShapes Go.ChangeAt Go.RowKit
set_option linter.unusedVariables false
theorem chain002_0 : (⟨50, 100, [⟨1, 10, 0, 0, 2, 0, false⟩, ⟨2, 20, 0, 0, 2, 0, false⟩], ses [⟨2, 3, 0, 3, [], []⟩, ⟨3, 1, 0, 4, [], []⟩, tx0, tx0, tx0, tx0, tx0, tx0], 4, 3⟩ : MoI).doE 0 ⟨1, 1, 0, 0⟩ = 0 ∧ (⟨50, 100, [⟨1, 10, 0, 0, 2, 0, false⟩, ⟨2, 20, 0, 0, 2, 0, false⟩], ses [⟨2, 3, 0, 3, [], []⟩, ⟨3, 1, 0, 4, [], []⟩, tx0, tx0, tx0, tx0, tx0, tx0], 4, 3⟩ : MoI).doR 0 ⟨1, 1, 0, 0⟩ = ⟨0, 10, [], 0, 0⟩ ∧ (⟨50, 100, [⟨1, 10, 0, 0, 2, 0, false⟩, ⟨2, 20, 0, 0, 2, 0, false⟩], ses [⟨2, 3, 0, 3, [], []⟩, ⟨3, 1, 0, 4, [], []⟩, tx0, tx0, tx0, tx0, tx0, tx0], 4, 3⟩ : MoI).doM 0 ⟨1, 1, 0, 0⟩ = (⟨50, 100, [⟨1, 10, 0, 0, 2, 0, false⟩, ⟨2, 20, 0, 0, 2, 0, false⟩], ses [⟨2, 3, 1, 3, [], [⟨1, 1, true, false⟩]⟩, ⟨3, 1, 0, 4, [], []⟩, tx0, tx0, tx0, tx0, tx0, tx0], 4, 3⟩ : MoI) :=
  ⟨by rfl, by rfl, by exact MoI.ext rfl rfl rfl (ses_eq rfl rfl rfl rfl rfl rfl rfl rfl (fun _ => rfl)) rfl rfl⟩
theorem chain002_1 : (⟨50, 100, [⟨1, 10, 0, 0, 2, 0, false⟩, ⟨2, 20, 0, 0, 2, 0, false⟩], ses [⟨2, 3, 1, 3, [], [⟨1, 1, true, false⟩]⟩, ⟨3, 1, 0, 4, [], []⟩, tx0, tx0, tx0, tx0, tx0, tx0], 4, 3⟩ : MoI).doE 1 ⟨3, 1, 0, 99⟩ = 0 ∧ (⟨50, 100, [⟨1, 10, 0, 0, 2, 0, false⟩, ⟨2, 20, 0, 0, 2, 0, false⟩], ses [⟨2, 3, 1, 3, [], [⟨1, 1, true, false⟩]⟩, ⟨3, 1, 0, 4, [], []⟩, tx0, tx0, tx0, tx0, tx0, tx0], 4, 3⟩ : MoI).doR 1 ⟨3, 1, 0, 99⟩ = ⟨0, 0, [], 0, 0⟩ ∧ (⟨50, 100, [⟨1, 10, 0, 0, 2, 0, false⟩, ⟨2, 20, 0, 0, 2, 0, false⟩], ses [⟨2, 3, 1, 3, [], [⟨1, 1, true, false⟩]⟩, ⟨3, 1, 0, 4, [], []⟩, tx0, tx0, tx0, tx0, tx0, tx0], 4, 3⟩ : MoI).doM 1 ⟨3, 1, 0, 99⟩ = (⟨50, 100, [⟨1, 10, 0, 3, 2, 0, false⟩, ⟨2, 20, 0, 0, 2, 0, false⟩, ⟨1, 99, 3, 0, 0, 0, false⟩], ses [⟨2, 3, 1, 3, [], [⟨1, 1, true, false⟩]⟩, ⟨3, 1, 1, 4, [1], []⟩, tx0, tx0, tx0, tx0, tx0, tx0], 4, 3⟩ : MoI) :=
  ⟨by rfl, by rfl, by exact MoI.ext rfl rfl rfl (ses_eq rfl rfl rfl rfl rfl rfl rfl rfl (fun _ => rfl)) rfl rfl⟩
theorem chain002_2 : (⟨50, 100, [⟨1, 10, 0, 3, 2, 0, false⟩, ⟨2, 20, 0, 0, 2, 0, false⟩, ⟨1, 99, 3, 0, 0, 0, false⟩], ses [⟨2, 3, 1, 3, [], [⟨1, 1, true, false⟩]⟩, ⟨3, 1, 1, 4, [1], []⟩, tx0, tx0, tx0, tx0, tx0, tx0], 4, 3⟩ : MoI).doE 1 ⟨6, 0, 0, 0⟩ = 0 ∧ (⟨50, 100, [⟨1, 10, 0, 3, 2, 0, false⟩, ⟨2, 20, 0, 0, 2, 0, false⟩, ⟨1, 99, 3, 0, 0, 0, false⟩], ses [⟨2, 3, 1, 3, [], [⟨1, 1, true, false⟩]⟩, ⟨3, 1, 1, 4, [1], []⟩, tx0, tx0, tx0, tx0, tx0, tx0], 4, 3⟩ : MoI).doR 1 ⟨6, 0, 0, 0⟩ = ⟨0, 0, [], 3, 0⟩ ∧ (⟨50, 100, [⟨1, 10, 0, 3, 2, 0, false⟩, ⟨2, 20, 0, 0, 2, 0, false⟩, ⟨1, 99, 3, 0, 0, 0, false⟩], ses [⟨2, 3, 1, 3, [], [⟨1, 1, true, false⟩]⟩, ⟨3, 1, 1, 4, [1], []⟩, tx0, tx0, tx0, tx0, tx0, tx0], 4, 3⟩ : MoI).doM 1 ⟨6, 0, 0, 0⟩ = (⟨50, 100, [⟨1, 10, 0, 0, 2, 5, false⟩, ⟨2, 20, 0, 0, 2, 0, false⟩, ⟨1, 99, 0, 0, 5, 0, false⟩], ses [⟨2, 3, 1, 3, [], [⟨1, 1, true, false⟩]⟩, tx0, tx0, tx0, tx0, tx0, tx0, tx0], 5, 3⟩ : MoI) :=
  ⟨by rfl, by rfl, by exact MoI.ext rfl rfl rfl (ses_eq rfl rfl rfl rfl rfl rfl rfl rfl (fun _ => rfl)) rfl rfl⟩
theorem chain002_3 : (⟨50, 100, [⟨1, 10, 0, 0, 2, 5, false⟩, ⟨2, 20, 0, 0, 2, 0, false⟩, ⟨1, 99, 0, 0, 5, 0, false⟩], ses [⟨2, 3, 1, 3, [], [⟨1, 1, true, false⟩]⟩, tx0, tx0, tx0, tx0, tx0, tx0, tx0], 5, 3⟩ : MoI).doE 0 ⟨6, 0, 0, 0⟩ = 0 ∧ (⟨50, 100, [⟨1, 10, 0, 0, 2, 5, false⟩, ⟨2, 20, 0, 0, 2, 0, false⟩, ⟨1, 99, 0, 0, 5, 0, false⟩], ses [⟨2, 3, 1, 3, [], [⟨1, 1, true, false⟩]⟩, tx0, tx0, tx0, tx0, tx0, tx0, tx0], 5, 3⟩ : MoI).doR 0 ⟨6, 0, 0, 0⟩ = ⟨14, 0, [], 4, 3⟩ ∧ (⟨50, 100, [⟨1, 10, 0, 0, 2, 5, false⟩, ⟨2, 20, 0, 0, 2, 0, false⟩, ⟨1, 99, 0, 0, 5, 0, false⟩], ses [⟨2, 3, 1, 3, [], [⟨1, 1, true, false⟩]⟩, tx0, tx0, tx0, tx0, tx0, tx0, tx0], 5, 3⟩ : MoI).doM 0 ⟨6, 0, 0, 0⟩ = (⟨50, 100, [⟨1, 10, 0, 0, 2, 5, false⟩, ⟨2, 20, 0, 0, 2, 0, false⟩, ⟨1, 99, 0, 0, 5, 0, false⟩], ses [tx0, tx0, tx0, tx0, tx0, tx0, tx0, tx0], 6, 3⟩ : MoI) :=
  ⟨by rfl, by rfl, by exact MoI.ext rfl rfl rfl (ses_eq rfl rfl rfl rfl rfl rfl rfl rfl (fun _ => rfl)) rfl rfl⟩
theorem chain002 : ∃ y0 y1 y2 y3 y4 : MoI, pairM 3 1 = y0 ∧ y0.doE 0 ⟨1, 1, 0, 0⟩ = 0 ∧ y0.doR 0 ⟨1, 1, 0, 0⟩ = ⟨0, 10, [], 0, 0⟩ ∧ y0.doM 0 ⟨1, 1, 0, 0⟩ = y1 ∧ y1.doE 1 ⟨3, 1, 0, 99⟩ = 0 ∧ y1.doR 1 ⟨3, 1, 0, 99⟩ = ⟨0, 0, [], 0, 0⟩ ∧ y1.doM 1 ⟨3, 1, 0, 99⟩ = y2 ∧ y2.doE 1 ⟨6, 0, 0, 0⟩ = 0 ∧ y2.doR 1 ⟨6, 0, 0, 0⟩ = ⟨0, 0, [], 3, 0⟩ ∧ y2.doM 1 ⟨6, 0, 0, 0⟩ = y3 ∧ y3.doE 0 ⟨6, 0, 0, 0⟩ = 0 ∧ y3.doR 0 ⟨6, 0, 0, 0⟩ = ⟨14, 0, [], 4, 3⟩ ∧ y3.doM 0 ⟨6, 0, 0, 0⟩ = y4 :=
  ⟨⟨50, 100, [⟨1, 10, 0, 0, 2, 0, false⟩, ⟨2, 20, 0, 0, 2, 0, false⟩], ses [⟨2, 3, 0, 3, [], []⟩, ⟨3, 1, 0, 4, [], []⟩, tx0, tx0, tx0, tx0, tx0, tx0], 4, 3⟩,
    ⟨50, 100, [⟨1, 10, 0, 0, 2, 0, false⟩, ⟨2, 20, 0, 0, 2, 0, false⟩], ses [⟨2, 3, 1, 3, [], [⟨1, 1, true, false⟩]⟩, ⟨3, 1, 0, 4, [], []⟩, tx0, tx0, tx0, tx0, tx0, tx0], 4, 3⟩,
    ⟨50, 100, [⟨1, 10, 0, 3, 2, 0, false⟩, ⟨2, 20, 0, 0, 2, 0, false⟩, ⟨1, 99, 3, 0, 0, 0, false⟩], ses [⟨2, 3, 1, 3, [], [⟨1, 1, true, false⟩]⟩, ⟨3, 1, 1, 4, [1], []⟩, tx0, tx0, tx0, tx0, tx0, tx0], 4, 3⟩,
    ⟨50, 100, [⟨1, 10, 0, 0, 2, 5, false⟩, ⟨2, 20, 0, 0, 2, 0, false⟩, ⟨1, 99, 0, 0, 5, 0, false⟩], ses [⟨2, 3, 1, 3, [], [⟨1, 1, true, false⟩]⟩, tx0, tx0, tx0, tx0, tx0, tx0, tx0], 5, 3⟩,
    ⟨50, 100, [⟨1, 10, 0, 0, 2, 5, false⟩, ⟨2, 20, 0, 0, 2, 0, false⟩, ⟨1, 99, 0, 0, 5, 0, false⟩], ses [tx0, tx0, tx0, tx0, tx0, tx0, tx0, tx0], 6, 3⟩, pair_lit (by omega) (by omega), (chain002_0 ).1, (chain002_0 ).2.1, (chain002_0 ).2.2, (chain002_1 ).1, (chain002_1 ).2.1, (chain002_1 ).2.2, (chain002_2 ).1, (chain002_2 ).2.1, (chain002_2 ).2.2, (chain002_3 ).1, (chain002_3 ).2.1, (chain002_3 ).2.2⟩
set_option maxRecDepth 100000 in
set_option maxHeartbeats 16000000 in
theorem way_0_0_2 (a0 a1 a2 : Int) (w : World) (hm1 : a1 % 256 % 3 = 0) (hm2 : a2 % 256 % 3 = 0) (hm0 : a0 % 256 % 3 = 2) :
    Calls Try.prog 4 #[.int .i64 a0, .int .i64 a1, .int .i64 a2] w fun e w' => e = .returned (.bool true) ∧ Below w.heap.size w w' := by
  obtain ⟨q1, h1, e1, f1, l1, l1', p1, p1', w10, w11⟩ := levN a1 3 0 (by decide) (by decide) hm1
  obtain ⟨q2, h2, e2, f2, l2, l2', p2, p2', w20, w21⟩ := levN a2 3 0 (by decide) (by decide) hm2
  obtain ⟨q0, h0, e0, f0, l0, l0', p0, p0', w00, w01⟩ := levN a0 3 2 (by decide) (by decide) hm0
  have PA := pair_any 3 1 (by omega) (by omega) w
  clear w10 w11 w20 w21
  obtain ⟨y0, y1, y2, y3, y4, f0, f0_0, f0_1, f0_2, f1_0, f1_1, f1_2, f2_0, f2_1, f2_2, f3_0, f3_1, f3_2⟩ := chain002 
  have F0_0 := Lib.hid f0_0; have F0_1 := Lib.hid f0_1; have F0_2 := Lib.hid f0_2; have F1_0 := Lib.hid f1_0; have F1_1 := Lib.hid f1_1; have F1_2 := Lib.hid f1_2; have F2_0 := Lib.hid f2_0; have F2_1 := Lib.hid f2_1; have F2_2 := Lib.hid f2_2; have F3_0 := Lib.hid f3_0; have F3_1 := Lib.hid f3_1; have F3_2 := Lib.hid f3_2
  have F0 := Lib.hid f0
  clear f0 f0_0 f0_1 f0_2 f1_0 f1_1 f1_2 f2_0 f2_1 f2_2 f3_0 f3_1 f3_2
  go_enter Try.func4, Try.ntmps4
  go_wp2_with fail
  refine PA.mono ?_
  rintro e w1 ⟨m, S1, rfl, M1⟩
  rw [F0.out] at M1
  clear PA
  go_wp2_with fail; refine (md_res (M1.quiet (by repeat (first | exact Keep.refl _ _ | refine Keep.alloc ?_ _))) 0 1 1 0 0 (i64_n (by omega)) (i64_n (by omega)) (i64_n (by omega)) (i64_n (by omega)) (i64_n (by omega)) 0 0 10 [] 0 0 y1 F0_0.out F0_1.out F0_2.out).mono ?_; rintro e w2 ⟨A2, q2, c2, S2, rfl, o2, n2, M2, k2⟩; clear o2 n2 k2 M1
  go_wp2_with fail; refine (md_res (M2.quiet (by repeat (first | exact Keep.refl _ _ | refine Keep.alloc ?_ _))) 1 3 1 0 99 (i64_n (by omega)) (i64_n (by omega)) (i64_n (by omega)) (i64_n (by omega)) (i64_n (by omega)) 0 0 0 [] 0 0 y2 F1_0.out F1_1.out F1_2.out).mono ?_; rintro e w3 ⟨A3, q3, c3, S3, rfl, o3, n3, M3, k3⟩; clear o3 n3 k3 M2
  go_wp2_with fail; refine (md_res (M3.quiet (by repeat (first | exact Keep.refl _ _ | refine Keep.alloc ?_ _))) 1 6 0 0 0 (i64_n (by omega)) (i64_n (by omega)) (i64_n (by omega)) (i64_n (by omega)) (i64_n (by omega)) 0 0 0 [] 3 0 y3 F2_0.out F2_1.out F2_2.out).mono ?_; rintro e w4 ⟨A4, q4, c4, S4, rfl, o4, n4, M4, k4⟩; clear o4 n4 k4 M3
  go_wp2_with fail; refine (md_res (M4.quiet (by repeat (first | exact Keep.refl _ _ | refine Keep.alloc ?_ _))) 0 6 0 0 0 (i64_n (by omega)) (i64_n (by omega)) (i64_n (by omega)) (i64_n (by omega)) (i64_n (by omega)) 0 14 0 [] 4 3 y4 F3_0.out F3_1.out F3_2.out).mono ?_; rintro e w5 ⟨A5, q5, c5, S5, rfl, o5, n5, M5, k5⟩; clear o5 n5 k5 M4
  go_wp2_with fail
  refine (awake19_any _).mono ?_
  rintro e wz ⟨rfl, bz⟩
  go_wp2
  go_ret
  exact ⟨rfl, M5.fin bz⟩
theorem chain02_0 (L : Int) (hL : 1 ≤ L ∧ L ≤ 3) : (⟨50, 100, [⟨1, 10, 0, 0, 2, 0, false⟩, ⟨2, 20, 0, 0, 2, 0, false⟩], ses [⟨2, L, 0, 3, [], []⟩, ⟨3, 1, 0, 4, [], []⟩, tx0, tx0, tx0, tx0, tx0, tx0], 4, 3⟩ : MoI).doE 0 ⟨1, 1, 0, 0⟩ = 0 ∧ (⟨50, 100, [⟨1, 10, 0, 0, 2, 0, false⟩, ⟨2, 20, 0, 0, 2, 0, false⟩], ses [⟨2, L, 0, 3, [], []⟩, ⟨3, 1, 0, 4, [], []⟩, tx0, tx0, tx0, tx0, tx0, tx0], 4, 3⟩ : MoI).doR 0 ⟨1, 1, 0, 0⟩ = ⟨0, 10, [], 0, 0⟩ ∧ (⟨50, 100, [⟨1, 10, 0, 0, 2, 0, false⟩, ⟨2, 20, 0, 0, 2, 0, false⟩], ses [⟨2, L, 0, 3, [], []⟩, ⟨3, 1, 0, 4, [], []⟩, tx0, tx0, tx0, tx0, tx0, tx0], 4, 3⟩ : MoI).doM 0 ⟨1, 1, 0, 0⟩ = (⟨50, 100, [⟨1, 10, 0, 0, 2, 0, false⟩, ⟨2, 20, 0, 0, 2, 0, false⟩], ses [⟨2, L, 1, 3, [], [⟨1, 1, true, false⟩]⟩, ⟨3, 1, 0, 4, [], []⟩, tx0, tx0, tx0, tx0, tx0, tx0], 4, 3⟩ : MoI) :=
  ⟨by rfl, by rfl, by exact MoI.ext rfl rfl rfl (ses_eq rfl rfl rfl rfl rfl rfl rfl rfl (fun _ => rfl)) rfl rfl⟩
theorem chain02_1 (L : Int) (hL : 1 ≤ L ∧ L ≤ 3) : (⟨50, 100, [⟨1, 10, 0, 0, 2, 0, false⟩, ⟨2, 20, 0, 0, 2, 0, false⟩], ses [⟨2, L, 1, 3, [], [⟨1, 1, true, false⟩]⟩, ⟨3, 1, 0, 4, [], []⟩, tx0, tx0, tx0, tx0, tx0, tx0], 4, 3⟩ : MoI).doE 1 ⟨2, 3, 0, 99⟩ = 0 ∧ (⟨50, 100, [⟨1, 10, 0, 0, 2, 0, false⟩, ⟨2, 20, 0, 0, 2, 0, false⟩], ses [⟨2, L, 1, 3, [], [⟨1, 1, true, false⟩]⟩, ⟨3, 1, 0, 4, [], []⟩, tx0, tx0, tx0, tx0, tx0, tx0], 4, 3⟩ : MoI).doR 1 ⟨2, 3, 0, 99⟩ = ⟨0, 0, [], 0, 0⟩ ∧ (⟨50, 100, [⟨1, 10, 0, 0, 2, 0, false⟩, ⟨2, 20, 0, 0, 2, 0, false⟩], ses [⟨2, L, 1, 3, [], [⟨1, 1, true, false⟩]⟩, ⟨3, 1, 0, 4, [], []⟩, tx0, tx0, tx0, tx0, tx0, tx0], 4, 3⟩ : MoI).doM 1 ⟨2, 3, 0, 99⟩ = (⟨50, 100, [⟨1, 10, 0, 0, 2, 0, false⟩, ⟨2, 20, 0, 0, 2, 0, false⟩, ⟨3, 99, 3, 0, 0, 0, false⟩], ses [⟨2, L, 1, 3, [], [⟨1, 1, true, false⟩]⟩, ⟨3, 1, 1, 4, [3], []⟩, tx0, tx0, tx0, tx0, tx0, tx0], 4, 3⟩ : MoI) :=
  ⟨by rfl, by rfl, by exact MoI.ext rfl rfl rfl (ses_eq rfl rfl rfl rfl rfl rfl rfl rfl (fun _ => rfl)) rfl rfl⟩
theorem chain02_2 (L : Int) (hL : 1 ≤ L ∧ L ≤ 3) : (⟨50, 100, [⟨1, 10, 0, 0, 2, 0, false⟩, ⟨2, 20, 0, 0, 2, 0, false⟩, ⟨3, 99, 3, 0, 0, 0, false⟩], ses [⟨2, L, 1, 3, [], [⟨1, 1, true, false⟩]⟩, ⟨3, 1, 1, 4, [3], []⟩, tx0, tx0, tx0, tx0, tx0, tx0], 4, 3⟩ : MoI).doE 1 ⟨6, 0, 0, 0⟩ = 0 ∧ (⟨50, 100, [⟨1, 10, 0, 0, 2, 0, false⟩, ⟨2, 20, 0, 0, 2, 0, false⟩, ⟨3, 99, 3, 0, 0, 0, false⟩], ses [⟨2, L, 1, 3, [], [⟨1, 1, true, false⟩]⟩, ⟨3, 1, 1, 4, [3], []⟩, tx0, tx0, tx0, tx0, tx0, tx0], 4, 3⟩ : MoI).doR 1 ⟨6, 0, 0, 0⟩ = ⟨0, 0, [], 3, 0⟩ ∧ (⟨50, 100, [⟨1, 10, 0, 0, 2, 0, false⟩, ⟨2, 20, 0, 0, 2, 0, false⟩, ⟨3, 99, 3, 0, 0, 0, false⟩], ses [⟨2, L, 1, 3, [], [⟨1, 1, true, false⟩]⟩, ⟨3, 1, 1, 4, [3], []⟩, tx0, tx0, tx0, tx0, tx0, tx0], 4, 3⟩ : MoI).doM 1 ⟨6, 0, 0, 0⟩ = (⟨50, 100, [⟨1, 10, 0, 0, 2, 0, false⟩, ⟨2, 20, 0, 0, 2, 0, false⟩, ⟨3, 99, 0, 0, 5, 0, false⟩], ses [⟨2, L, 1, 3, [], [⟨1, 1, true, false⟩]⟩, tx0, tx0, tx0, tx0, tx0, tx0, tx0], 5, 3⟩ : MoI) :=
  ⟨by rfl, by rfl, by exact MoI.ext rfl rfl rfl (ses_eq rfl rfl rfl rfl rfl rfl rfl rfl (fun _ => rfl)) rfl rfl⟩
theorem chain02_3 (L : Int) (hL : 1 ≤ L ∧ L ≤ 3) : (⟨50, 100, [⟨1, 10, 0, 0, 2, 0, false⟩, ⟨2, 20, 0, 0, 2, 0, false⟩, ⟨3, 99, 0, 0, 5, 0, false⟩], ses [⟨2, L, 1, 3, [], [⟨1, 1, true, false⟩]⟩, tx0, tx0, tx0, tx0, tx0, tx0, tx0], 5, 3⟩ : MoI).doE 0 ⟨6, 0, 0, 0⟩ = 0 ∧ (⟨50, 100, [⟨1, 10, 0, 0, 2, 0, false⟩, ⟨2, 20, 0, 0, 2, 0, false⟩, ⟨3, 99, 0, 0, 5, 0, false⟩], ses [⟨2, L, 1, 3, [], [⟨1, 1, true, false⟩]⟩, tx0, tx0, tx0, tx0, tx0, tx0, tx0], 5, 3⟩ : MoI).doR 0 ⟨6, 0, 0, 0⟩ = ⟨0, 0, [], 3, 0⟩ ∧ (⟨50, 100, [⟨1, 10, 0, 0, 2, 0, false⟩, ⟨2, 20, 0, 0, 2, 0, false⟩, ⟨3, 99, 0, 0, 5, 0, false⟩], ses [⟨2, L, 1, 3, [], [⟨1, 1, true, false⟩]⟩, tx0, tx0, tx0, tx0, tx0, tx0, tx0], 5, 3⟩ : MoI).doM 0 ⟨6, 0, 0, 0⟩ = (⟨50, 100, [⟨1, 10, 0, 0, 2, 0, false⟩, ⟨2, 20, 0, 0, 2, 0, false⟩, ⟨3, 99, 0, 0, 5, 0, false⟩], ses [tx0, tx0, tx0, tx0, tx0, tx0, tx0, tx0], 6, 3⟩ : MoI) :=
  ⟨by rcases level_cases hL with rfl | rfl | rfl <;> rfl, by rcases level_cases hL with rfl | rfl | rfl <;> rfl, by rcases level_cases hL with rfl | rfl | rfl <;> exact MoI.ext rfl rfl rfl (ses_eq rfl rfl rfl rfl rfl rfl rfl rfl (fun _ => rfl)) rfl rfl⟩
theorem chain02 (L : Int) (hL : 1 ≤ L ∧ L ≤ 3) : ∃ y0 y1 y2 y3 y4 : MoI, pairM L 1 = y0 ∧ y0.doE 0 ⟨1, 1, 0, 0⟩ = 0 ∧ y0.doR 0 ⟨1, 1, 0, 0⟩ = ⟨0, 10, [], 0, 0⟩ ∧ y0.doM 0 ⟨1, 1, 0, 0⟩ = y1 ∧ y1.doE 1 ⟨2, 3, 0, 99⟩ = 0 ∧ y1.doR 1 ⟨2, 3, 0, 99⟩ = ⟨0, 0, [], 0, 0⟩ ∧ y1.doM 1 ⟨2, 3, 0, 99⟩ = y2 ∧ y2.doE 1 ⟨6, 0, 0, 0⟩ = 0 ∧ y2.doR 1 ⟨6, 0, 0, 0⟩ = ⟨0, 0, [], 3, 0⟩ ∧ y2.doM 1 ⟨6, 0, 0, 0⟩ = y3 ∧ y3.doE 0 ⟨6, 0, 0, 0⟩ = 0 ∧ y3.doR 0 ⟨6, 0, 0, 0⟩ = ⟨0, 0, [], 3, 0⟩ ∧ y3.doM 0 ⟨6, 0, 0, 0⟩ = y4 :=
  ⟨⟨50, 100, [⟨1, 10, 0, 0, 2, 0, false⟩, ⟨2, 20, 0, 0, 2, 0, false⟩], ses [⟨2, L, 0, 3, [], []⟩, ⟨3, 1, 0, 4, [], []⟩, tx0, tx0, tx0, tx0, tx0, tx0], 4, 3⟩,
    ⟨50, 100, [⟨1, 10, 0, 0, 2, 0, false⟩, ⟨2, 20, 0, 0, 2, 0, false⟩], ses [⟨2, L, 1, 3, [], [⟨1, 1, true, false⟩]⟩, ⟨3, 1, 0, 4, [], []⟩, tx0, tx0, tx0, tx0, tx0, tx0], 4, 3⟩,
    ⟨50, 100, [⟨1, 10, 0, 0, 2, 0, false⟩, ⟨2, 20, 0, 0, 2, 0, false⟩, ⟨3, 99, 3, 0, 0, 0, false⟩], ses [⟨2, L, 1, 3, [], [⟨1, 1, true, false⟩]⟩, ⟨3, 1, 1, 4, [3], []⟩, tx0, tx0, tx0, tx0, tx0, tx0], 4, 3⟩,
    ⟨50, 100, [⟨1, 10, 0, 0, 2, 0, false⟩, ⟨2, 20, 0, 0, 2, 0, false⟩, ⟨3, 99, 0, 0, 5, 0, false⟩], ses [⟨2, L, 1, 3, [], [⟨1, 1, true, false⟩]⟩, tx0, tx0, tx0, tx0, tx0, tx0, tx0], 5, 3⟩,
    ⟨50, 100, [⟨1, 10, 0, 0, 2, 0, false⟩, ⟨2, 20, 0, 0, 2, 0, false⟩, ⟨3, 99, 0, 0, 5, 0, false⟩], ses [tx0, tx0, tx0, tx0, tx0, tx0, tx0, tx0], 6, 3⟩, pair_lit hL (by omega), (chain02_0 L hL).1, (chain02_0 L hL).2.1, (chain02_0 L hL).2.2, (chain02_1 L hL).1, (chain02_1 L hL).2.1, (chain02_1 L hL).2.2, (chain02_2 L hL).1, (chain02_2 L hL).2.1, (chain02_2 L hL).2.2, (chain02_3 L hL).1, (chain02_3 L hL).2.1, (chain02_3 L hL).2.2⟩
set_option maxRecDepth 100000 in
set_option maxHeartbeats 16000000 in
theorem way_0_2 (a0 a1 a2 : Int) (w : World) (hm1 : a1 % 256 % 3 = 0) (hm2 : a2 % 256 % 3 = 2) (m0 : Int) (hm0 : a0 % 256 % 3 = m0) :
    Calls Try.prog 4 #[.int .i64 a0, .int .i64 a1, .int .i64 a2] w fun e w' => e = .returned (.bool true) ∧ Below w.heap.size w w' := by
  obtain ⟨q1, h1, e1, f1, l1, l1', p1, p1', w10, w11⟩ := levN a1 3 0 (by decide) (by decide) hm1
  obtain ⟨q2, h2, e2, f2, l2, l2', p2, p2', w20, w21⟩ := levN a2 3 2 (by decide) (by decide) hm2
  obtain ⟨q0, h0, e0, f0, l0, l0', p0, p0', w00, w01⟩ := levN a0 3 m0 (by decide) (by decide) hm0
  have hL : 1 ≤ m0 + 1 ∧ m0 + 1 ≤ 3 := by omega
  have PA := pair_any (m0 + 1) 1 hL (by omega) w
  clear w10 w11 w20 w21
  obtain ⟨y0, y1, y2, y3, y4, f0, f0_0, f0_1, f0_2, f1_0, f1_1, f1_2, f2_0, f2_1, f2_2, f3_0, f3_1, f3_2⟩ := chain02 (m0 + 1) hL
  have F0_0 := Lib.hid f0_0; have F0_1 := Lib.hid f0_1; have F0_2 := Lib.hid f0_2; have F1_0 := Lib.hid f1_0; have F1_1 := Lib.hid f1_1; have F1_2 := Lib.hid f1_2; have F2_0 := Lib.hid f2_0; have F2_1 := Lib.hid f2_1; have F2_2 := Lib.hid f2_2; have F3_0 := Lib.hid f3_0; have F3_1 := Lib.hid f3_1; have F3_2 := Lib.hid f3_2
  have F0 := Lib.hid f0
  clear f0 f0_0 f0_1 f0_2 f1_0 f1_1 f1_2 f2_0 f2_1 f2_2 f3_0 f3_1 f3_2
  go_enter Try.func4, Try.ntmps4
  go_wp2_with fail
  refine PA.mono ?_
  rintro e w1 ⟨m, S1, rfl, M1⟩
  rw [F0.out] at M1
  clear PA
  go_wp2_with fail; refine (md_res (M1.quiet (by repeat (first | exact Keep.refl _ _ | refine Keep.alloc ?_ _))) 0 1 1 0 0 (i64_n (by omega)) (i64_n (by omega)) (i64_n (by omega)) (i64_n (by omega)) (i64_n (by omega)) 0 0 10 [] 0 0 y1 F0_0.out F0_1.out F0_2.out).mono ?_; rintro e w2 ⟨A2, q2, c2, S2, rfl, o2, n2, M2, k2⟩; clear o2 n2 k2 M1
  go_wp2_with fail; refine (md_res (M2.quiet (by repeat (first | exact Keep.refl _ _ | refine Keep.alloc ?_ _))) 1 2 3 0 99 (i64_n (by omega)) (i64_n (by omega)) (i64_n (by omega)) (i64_n (by omega)) (i64_n (by omega)) 0 0 0 [] 0 0 y2 F1_0.out F1_1.out F1_2.out).mono ?_; rintro e w3 ⟨A3, q3, c3, S3, rfl, o3, n3, M3, k3⟩; clear o3 n3 k3 M2
  go_wp2_with fail; refine (md_res (M3.quiet (by repeat (first | exact Keep.refl _ _ | refine Keep.alloc ?_ _))) 1 6 0 0 0 (i64_n (by omega)) (i64_n (by omega)) (i64_n (by omega)) (i64_n (by omega)) (i64_n (by omega)) 0 0 0 [] 3 0 y3 F2_0.out F2_1.out F2_2.out).mono ?_; rintro e w4 ⟨A4, q4, c4, S4, rfl, o4, n4, M4, k4⟩; clear o4 n4 k4 M3
  go_wp2_with fail; refine (md_res (M4.quiet (by repeat (first | exact Keep.refl _ _ | refine Keep.alloc ?_ _))) 0 6 0 0 0 (i64_n (by omega)) (i64_n (by omega)) (i64_n (by omega)) (i64_n (by omega)) (i64_n (by omega)) 0 0 0 [] 3 0 y4 F3_0.out F3_1.out F3_2.out).mono ?_; rintro e w5 ⟨A5, q5, c5, S5, rfl, o5, n5, M5, k5⟩; clear o5 n5 k5 M4
  go_wp2_with fail
  refine (awake19_any _).mono ?_
  rintro e wz ⟨rfl, bz⟩
  go_wp2
  go_ret
  exact ⟨rfl, M5.fin bz⟩
theorem chain121_0 : (⟨50, 100, [⟨1, 10, 0, 0, 2, 0, false⟩, ⟨2, 20, 0, 0, 2, 0, false⟩], ses [⟨2, 2, 0, 3, [], []⟩, ⟨3, 1, 0, 4, [], []⟩, tx0, tx0, tx0, tx0, tx0, tx0], 4, 3⟩ : MoI).doE 0 ⟨1, 3, 0, 0⟩ = 0 ∧ (⟨50, 100, [⟨1, 10, 0, 0, 2, 0, false⟩, ⟨2, 20, 0, 0, 2, 0, false⟩], ses [⟨2, 2, 0, 3, [], []⟩, ⟨3, 1, 0, 4, [], []⟩, tx0, tx0, tx0, tx0, tx0, tx0], 4, 3⟩ : MoI).doR 0 ⟨1, 3, 0, 0⟩ = ⟨11, 0, [], 0, 0⟩ ∧ (⟨50, 100, [⟨1, 10, 0, 0, 2, 0, false⟩, ⟨2, 20, 0, 0, 2, 0, false⟩], ses [⟨2, 2, 0, 3, [], []⟩, ⟨3, 1, 0, 4, [], []⟩, tx0, tx0, tx0, tx0, tx0, tx0], 4, 3⟩ : MoI).doM 0 ⟨1, 3, 0, 0⟩ = (⟨50, 100, [⟨1, 10, 0, 0, 2, 0, false⟩, ⟨2, 20, 0, 0, 2, 0, false⟩], ses [⟨2, 2, 1, 3, [], [⟨3, 3, false, false⟩]⟩, ⟨3, 1, 0, 4, [], []⟩, tx0, tx0, tx0, tx0, tx0, tx0], 4, 3⟩ : MoI) :=
  ⟨by rfl, by rfl, by exact MoI.ext rfl rfl rfl (ses_eq rfl rfl rfl rfl rfl rfl rfl rfl (fun _ => rfl)) rfl rfl⟩
theorem chain121_1 : (⟨50, 100, [⟨1, 10, 0, 0, 2, 0, false⟩, ⟨2, 20, 0, 0, 2, 0, false⟩], ses [⟨2, 2, 1, 3, [], [⟨3, 3, false, false⟩]⟩, ⟨3, 1, 0, 4, [], []⟩, tx0, tx0, tx0, tx0, tx0, tx0], 4, 3⟩ : MoI).doE 1 ⟨2, 3, 0, 99⟩ = 0 ∧ (⟨50, 100, [⟨1, 10, 0, 0, 2, 0, false⟩, ⟨2, 20, 0, 0, 2, 0, false⟩], ses [⟨2, 2, 1, 3, [], [⟨3, 3, false, false⟩]⟩, ⟨3, 1, 0, 4, [], []⟩, tx0, tx0, tx0, tx0, tx0, tx0], 4, 3⟩ : MoI).doR 1 ⟨2, 3, 0, 99⟩ = ⟨0, 0, [], 0, 0⟩ ∧ (⟨50, 100, [⟨1, 10, 0, 0, 2, 0, false⟩, ⟨2, 20, 0, 0, 2, 0, false⟩], ses [⟨2, 2, 1, 3, [], [⟨3, 3, false, false⟩]⟩, ⟨3, 1, 0, 4, [], []⟩, tx0, tx0, tx0, tx0, tx0, tx0], 4, 3⟩ : MoI).doM 1 ⟨2, 3, 0, 99⟩ = (⟨50, 100, [⟨1, 10, 0, 0, 2, 0, false⟩, ⟨2, 20, 0, 0, 2, 0, false⟩, ⟨3, 99, 3, 0, 0, 0, false⟩], ses [⟨2, 2, 1, 3, [], [⟨3, 3, false, false⟩]⟩, ⟨3, 1, 1, 4, [3], []⟩, tx0, tx0, tx0, tx0, tx0, tx0], 4, 3⟩ : MoI) :=
  ⟨by rfl, by rfl, by exact MoI.ext rfl rfl rfl (ses_eq rfl rfl rfl rfl rfl rfl rfl rfl (fun _ => rfl)) rfl rfl⟩
theorem chain121_2 : (⟨50, 100, [⟨1, 10, 0, 0, 2, 0, false⟩, ⟨2, 20, 0, 0, 2, 0, false⟩, ⟨3, 99, 3, 0, 0, 0, false⟩], ses [⟨2, 2, 1, 3, [], [⟨3, 3, false, false⟩]⟩, ⟨3, 1, 1, 4, [3], []⟩, tx0, tx0, tx0, tx0, tx0, tx0], 4, 3⟩ : MoI).doE 1 ⟨6, 0, 0, 0⟩ = 0 ∧ (⟨50, 100, [⟨1, 10, 0, 0, 2, 0, false⟩, ⟨2, 20, 0, 0, 2, 0, false⟩, ⟨3, 99, 3, 0, 0, 0, false⟩], ses [⟨2, 2, 1, 3, [], [⟨3, 3, false, false⟩]⟩, ⟨3, 1, 1, 4, [3], []⟩, tx0, tx0, tx0, tx0, tx0, tx0], 4, 3⟩ : MoI).doR 1 ⟨6, 0, 0, 0⟩ = ⟨0, 0, [], 3, 0⟩ ∧ (⟨50, 100, [⟨1, 10, 0, 0, 2, 0, false⟩, ⟨2, 20, 0, 0, 2, 0, false⟩, ⟨3, 99, 3, 0, 0, 0, false⟩], ses [⟨2, 2, 1, 3, [], [⟨3, 3, false, false⟩]⟩, ⟨3, 1, 1, 4, [3], []⟩, tx0, tx0, tx0, tx0, tx0, tx0], 4, 3⟩ : MoI).doM 1 ⟨6, 0, 0, 0⟩ = (⟨50, 100, [⟨1, 10, 0, 0, 2, 0, false⟩, ⟨2, 20, 0, 0, 2, 0, false⟩, ⟨3, 99, 0, 0, 5, 0, false⟩], ses [⟨2, 2, 1, 3, [], [⟨3, 3, false, false⟩]⟩, tx0, tx0, tx0, tx0, tx0, tx0, tx0], 5, 3⟩ : MoI) :=
  ⟨by rfl, by rfl, by exact MoI.ext rfl rfl rfl (ses_eq rfl rfl rfl rfl rfl rfl rfl rfl (fun _ => rfl)) rfl rfl⟩
theorem chain121_3 : (⟨50, 100, [⟨1, 10, 0, 0, 2, 0, false⟩, ⟨2, 20, 0, 0, 2, 0, false⟩, ⟨3, 99, 0, 0, 5, 0, false⟩], ses [⟨2, 2, 1, 3, [], [⟨3, 3, false, false⟩]⟩, tx0, tx0, tx0, tx0, tx0, tx0, tx0], 5, 3⟩ : MoI).doE 0 ⟨6, 0, 0, 0⟩ = 0 ∧ (⟨50, 100, [⟨1, 10, 0, 0, 2, 0, false⟩, ⟨2, 20, 0, 0, 2, 0, false⟩, ⟨3, 99, 0, 0, 5, 0, false⟩], ses [⟨2, 2, 1, 3, [], [⟨3, 3, false, false⟩]⟩, tx0, tx0, tx0, tx0, tx0, tx0, tx0], 5, 3⟩ : MoI).doR 0 ⟨6, 0, 0, 0⟩ = ⟨0, 0, [], 3, 0⟩ ∧ (⟨50, 100, [⟨1, 10, 0, 0, 2, 0, false⟩, ⟨2, 20, 0, 0, 2, 0, false⟩, ⟨3, 99, 0, 0, 5, 0, false⟩], ses [⟨2, 2, 1, 3, [], [⟨3, 3, false, false⟩]⟩, tx0, tx0, tx0, tx0, tx0, tx0, tx0], 5, 3⟩ : MoI).doM 0 ⟨6, 0, 0, 0⟩ = (⟨50, 100, [⟨1, 10, 0, 0, 2, 0, false⟩, ⟨2, 20, 0, 0, 2, 0, false⟩, ⟨3, 99, 0, 0, 5, 0, false⟩], ses [tx0, tx0, tx0, tx0, tx0, tx0, tx0, tx0], 6, 3⟩ : MoI) :=
  ⟨by rfl, by rfl, by exact MoI.ext rfl rfl rfl (ses_eq rfl rfl rfl rfl rfl rfl rfl rfl (fun _ => rfl)) rfl rfl⟩
theorem chain121 : ∃ y0 y1 y2 y3 y4 : MoI, pairM 2 1 = y0 ∧ y0.doE 0 ⟨1, 3, 0, 0⟩ = 0 ∧ y0.doR 0 ⟨1, 3, 0, 0⟩ = ⟨11, 0, [], 0, 0⟩ ∧ y0.doM 0 ⟨1, 3, 0, 0⟩ = y1 ∧ y1.doE 1 ⟨2, 3, 0, 99⟩ = 0 ∧ y1.doR 1 ⟨2, 3, 0, 99⟩ = ⟨0, 0, [], 0, 0⟩ ∧ y1.doM 1 ⟨2, 3, 0, 99⟩ = y2 ∧ y2.doE 1 ⟨6, 0, 0, 0⟩ = 0 ∧ y2.doR 1 ⟨6, 0, 0, 0⟩ = ⟨0, 0, [], 3, 0⟩ ∧ y2.doM 1 ⟨6, 0, 0, 0⟩ = y3 ∧ y3.doE 0 ⟨6, 0, 0, 0⟩ = 0 ∧ y3.doR 0 ⟨6, 0, 0, 0⟩ = ⟨0, 0, [], 3, 0⟩ ∧ y3.doM 0 ⟨6, 0, 0, 0⟩ = y4 :=
  ⟨⟨50, 100, [⟨1, 10, 0, 0, 2, 0, false⟩, ⟨2, 20, 0, 0, 2, 0, false⟩], ses [⟨2, 2, 0, 3, [], []⟩, ⟨3, 1, 0, 4, [], []⟩, tx0, tx0, tx0, tx0, tx0, tx0], 4, 3⟩,
    ⟨50, 100, [⟨1, 10, 0, 0, 2, 0, false⟩, ⟨2, 20, 0, 0, 2, 0, false⟩], ses [⟨2, 2, 1, 3, [], [⟨3, 3, false, false⟩]⟩, ⟨3, 1, 0, 4, [], []⟩, tx0, tx0, tx0, tx0, tx0, tx0], 4, 3⟩,
    ⟨50, 100, [⟨1, 10, 0, 0, 2, 0, false⟩, ⟨2, 20, 0, 0, 2, 0, false⟩, ⟨3, 99, 3, 0, 0, 0, false⟩], ses [⟨2, 2, 1, 3, [], [⟨3, 3, false, false⟩]⟩, ⟨3, 1, 1, 4, [3], []⟩, tx0, tx0, tx0, tx0, tx0, tx0], 4, 3⟩,
    ⟨50, 100, [⟨1, 10, 0, 0, 2, 0, false⟩, ⟨2, 20, 0, 0, 2, 0, false⟩, ⟨3, 99, 0, 0, 5, 0, false⟩], ses [⟨2, 2, 1, 3, [], [⟨3, 3, false, false⟩]⟩, tx0, tx0, tx0, tx0, tx0, tx0, tx0], 5, 3⟩,
    ⟨50, 100, [⟨1, 10, 0, 0, 2, 0, false⟩, ⟨2, 20, 0, 0, 2, 0, false⟩, ⟨3, 99, 0, 0, 5, 0, false⟩], ses [tx0, tx0, tx0, tx0, tx0, tx0, tx0, tx0], 6, 3⟩, pair_lit (by omega) (by omega), (chain121_0 ).1, (chain121_0 ).2.1, (chain121_0 ).2.2, (chain121_1 ).1, (chain121_1 ).2.1, (chain121_1 ).2.2, (chain121_2 ).1, (chain121_2 ).2.1, (chain121_2 ).2.2, (chain121_3 ).1, (chain121_3 ).2.1, (chain121_3 ).2.2⟩
set_option maxRecDepth 100000 in
set_option maxHeartbeats 16000000 in
theorem way_1_2_1 (a0 a1 a2 : Int) (w : World) (hm1 : a1 % 256 % 3 = 1) (hm2 : a2 % 256 % 3 = 2) (hm0 : a0 % 256 % 3 = 1) :
    Calls Try.prog 4 #[.int .i64 a0, .int .i64 a1, .int .i64 a2] w fun e w' => e = .returned (.bool true) ∧ Below w.heap.size w w' := by
  obtain ⟨q1, h1, e1, f1, l1, l1', p1, p1', w10, w11⟩ := levN a1 3 1 (by decide) (by decide) hm1
  obtain ⟨q2, h2, e2, f2, l2, l2', p2, p2', w20, w21⟩ := levN a2 3 2 (by decide) (by decide) hm2
  obtain ⟨q0, h0, e0, f0, l0, l0', p0, p0', w00, w01⟩ := levN a0 3 1 (by decide) (by decide) hm0
  have PA := pair_any 2 1 (by omega) (by omega) w
  clear w10 w11 w20 w21
  obtain ⟨y0, y1, y2, y3, y4, f0, f0_0, f0_1, f0_2, f1_0, f1_1, f1_2, f2_0, f2_1, f2_2, f3_0, f3_1, f3_2⟩ := chain121 
  have F0_0 := Lib.hid f0_0; have F0_1 := Lib.hid f0_1; have F0_2 := Lib.hid f0_2; have F1_0 := Lib.hid f1_0; have F1_1 := Lib.hid f1_1; have F1_2 := Lib.hid f1_2; have F2_0 := Lib.hid f2_0; have F2_1 := Lib.hid f2_1; have F2_2 := Lib.hid f2_2; have F3_0 := Lib.hid f3_0; have F3_1 := Lib.hid f3_1; have F3_2 := Lib.hid f3_2
  have F0 := Lib.hid f0
  clear f0 f0_0 f0_1 f0_2 f1_0 f1_1 f1_2 f2_0 f2_1 f2_2 f3_0 f3_1 f3_2
  go_enter Try.func4, Try.ntmps4
  go_wp2_with fail
  refine PA.mono ?_
  rintro e w1 ⟨m, S1, rfl, M1⟩
  rw [F0.out] at M1
  clear PA
  go_wp2_with fail; refine (md_res (M1.quiet (by repeat (first | exact Keep.refl _ _ | refine Keep.alloc ?_ _))) 0 1 3 0 0 (i64_n (by omega)) (i64_n (by omega)) (i64_n (by omega)) (i64_n (by omega)) (i64_n (by omega)) 0 11 0 [] 0 0 y1 F0_0.out F0_1.out F0_2.out).mono ?_; rintro e w2 ⟨A2, q2, c2, S2, rfl, o2, n2, M2, k2⟩; clear o2 n2 k2 M1
  go_wp2_with fail; refine (md_res (M2.quiet (by repeat (first | exact Keep.refl _ _ | refine Keep.alloc ?_ _))) 1 2 3 0 99 (i64_n (by omega)) (i64_n (by omega)) (i64_n (by omega)) (i64_n (by omega)) (i64_n (by omega)) 0 0 0 [] 0 0 y2 F1_0.out F1_1.out F1_2.out).mono ?_; rintro e w3 ⟨A3, q3, c3, S3, rfl, o3, n3, M3, k3⟩; clear o3 n3 k3 M2
  go_wp2_with fail; refine (md_res (M3.quiet (by repeat (first | exact Keep.refl _ _ | refine Keep.alloc ?_ _))) 1 6 0 0 0 (i64_n (by omega)) (i64_n (by omega)) (i64_n (by omega)) (i64_n (by omega)) (i64_n (by omega)) 0 0 0 [] 3 0 y3 F2_0.out F2_1.out F2_2.out).mono ?_; rintro e w4 ⟨A4, q4, c4, S4, rfl, o4, n4, M4, k4⟩; clear o4 n4 k4 M3
  go_wp2_with fail; refine (md_res (M4.quiet (by repeat (first | exact Keep.refl _ _ | refine Keep.alloc ?_ _))) 0 6 0 0 0 (i64_n (by omega)) (i64_n (by omega)) (i64_n (by omega)) (i64_n (by omega)) (i64_n (by omega)) 0 0 0 [] 3 0 y4 F3_0.out F3_1.out F3_2.out).mono ?_; rintro e w5 ⟨A5, q5, c5, S5, rfl, o5, n5, M5, k5⟩; clear o5 n5 k5 M4
  go_wp2_with fail
  refine (awake19_any _).mono ?_
  rintro e wz ⟨rfl, bz⟩
  go_wp2
  go_ret
  exact ⟨rfl, M5.fin bz⟩
theorem chain202_0 : (⟨50, 100, [⟨1, 10, 0, 0, 2, 0, false⟩, ⟨2, 20, 0, 0, 2, 0, false⟩], ses [⟨2, 3, 0, 3, [], []⟩, ⟨3, 1, 0, 4, [], []⟩, tx0, tx0, tx0, tx0, tx0, tx0], 4, 3⟩ : MoI).doE 0 ⟨5, 1, 5, 0⟩ = 0 ∧ (⟨50, 100, [⟨1, 10, 0, 0, 2, 0, false⟩, ⟨2, 20, 0, 0, 2, 0, false⟩], ses [⟨2, 3, 0, 3, [], []⟩, ⟨3, 1, 0, 4, [], []⟩, tx0, tx0, tx0, tx0, tx0, tx0], 4, 3⟩ : MoI).doR 0 ⟨5, 1, 5, 0⟩ = ⟨0, 0, [(1, 10), (2, 20)], 0, 0⟩ ∧ (⟨50, 100, [⟨1, 10, 0, 0, 2, 0, false⟩, ⟨2, 20, 0, 0, 2, 0, false⟩], ses [⟨2, 3, 0, 3, [], []⟩, ⟨3, 1, 0, 4, [], []⟩, tx0, tx0, tx0, tx0, tx0, tx0], 4, 3⟩ : MoI).doM 0 ⟨5, 1, 5, 0⟩ = (⟨50, 100, [⟨1, 10, 0, 0, 2, 0, false⟩, ⟨2, 20, 0, 0, 2, 0, false⟩], ses [⟨2, 3, 1, 3, [], [⟨1, 5, false, true⟩]⟩, ⟨3, 1, 0, 4, [], []⟩, tx0, tx0, tx0, tx0, tx0, tx0], 4, 3⟩ : MoI) :=
  ⟨by rfl, by rfl, by exact MoI.ext rfl rfl rfl (ses_eq rfl rfl rfl rfl rfl rfl rfl rfl (fun _ => rfl)) rfl rfl⟩
theorem chain202_1 : (⟨50, 100, [⟨1, 10, 0, 0, 2, 0, false⟩, ⟨2, 20, 0, 0, 2, 0, false⟩], ses [⟨2, 3, 1, 3, [], [⟨1, 5, false, true⟩]⟩, ⟨3, 1, 0, 4, [], []⟩, tx0, tx0, tx0, tx0, tx0, tx0], 4, 3⟩ : MoI).doE 1 ⟨3, 1, 0, 99⟩ = 0 ∧ (⟨50, 100, [⟨1, 10, 0, 0, 2, 0, false⟩, ⟨2, 20, 0, 0, 2, 0, false⟩], ses [⟨2, 3, 1, 3, [], [⟨1, 5, false, true⟩]⟩, ⟨3, 1, 0, 4, [], []⟩, tx0, tx0, tx0, tx0, tx0, tx0], 4, 3⟩ : MoI).doR 1 ⟨3, 1, 0, 99⟩ = ⟨0, 0, [], 0, 0⟩ ∧ (⟨50, 100, [⟨1, 10, 0, 0, 2, 0, false⟩, ⟨2, 20, 0, 0, 2, 0, false⟩], ses [⟨2, 3, 1, 3, [], [⟨1, 5, false, true⟩]⟩, ⟨3, 1, 0, 4, [], []⟩, tx0, tx0, tx0, tx0, tx0, tx0], 4, 3⟩ : MoI).doM 1 ⟨3, 1, 0, 99⟩ = (⟨50, 100, [⟨1, 10, 0, 3, 2, 0, false⟩, ⟨2, 20, 0, 0, 2, 0, false⟩, ⟨1, 99, 3, 0, 0, 0, false⟩], ses [⟨2, 3, 1, 3, [], [⟨1, 5, false, true⟩]⟩, ⟨3, 1, 1, 4, [1], []⟩, tx0, tx0, tx0, tx0, tx0, tx0], 4, 3⟩ : MoI) :=
  ⟨by rfl, by rfl, by exact MoI.ext rfl rfl rfl (ses_eq rfl rfl rfl rfl rfl rfl rfl rfl (fun _ => rfl)) rfl rfl⟩
theorem chain202_2 : (⟨50, 100, [⟨1, 10, 0, 3, 2, 0, false⟩, ⟨2, 20, 0, 0, 2, 0, false⟩, ⟨1, 99, 3, 0, 0, 0, false⟩], ses [⟨2, 3, 1, 3, [], [⟨1, 5, false, true⟩]⟩, ⟨3, 1, 1, 4, [1], []⟩, tx0, tx0, tx0, tx0, tx0, tx0], 4, 3⟩ : MoI).doE 1 ⟨6, 0, 0, 0⟩ = 0 ∧ (⟨50, 100, [⟨1, 10, 0, 3, 2, 0, false⟩, ⟨2, 20, 0, 0, 2, 0, false⟩, ⟨1, 99, 3, 0, 0, 0, false⟩], ses [⟨2, 3, 1, 3, [], [⟨1, 5, false, true⟩]⟩, ⟨3, 1, 1, 4, [1], []⟩, tx0, tx0, tx0, tx0, tx0, tx0], 4, 3⟩ : MoI).doR 1 ⟨6, 0, 0, 0⟩ = ⟨0, 0, [], 3, 0⟩ ∧ (⟨50, 100, [⟨1, 10, 0, 3, 2, 0, false⟩, ⟨2, 20, 0, 0, 2, 0, false⟩, ⟨1, 99, 3, 0, 0, 0, false⟩], ses [⟨2, 3, 1, 3, [], [⟨1, 5, false, true⟩]⟩, ⟨3, 1, 1, 4, [1], []⟩, tx0, tx0, tx0, tx0, tx0, tx0], 4, 3⟩ : MoI).doM 1 ⟨6, 0, 0, 0⟩ = (⟨50, 100, [⟨1, 10, 0, 0, 2, 5, false⟩, ⟨2, 20, 0, 0, 2, 0, false⟩, ⟨1, 99, 0, 0, 5, 0, false⟩], ses [⟨2, 3, 1, 3, [], [⟨1, 5, false, true⟩]⟩, tx0, tx0, tx0, tx0, tx0, tx0, tx0], 5, 3⟩ : MoI) :=
  ⟨by rfl, by rfl, by exact MoI.ext rfl rfl rfl (ses_eq rfl rfl rfl rfl rfl rfl rfl rfl (fun _ => rfl)) rfl rfl⟩
theorem chain202_3 : (⟨50, 100, [⟨1, 10, 0, 0, 2, 5, false⟩, ⟨2, 20, 0, 0, 2, 0, false⟩, ⟨1, 99, 0, 0, 5, 0, false⟩], ses [⟨2, 3, 1, 3, [], [⟨1, 5, false, true⟩]⟩, tx0, tx0, tx0, tx0, tx0, tx0, tx0], 5, 3⟩ : MoI).doE 0 ⟨6, 0, 0, 0⟩ = 0 ∧ (⟨50, 100, [⟨1, 10, 0, 0, 2, 5, false⟩, ⟨2, 20, 0, 0, 2, 0, false⟩, ⟨1, 99, 0, 0, 5, 0, false⟩], ses [⟨2, 3, 1, 3, [], [⟨1, 5, false, true⟩]⟩, tx0, tx0, tx0, tx0, tx0, tx0, tx0], 5, 3⟩ : MoI).doR 0 ⟨6, 0, 0, 0⟩ = ⟨14, 0, [], 4, 3⟩ ∧ (⟨50, 100, [⟨1, 10, 0, 0, 2, 5, false⟩, ⟨2, 20, 0, 0, 2, 0, false⟩, ⟨1, 99, 0, 0, 5, 0, false⟩], ses [⟨2, 3, 1, 3, [], [⟨1, 5, false, true⟩]⟩, tx0, tx0, tx0, tx0, tx0, tx0, tx0], 5, 3⟩ : MoI).doM 0 ⟨6, 0, 0, 0⟩ = (⟨50, 100, [⟨1, 10, 0, 0, 2, 5, false⟩, ⟨2, 20, 0, 0, 2, 0, false⟩, ⟨1, 99, 0, 0, 5, 0, false⟩], ses [tx0, tx0, tx0, tx0, tx0, tx0, tx0, tx0], 6, 3⟩ : MoI) :=
  ⟨by rfl, by rfl, by exact MoI.ext rfl rfl rfl (ses_eq rfl rfl rfl rfl rfl rfl rfl rfl (fun _ => rfl)) rfl rfl⟩
theorem chain202 : ∃ y0 y1 y2 y3 y4 : MoI, pairM 3 1 = y0 ∧ y0.doE 0 ⟨5, 1, 5, 0⟩ = 0 ∧ y0.doR 0 ⟨5, 1, 5, 0⟩ = ⟨0, 0, [(1, 10), (2, 20)], 0, 0⟩ ∧ y0.doM 0 ⟨5, 1, 5, 0⟩ = y1 ∧ y1.doE 1 ⟨3, 1, 0, 99⟩ = 0 ∧ y1.doR 1 ⟨3, 1, 0, 99⟩ = ⟨0, 0, [], 0, 0⟩ ∧ y1.doM 1 ⟨3, 1, 0, 99⟩ = y2 ∧ y2.doE 1 ⟨6, 0, 0, 0⟩ = 0 ∧ y2.doR 1 ⟨6, 0, 0, 0⟩ = ⟨0, 0, [], 3, 0⟩ ∧ y2.doM 1 ⟨6, 0, 0, 0⟩ = y3 ∧ y3.doE 0 ⟨6, 0, 0, 0⟩ = 0 ∧ y3.doR 0 ⟨6, 0, 0, 0⟩ = ⟨14, 0, [], 4, 3⟩ ∧ y3.doM 0 ⟨6, 0, 0, 0⟩ = y4 :=
  ⟨⟨50, 100, [⟨1, 10, 0, 0, 2, 0, false⟩, ⟨2, 20, 0, 0, 2, 0, false⟩], ses [⟨2, 3, 0, 3, [], []⟩, ⟨3, 1, 0, 4, [], []⟩, tx0, tx0, tx0, tx0, tx0, tx0], 4, 3⟩,
    ⟨50, 100, [⟨1, 10, 0, 0, 2, 0, false⟩, ⟨2, 20, 0, 0, 2, 0, false⟩], ses [⟨2, 3, 1, 3, [], [⟨1, 5, false, true⟩]⟩, ⟨3, 1, 0, 4, [], []⟩, tx0, tx0, tx0, tx0, tx0, tx0], 4, 3⟩,
    ⟨50, 100, [⟨1, 10, 0, 3, 2, 0, false⟩, ⟨2, 20, 0, 0, 2, 0, false⟩, ⟨1, 99, 3, 0, 0, 0, false⟩], ses [⟨2, 3, 1, 3, [], [⟨1, 5, false, true⟩]⟩, ⟨3, 1, 1, 4, [1], []⟩, tx0, tx0, tx0, tx0, tx0, tx0], 4, 3⟩,
    ⟨50, 100, [⟨1, 10, 0, 0, 2, 5, false⟩, ⟨2, 20, 0, 0, 2, 0, false⟩, ⟨1, 99, 0, 0, 5, 0, false⟩], ses [⟨2, 3, 1, 3, [], [⟨1, 5, false, true⟩]⟩, tx0, tx0, tx0, tx0, tx0, tx0, tx0], 5, 3⟩,
    ⟨50, 100, [⟨1, 10, 0, 0, 2, 5, false⟩, ⟨2, 20, 0, 0, 2, 0, false⟩, ⟨1, 99, 0, 0, 5, 0, false⟩], ses [tx0, tx0, tx0, tx0, tx0, tx0, tx0, tx0], 6, 3⟩, pair_lit (by omega) (by omega), (chain202_0 ).1, (chain202_0 ).2.1, (chain202_0 ).2.2, (chain202_1 ).1, (chain202_1 ).2.1, (chain202_1 ).2.2, (chain202_2 ).1, (chain202_2 ).2.1, (chain202_2 ).2.2, (chain202_3 ).1, (chain202_3 ).2.1, (chain202_3 ).2.2⟩
set_option maxRecDepth 100000 in
set_option maxHeartbeats 16000000 in
theorem way_2_0_2 (a0 a1 a2 : Int) (w : World) (hm1 : a1 % 256 % 3 = 2) (hm2 : a2 % 256 % 3 = 0) (hm0 : a0 % 256 % 3 = 2) :
    Calls Try.prog 4 #[.int .i64 a0, .int .i64 a1, .int .i64 a2] w fun e w' => e = .returned (.bool true) ∧ Below w.heap.size w w' := by
  obtain ⟨q1, h1, e1, f1, l1, l1', p1, p1', w10, w11⟩ := levN a1 3 2 (by decide) (by decide) hm1
  obtain ⟨q2, h2, e2, f2, l2, l2', p2, p2', w20, w21⟩ := levN a2 3 0 (by decide) (by decide) hm2
  obtain ⟨q0, h0, e0, f0, l0, l0', p0, p0', w00, w01⟩ := levN a0 3 2 (by decide) (by decide) hm0
  have PA := pair_any 3 1 (by omega) (by omega) w
  clear w10 w11 w20 w21
  obtain ⟨y0, y1, y2, y3, y4, f0, f0_0, f0_1, f0_2, f1_0, f1_1, f1_2, f2_0, f2_1, f2_2, f3_0, f3_1, f3_2⟩ := chain202 
  have F0_0 := Lib.hid f0_0; have F0_1 := Lib.hid f0_1; have F0_2 := Lib.hid f0_2; have F1_0 := Lib.hid f1_0; have F1_1 := Lib.hid f1_1; have F1_2 := Lib.hid f1_2; have F2_0 := Lib.hid f2_0; have F2_1 := Lib.hid f2_1; have F2_2 := Lib.hid f2_2; have F3_0 := Lib.hid f3_0; have F3_1 := Lib.hid f3_1; have F3_2 := Lib.hid f3_2
  have F0 := Lib.hid f0
  clear f0 f0_0 f0_1 f0_2 f1_0 f1_1 f1_2 f2_0 f2_1 f2_2 f3_0 f3_1 f3_2
  go_enter Try.func4, Try.ntmps4
  go_wp2_with fail
  refine PA.mono ?_
  rintro e w1 ⟨m, S1, rfl, M1⟩
  rw [F0.out] at M1
  clear PA
  go_wp2_with fail; refine (md_res (M1.quiet (by repeat (first | exact Keep.refl _ _ | refine Keep.alloc ?_ _))) 0 5 1 5 0 (i64_n (by omega)) (i64_n (by omega)) (i64_n (by omega)) (i64_n (by omega)) (i64_n (by omega)) 0 0 0 [(1, 10), (2, 20)] 0 0 y1 F0_0.out F0_1.out F0_2.out).mono ?_; rintro e w2 ⟨A2, q2, c2, S2, rfl, o2, n2, M2, k2⟩; clear o2 n2 k2 M1
  go_wp2_with fail; refine (md_res (M2.quiet (by repeat (first | exact Keep.refl _ _ | refine Keep.alloc ?_ _))) 1 3 1 0 99 (i64_n (by omega)) (i64_n (by omega)) (i64_n (by omega)) (i64_n (by omega)) (i64_n (by omega)) 0 0 0 [] 0 0 y2 F1_0.out F1_1.out F1_2.out).mono ?_; rintro e w3 ⟨A3, q3, c3, S3, rfl, o3, n3, M3, k3⟩; clear o3 n3 k3 M2
  go_wp2_with fail; refine (md_res (M3.quiet (by repeat (first | exact Keep.refl _ _ | refine Keep.alloc ?_ _))) 1 6 0 0 0 (i64_n (by omega)) (i64_n (by omega)) (i64_n (by omega)) (i64_n (by omega)) (i64_n (by omega)) 0 0 0 [] 3 0 y3 F2_0.out F2_1.out F2_2.out).mono ?_; rintro e w4 ⟨A4, q4, c4, S4, rfl, o4, n4, M4, k4⟩; clear o4 n4 k4 M3
  go_wp2_with fail; refine (md_res (M4.quiet (by repeat (first | exact Keep.refl _ _ | refine Keep.alloc ?_ _))) 0 6 0 0 0 (i64_n (by omega)) (i64_n (by omega)) (i64_n (by omega)) (i64_n (by omega)) (i64_n (by omega)) 0 14 0 [] 4 3 y4 F3_0.out F3_1.out F3_2.out).mono ?_; rintro e w5 ⟨A5, q5, c5, S5, rfl, o5, n5, M5, k5⟩; clear o5 n5 k5 M4
  go_wp2_with fail
  refine (awake19_any _).mono ?_
  rintro e wz ⟨rfl, bz⟩
  go_wp2
  go_ret
  exact ⟨rfl, M5.fin bz⟩
theorem chain220_0 : (⟨50, 100, [⟨1, 10, 0, 0, 2, 0, false⟩, ⟨2, 20, 0, 0, 2, 0, false⟩], ses [⟨2, 1, 0, 3, [], []⟩, ⟨3, 1, 0, 4, [], []⟩, tx0, tx0, tx0, tx0, tx0, tx0], 4, 3⟩ : MoI).doE 0 ⟨5, 1, 5, 0⟩ = 0 ∧ (⟨50, 100, [⟨1, 10, 0, 0, 2, 0, false⟩, ⟨2, 20, 0, 0, 2, 0, false⟩], ses [⟨2, 1, 0, 3, [], []⟩, ⟨3, 1, 0, 4, [], []⟩, tx0, tx0, tx0, tx0, tx0, tx0], 4, 3⟩ : MoI).doR 0 ⟨5, 1, 5, 0⟩ = ⟨0, 0, [(1, 10), (2, 20)], 0, 0⟩ ∧ (⟨50, 100, [⟨1, 10, 0, 0, 2, 0, false⟩, ⟨2, 20, 0, 0, 2, 0, false⟩], ses [⟨2, 1, 0, 3, [], []⟩, ⟨3, 1, 0, 4, [], []⟩, tx0, tx0, tx0, tx0, tx0, tx0], 4, 3⟩ : MoI).doM 0 ⟨5, 1, 5, 0⟩ = (⟨50, 100, [⟨1, 10, 0, 0, 2, 0, false⟩, ⟨2, 20, 0, 0, 2, 0, false⟩], ses [⟨2, 1, 1, 3, [], [⟨1, 5, false, true⟩]⟩, ⟨3, 1, 0, 4, [], []⟩, tx0, tx0, tx0, tx0, tx0, tx0], 4, 3⟩ : MoI) :=
  ⟨by rfl, by rfl, by exact MoI.ext rfl rfl rfl (ses_eq rfl rfl rfl rfl rfl rfl rfl rfl (fun _ => rfl)) rfl rfl⟩
theorem chain220_1 : (⟨50, 100, [⟨1, 10, 0, 0, 2, 0, false⟩, ⟨2, 20, 0, 0, 2, 0, false⟩], ses [⟨2, 1, 1, 3, [], [⟨1, 5, false, true⟩]⟩, ⟨3, 1, 0, 4, [], []⟩, tx0, tx0, tx0, tx0, tx0, tx0], 4, 3⟩ : MoI).doE 1 ⟨2, 3, 0, 99⟩ = 0 ∧ (⟨50, 100, [⟨1, 10, 0, 0, 2, 0, false⟩, ⟨2, 20, 0, 0, 2, 0, false⟩], ses [⟨2, 1, 1, 3, [], [⟨1, 5, false, true⟩]⟩, ⟨3, 1, 0, 4, [], []⟩, tx0, tx0, tx0, tx0, tx0, tx0], 4, 3⟩ : MoI).doR 1 ⟨2, 3, 0, 99⟩ = ⟨0, 0, [], 0, 0⟩ ∧ (⟨50, 100, [⟨1, 10, 0, 0, 2, 0, false⟩, ⟨2, 20, 0, 0, 2, 0, false⟩], ses [⟨2, 1, 1, 3, [], [⟨1, 5, false, true⟩]⟩, ⟨3, 1, 0, 4, [], []⟩, tx0, tx0, tx0, tx0, tx0, tx0], 4, 3⟩ : MoI).doM 1 ⟨2, 3, 0, 99⟩ = (⟨50, 100, [⟨1, 10, 0, 0, 2, 0, false⟩, ⟨2, 20, 0, 0, 2, 0, false⟩, ⟨3, 99, 3, 0, 0, 0, false⟩], ses [⟨2, 1, 1, 3, [], [⟨1, 5, false, true⟩]⟩, ⟨3, 1, 1, 4, [3], []⟩, tx0, tx0, tx0, tx0, tx0, tx0], 4, 3⟩ : MoI) :=
  ⟨by rfl, by rfl, by exact MoI.ext rfl rfl rfl (ses_eq rfl rfl rfl rfl rfl rfl rfl rfl (fun _ => rfl)) rfl rfl⟩
theorem chain220_2 : (⟨50, 100, [⟨1, 10, 0, 0, 2, 0, false⟩, ⟨2, 20, 0, 0, 2, 0, false⟩, ⟨3, 99, 3, 0, 0, 0, false⟩], ses [⟨2, 1, 1, 3, [], [⟨1, 5, false, true⟩]⟩, ⟨3, 1, 1, 4, [3], []⟩, tx0, tx0, tx0, tx0, tx0, tx0], 4, 3⟩ : MoI).doE 1 ⟨6, 0, 0, 0⟩ = 0 ∧ (⟨50, 100, [⟨1, 10, 0, 0, 2, 0, false⟩, ⟨2, 20, 0, 0, 2, 0, false⟩, ⟨3, 99, 3, 0, 0, 0, false⟩], ses [⟨2, 1, 1, 3, [], [⟨1, 5, false, true⟩]⟩, ⟨3, 1, 1, 4, [3], []⟩, tx0, tx0, tx0, tx0, tx0, tx0], 4, 3⟩ : MoI).doR 1 ⟨6, 0, 0, 0⟩ = ⟨0, 0, [], 3, 0⟩ ∧ (⟨50, 100, [⟨1, 10, 0, 0, 2, 0, false⟩, ⟨2, 20, 0, 0, 2, 0, false⟩, ⟨3, 99, 3, 0, 0, 0, false⟩], ses [⟨2, 1, 1, 3, [], [⟨1, 5, false, true⟩]⟩, ⟨3, 1, 1, 4, [3], []⟩, tx0, tx0, tx0, tx0, tx0, tx0], 4, 3⟩ : MoI).doM 1 ⟨6, 0, 0, 0⟩ = (⟨50, 100, [⟨1, 10, 0, 0, 2, 0, false⟩, ⟨2, 20, 0, 0, 2, 0, false⟩, ⟨3, 99, 0, 0, 5, 0, false⟩], ses [⟨2, 1, 1, 3, [], [⟨1, 5, false, true⟩]⟩, tx0, tx0, tx0, tx0, tx0, tx0, tx0], 5, 3⟩ : MoI) :=
  ⟨by rfl, by rfl, by exact MoI.ext rfl rfl rfl (ses_eq rfl rfl rfl rfl rfl rfl rfl rfl (fun _ => rfl)) rfl rfl⟩
theorem chain220_3 : (⟨50, 100, [⟨1, 10, 0, 0, 2, 0, false⟩, ⟨2, 20, 0, 0, 2, 0, false⟩, ⟨3, 99, 0, 0, 5, 0, false⟩], ses [⟨2, 1, 1, 3, [], [⟨1, 5, false, true⟩]⟩, tx0, tx0, tx0, tx0, tx0, tx0, tx0], 5, 3⟩ : MoI).doE 0 ⟨6, 0, 0, 0⟩ = 0 ∧ (⟨50, 100, [⟨1, 10, 0, 0, 2, 0, false⟩, ⟨2, 20, 0, 0, 2, 0, false⟩, ⟨3, 99, 0, 0, 5, 0, false⟩], ses [⟨2, 1, 1, 3, [], [⟨1, 5, false, true⟩]⟩, tx0, tx0, tx0, tx0, tx0, tx0, tx0], 5, 3⟩ : MoI).doR 0 ⟨6, 0, 0, 0⟩ = ⟨0, 0, [], 3, 0⟩ ∧ (⟨50, 100, [⟨1, 10, 0, 0, 2, 0, false⟩, ⟨2, 20, 0, 0, 2, 0, false⟩, ⟨3, 99, 0, 0, 5, 0, false⟩], ses [⟨2, 1, 1, 3, [], [⟨1, 5, false, true⟩]⟩, tx0, tx0, tx0, tx0, tx0, tx0, tx0], 5, 3⟩ : MoI).doM 0 ⟨6, 0, 0, 0⟩ = (⟨50, 100, [⟨1, 10, 0, 0, 2, 0, false⟩, ⟨2, 20, 0, 0, 2, 0, false⟩, ⟨3, 99, 0, 0, 5, 0, false⟩], ses [tx0, tx0, tx0, tx0, tx0, tx0, tx0, tx0], 6, 3⟩ : MoI) :=
  ⟨by rfl, by rfl, by exact MoI.ext rfl rfl rfl (ses_eq rfl rfl rfl rfl rfl rfl rfl rfl (fun _ => rfl)) rfl rfl⟩
theorem chain220 : ∃ y0 y1 y2 y3 y4 : MoI, pairM 1 1 = y0 ∧ y0.doE 0 ⟨5, 1, 5, 0⟩ = 0 ∧ y0.doR 0 ⟨5, 1, 5, 0⟩ = ⟨0, 0, [(1, 10), (2, 20)], 0, 0⟩ ∧ y0.doM 0 ⟨5, 1, 5, 0⟩ = y1 ∧ y1.doE 1 ⟨2, 3, 0, 99⟩ = 0 ∧ y1.doR 1 ⟨2, 3, 0, 99⟩ = ⟨0, 0, [], 0, 0⟩ ∧ y1.doM 1 ⟨2, 3, 0, 99⟩ = y2 ∧ y2.doE 1 ⟨6, 0, 0, 0⟩ = 0 ∧ y2.doR 1 ⟨6, 0, 0, 0⟩ = ⟨0, 0, [], 3, 0⟩ ∧ y2.doM 1 ⟨6, 0, 0, 0⟩ = y3 ∧ y3.doE 0 ⟨6, 0, 0, 0⟩ = 0 ∧ y3.doR 0 ⟨6, 0, 0, 0⟩ = ⟨0, 0, [], 3, 0⟩ ∧ y3.doM 0 ⟨6, 0, 0, 0⟩ = y4 :=
  ⟨⟨50, 100, [⟨1, 10, 0, 0, 2, 0, false⟩, ⟨2, 20, 0, 0, 2, 0, false⟩], ses [⟨2, 1, 0, 3, [], []⟩, ⟨3, 1, 0, 4, [], []⟩, tx0, tx0, tx0, tx0, tx0, tx0], 4, 3⟩,
    ⟨50, 100, [⟨1, 10, 0, 0, 2, 0, false⟩, ⟨2, 20, 0, 0, 2, 0, false⟩], ses [⟨2, 1, 1, 3, [], [⟨1, 5, false, true⟩]⟩, ⟨3, 1, 0, 4, [], []⟩, tx0, tx0, tx0, tx0, tx0, tx0], 4, 3⟩,
    ⟨50, 100, [⟨1, 10, 0, 0, 2, 0, false⟩, ⟨2, 20, 0, 0, 2, 0, false⟩, ⟨3, 99, 3, 0, 0, 0, false⟩], ses [⟨2, 1, 1, 3, [], [⟨1, 5, false, true⟩]⟩, ⟨3, 1, 1, 4, [3], []⟩, tx0, tx0, tx0, tx0, tx0, tx0], 4, 3⟩,
    ⟨50, 100, [⟨1, 10, 0, 0, 2, 0, false⟩, ⟨2, 20, 0, 0, 2, 0, false⟩, ⟨3, 99, 0, 0, 5, 0, false⟩], ses [⟨2, 1, 1, 3, [], [⟨1, 5, false, true⟩]⟩, tx0, tx0, tx0, tx0, tx0, tx0, tx0], 5, 3⟩,
    ⟨50, 100, [⟨1, 10, 0, 0, 2, 0, false⟩, ⟨2, 20, 0, 0, 2, 0, false⟩, ⟨3, 99, 0, 0, 5, 0, false⟩], ses [tx0, tx0, tx0, tx0, tx0, tx0, tx0, tx0], 6, 3⟩, pair_lit (by omega) (by omega), (chain220_0 ).1, (chain220_0 ).2.1, (chain220_0 ).2.2, (chain220_1 ).1, (chain220_1 ).2.1, (chain220_1 ).2.2, (chain220_2 ).1, (chain220_2 ).2.1, (chain220_2 ).2.2, (chain220_3 ).1, (chain220_3 ).2.1, (chain220_3 ).2.2⟩
set_option maxRecDepth 100000 in
set_option maxHeartbeats 16000000 in
theorem way_2_2_0 (a0 a1 a2 : Int) (w : World) (hm1 : a1 % 256 % 3 = 2) (hm2 : a2 % 256 % 3 = 2) (hm0 : a0 % 256 % 3 = 0) :
    Calls Try.prog 4 #[.int .i64 a0, .int .i64 a1, .int .i64 a2] w fun e w' => e = .returned (.bool true) ∧ Below w.heap.size w w' := by
  obtain ⟨q1, h1, e1, f1, l1, l1', p1, p1', w10, w11⟩ := levN a1 3 2 (by decide) (by decide) hm1
  obtain ⟨q2, h2, e2, f2, l2, l2', p2, p2', w20, w21⟩ := levN a2 3 2 (by decide) (by decide) hm2
  obtain ⟨q0, h0, e0, f0, l0, l0', p0, p0', w00, w01⟩ := levN a0 3 0 (by decide) (by decide) hm0
  have PA := pair_any 1 1 (by omega) (by omega) w
  clear w10 w11 w20 w21
  obtain ⟨y0, y1, y2, y3, y4, f0, f0_0, f0_1, f0_2, f1_0, f1_1, f1_2, f2_0, f2_1, f2_2, f3_0, f3_1, f3_2⟩ := chain220 
  have F0_0 := Lib.hid f0_0; have F0_1 := Lib.hid f0_1; have F0_2 := Lib.hid f0_2; have F1_0 := Lib.hid f1_0; have F1_1 := Lib.hid f1_1; have F1_2 := Lib.hid f1_2; have F2_0 := Lib.hid f2_0; have F2_1 := Lib.hid f2_1; have F2_2 := Lib.hid f2_2; have F3_0 := Lib.hid f3_0; have F3_1 := Lib.hid f3_1; have F3_2 := Lib.hid f3_2
  have F0 := Lib.hid f0
  clear f0 f0_0 f0_1 f0_2 f1_0 f1_1 f1_2 f2_0 f2_1 f2_2 f3_0 f3_1 f3_2
  go_enter Try.func4, Try.ntmps4
  go_wp2_with fail
  refine PA.mono ?_
  rintro e w1 ⟨m, S1, rfl, M1⟩
  rw [F0.out] at M1
  clear PA
  go_wp2_with fail; refine (md_res (M1.quiet (by repeat (first | exact Keep.refl _ _ | refine Keep.alloc ?_ _))) 0 5 1 5 0 (i64_n (by omega)) (i64_n (by omega)) (i64_n (by omega)) (i64_n (by omega)) (i64_n (by omega)) 0 0 0 [(1, 10), (2, 20)] 0 0 y1 F0_0.out F0_1.out F0_2.out).mono ?_; rintro e w2 ⟨A2, q2, c2, S2, rfl, o2, n2, M2, k2⟩; clear o2 n2 k2 M1
  go_wp2_with fail; refine (md_res (M2.quiet (by repeat (first | exact Keep.refl _ _ | refine Keep.alloc ?_ _))) 1 2 3 0 99 (i64_n (by omega)) (i64_n (by omega)) (i64_n (by omega)) (i64_n (by omega)) (i64_n (by omega)) 0 0 0 [] 0 0 y2 F1_0.out F1_1.out F1_2.out).mono ?_; rintro e w3 ⟨A3, q3, c3, S3, rfl, o3, n3, M3, k3⟩; clear o3 n3 k3 M2
  go_wp2_with fail; refine (md_res (M3.quiet (by repeat (first | exact Keep.refl _ _ | refine Keep.alloc ?_ _))) 1 6 0 0 0 (i64_n (by omega)) (i64_n (by omega)) (i64_n (by omega)) (i64_n (by omega)) (i64_n (by omega)) 0 0 0 [] 3 0 y3 F2_0.out F2_1.out F2_2.out).mono ?_; rintro e w4 ⟨A4, q4, c4, S4, rfl, o4, n4, M4, k4⟩; clear o4 n4 k4 M3
  go_wp2_with fail; refine (md_res (M4.quiet (by repeat (first | exact Keep.refl _ _ | refine Keep.alloc ?_ _))) 0 6 0 0 0 (i64_n (by omega)) (i64_n (by omega)) (i64_n (by omega)) (i64_n (by omega)) (i64_n (by omega)) 0 0 0 [] 3 0 y4 F3_0.out F3_1.out F3_2.out).mono ?_; rintro e w5 ⟨A5, q5, c5, S5, rfl, o5, n5, M5, k5⟩; clear o5 n5 k5 M4
  go_wp2_with fail
  refine (awake19_any _).mono ?_
  rintro e wz ⟨rfl, bz⟩
  go_wp2
  go_ret
  exact ⟨rfl, M5.fin bz⟩
end Go.Proofs.Ytkkjofefjepodaa.modelJudges
