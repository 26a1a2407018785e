/- Proved here: vinculumlaw19.ModelJudges returns true and leaves its arguments as they were, for any three ints; no further condition. -/
import Derived.Test.YtkkjofefjepodaaMdA
import Derived.ChangeOld
import Derived.Test.YtkkjofefjepodaaModelJudgesC
import Derived.Test.YtkkjofefjepodaaModelJudgesD
namespace Go.Proofs.Ytkkjofefjepodaa.modelJudges
open Go.ChangeShapes Go.WideShapes Go.ChangeAt Go.RowKit
set_option linter.unusedVariables false
theorem chain001_0 : (⟨50, 100, [⟨1, 10, 0, 0, 2, 0, false⟩, ⟨2, 20, 0, 0, 2, 0, false⟩], ses [⟨2, 2, 0, 3, [], []⟩, ⟨3, 1, 0, 4, [], []⟩, tx0, tx0, tx0, tx0, tx0, tx0], 4, 3⟩ : MoI).doE 0 ⟨1, 1, 0, 0⟩ = 0 ∧ (⟨50, 100, [⟨1, 10, 0, 0, 2, 0, false⟩, ⟨2, 20, 0, 0, 2, 0, false⟩], ses [⟨2, 2, 0, 3, [], []⟩, ⟨3, 1, 0, 4, [], []⟩, tx0, tx0, tx0, tx0, tx0, tx0], 4, 3⟩ : MoI).doR 0 ⟨1, 1, 0, 0⟩ = ⟨0, 10, [], 0, 0⟩ ∧ (⟨50, 100, [⟨1, 10, 0, 0, 2, 0, false⟩, ⟨2, 20, 0, 0, 2, 0, false⟩], ses [⟨2, 2, 0, 3, [], []⟩, ⟨3, 1, 0, 4, [], []⟩, tx0, tx0, tx0, tx0, tx0, tx0], 4, 3⟩ : MoI).doM 0 ⟨1, 1, 0, 0⟩ = (⟨50, 100, [⟨1, 10, 0, 0, 2, 0, false⟩, ⟨2, 20, 0, 0, 2, 0, false⟩], ses [⟨2, 2, 1, 3, [], [⟨1, 1, true, false⟩]⟩, ⟨3, 1, 0, 4, [], []⟩, tx0, tx0, tx0, tx0, tx0, tx0], 4, 3⟩ : MoI) :=
  ⟨by rfl, by rfl, by exact MoI.ext rfl rfl rfl (ses_eq rfl rfl rfl rfl rfl rfl rfl rfl (fun _ => rfl)) rfl rfl⟩
theorem chain001_1 : (⟨50, 100, [⟨1, 10, 0, 0, 2, 0, false⟩, ⟨2, 20, 0, 0, 2, 0, false⟩], ses [⟨2, 2, 1, 3, [], [⟨1, 1, true, false⟩]⟩, ⟨3, 1, 0, 4, [], []⟩, tx0, tx0, tx0, tx0, tx0, tx0], 4, 3⟩ : MoI).doE 1 ⟨3, 1, 0, 99⟩ = 0 ∧ (⟨50, 100, [⟨1, 10, 0, 0, 2, 0, false⟩, ⟨2, 20, 0, 0, 2, 0, false⟩], ses [⟨2, 2, 1, 3, [], [⟨1, 1, true, false⟩]⟩, ⟨3, 1, 0, 4, [], []⟩, tx0, tx0, tx0, tx0, tx0, tx0], 4, 3⟩ : MoI).doR 1 ⟨3, 1, 0, 99⟩ = ⟨0, 0, [], 0, 0⟩ ∧ (⟨50, 100, [⟨1, 10, 0, 0, 2, 0, false⟩, ⟨2, 20, 0, 0, 2, 0, false⟩], ses [⟨2, 2, 1, 3, [], [⟨1, 1, true, false⟩]⟩, ⟨3, 1, 0, 4, [], []⟩, tx0, tx0, tx0, tx0, tx0, tx0], 4, 3⟩ : MoI).doM 1 ⟨3, 1, 0, 99⟩ = (⟨50, 100, [⟨1, 10, 0, 3, 2, 0, false⟩, ⟨2, 20, 0, 0, 2, 0, false⟩, ⟨1, 99, 3, 0, 0, 0, false⟩], ses [⟨2, 2, 1, 3, [], [⟨1, 1, true, false⟩]⟩, ⟨3, 1, 1, 4, [1], []⟩, tx0, tx0, tx0, tx0, tx0, tx0], 4, 3⟩ : MoI) :=
  ⟨by rfl, by rfl, by exact MoI.ext rfl rfl rfl (ses_eq rfl rfl rfl rfl rfl rfl rfl rfl (fun _ => rfl)) rfl rfl⟩
theorem chain001_2 : (⟨50, 100, [⟨1, 10, 0, 3, 2, 0, false⟩, ⟨2, 20, 0, 0, 2, 0, false⟩, ⟨1, 99, 3, 0, 0, 0, false⟩], ses [⟨2, 2, 1, 3, [], [⟨1, 1, true, false⟩]⟩, ⟨3, 1, 1, 4, [1], []⟩, tx0, tx0, tx0, tx0, tx0, tx0], 4, 3⟩ : MoI).doE 1 ⟨6, 0, 0, 0⟩ = 0 ∧ (⟨50, 100, [⟨1, 10, 0, 3, 2, 0, false⟩, ⟨2, 20, 0, 0, 2, 0, false⟩, ⟨1, 99, 3, 0, 0, 0, false⟩], ses [⟨2, 2, 1, 3, [], [⟨1, 1, true, false⟩]⟩, ⟨3, 1, 1, 4, [1], []⟩, tx0, tx0, tx0, tx0, tx0, tx0], 4, 3⟩ : MoI).doR 1 ⟨6, 0, 0, 0⟩ = ⟨0, 0, [], 3, 0⟩ ∧ (⟨50, 100, [⟨1, 10, 0, 3, 2, 0, false⟩, ⟨2, 20, 0, 0, 2, 0, false⟩, ⟨1, 99, 3, 0, 0, 0, false⟩], ses [⟨2, 2, 1, 3, [], [⟨1, 1, true, false⟩]⟩, ⟨3, 1, 1, 4, [1], []⟩, tx0, tx0, tx0, tx0, tx0, tx0], 4, 3⟩ : MoI).doM 1 ⟨6, 0, 0, 0⟩ = (⟨50, 100, [⟨1, 10, 0, 0, 2, 5, false⟩, ⟨2, 20, 0, 0, 2, 0, false⟩, ⟨1, 99, 0, 0, 5, 0, false⟩], ses [⟨2, 2, 1, 3, [], [⟨1, 1, true, false⟩]⟩, tx0, tx0, tx0, tx0, tx0, tx0, tx0], 5, 3⟩ : MoI) :=
  ⟨by rfl, by rfl, by exact MoI.ext rfl rfl rfl (ses_eq rfl rfl rfl rfl rfl rfl rfl rfl (fun _ => rfl)) rfl rfl⟩
theorem chain001_3 : (⟨50, 100, [⟨1, 10, 0, 0, 2, 5, false⟩, ⟨2, 20, 0, 0, 2, 0, false⟩, ⟨1, 99, 0, 0, 5, 0, false⟩], ses [⟨2, 2, 1, 3, [], [⟨1, 1, true, false⟩]⟩, tx0, tx0, tx0, tx0, tx0, tx0, tx0], 5, 3⟩ : MoI).doE 0 ⟨6, 0, 0, 0⟩ = 0 ∧ (⟨50, 100, [⟨1, 10, 0, 0, 2, 5, false⟩, ⟨2, 20, 0, 0, 2, 0, false⟩, ⟨1, 99, 0, 0, 5, 0, false⟩], ses [⟨2, 2, 1, 3, [], [⟨1, 1, true, false⟩]⟩, tx0, tx0, tx0, tx0, tx0, tx0, tx0], 5, 3⟩ : MoI).doR 0 ⟨6, 0, 0, 0⟩ = ⟨14, 0, [], 4, 3⟩ ∧ (⟨50, 100, [⟨1, 10, 0, 0, 2, 5, false⟩, ⟨2, 20, 0, 0, 2, 0, false⟩, ⟨1, 99, 0, 0, 5, 0, false⟩], ses [⟨2, 2, 1, 3, [], [⟨1, 1, true, false⟩]⟩, tx0, tx0, tx0, tx0, tx0, tx0, tx0], 5, 3⟩ : MoI).doM 0 ⟨6, 0, 0, 0⟩ = (⟨50, 100, [⟨1, 10, 0, 0, 2, 5, false⟩, ⟨2, 20, 0, 0, 2, 0, false⟩, ⟨1, 99, 0, 0, 5, 0, false⟩], ses [tx0, tx0, tx0, tx0, tx0, tx0, tx0, tx0], 6, 3⟩ : MoI) :=
  ⟨by rfl, by rfl, by exact MoI.ext rfl rfl rfl (ses_eq rfl rfl rfl rfl rfl rfl rfl rfl (fun _ => rfl)) rfl rfl⟩
theorem chain001 : ∃ y0 y1 y2 y3 y4 : MoI, pairM 2 1 = y0 ∧ y0.doE 0 ⟨1, 1, 0, 0⟩ = 0 ∧ y0.doR 0 ⟨1, 1, 0, 0⟩ = ⟨0, 10, [], 0, 0⟩ ∧ y0.doM 0 ⟨1, 1, 0, 0⟩ = y1 ∧ y1.doE 1 ⟨3, 1, 0, 99⟩ = 0 ∧ y1.doR 1 ⟨3, 1, 0, 99⟩ = ⟨0, 0, [], 0, 0⟩ ∧ y1.doM 1 ⟨3, 1, 0, 99⟩ = y2 ∧ y2.doE 1 ⟨6, 0, 0, 0⟩ = 0 ∧ y2.doR 1 ⟨6, 0, 0, 0⟩ = ⟨0, 0, [], 3, 0⟩ ∧ y2.doM 1 ⟨6, 0, 0, 0⟩ = y3 ∧ y3.doE 0 ⟨6, 0, 0, 0⟩ = 0 ∧ y3.doR 0 ⟨6, 0, 0, 0⟩ = ⟨14, 0, [], 4, 3⟩ ∧ y3.doM 0 ⟨6, 0, 0, 0⟩ = y4 :=
  ⟨⟨50, 100, [⟨1, 10, 0, 0, 2, 0, false⟩, ⟨2, 20, 0, 0, 2, 0, false⟩], ses [⟨2, 2, 0, 3, [], []⟩, ⟨3, 1, 0, 4, [], []⟩, tx0, tx0, tx0, tx0, tx0, tx0], 4, 3⟩,
    ⟨50, 100, [⟨1, 10, 0, 0, 2, 0, false⟩, ⟨2, 20, 0, 0, 2, 0, false⟩], ses [⟨2, 2, 1, 3, [], [⟨1, 1, true, false⟩]⟩, ⟨3, 1, 0, 4, [], []⟩, tx0, tx0, tx0, tx0, tx0, tx0], 4, 3⟩,
    ⟨50, 100, [⟨1, 10, 0, 3, 2, 0, false⟩, ⟨2, 20, 0, 0, 2, 0, false⟩, ⟨1, 99, 3, 0, 0, 0, false⟩], ses [⟨2, 2, 1, 3, [], [⟨1, 1, true, false⟩]⟩, ⟨3, 1, 1, 4, [1], []⟩, tx0, tx0, tx0, tx0, tx0, tx0], 4, 3⟩,
    ⟨50, 100, [⟨1, 10, 0, 0, 2, 5, false⟩, ⟨2, 20, 0, 0, 2, 0, false⟩, ⟨1, 99, 0, 0, 5, 0, false⟩], ses [⟨2, 2, 1, 3, [], [⟨1, 1, true, false⟩]⟩, tx0, tx0, tx0, tx0, tx0, tx0, tx0], 5, 3⟩,
    ⟨50, 100, [⟨1, 10, 0, 0, 2, 5, false⟩, ⟨2, 20, 0, 0, 2, 0, false⟩, ⟨1, 99, 0, 0, 5, 0, false⟩], ses [tx0, tx0, tx0, tx0, tx0, tx0, tx0, tx0], 6, 3⟩, pair_lit (by omega) (by omega), (chain001_0 ).1, (chain001_0 ).2.1, (chain001_0 ).2.2, (chain001_1 ).1, (chain001_1 ).2.1, (chain001_1 ).2.2, (chain001_2 ).1, (chain001_2 ).2.1, (chain001_2 ).2.2, (chain001_3 ).1, (chain001_3 ).2.1, (chain001_3 ).2.2⟩
set_option maxRecDepth 100000 in
set_option maxHeartbeats 16000000 in
theorem way_0_0_1 (a0 a1 a2 : Int) (w : World) (hm1 : a1 % 256 % 3 = 0) (hm2 : a2 % 256 % 3 = 0) (hm0 : a0 % 256 % 3 = 1) :
    Calls Try.prog 4 #[.int .i64 a0, .int .i64 a1, .int .i64 a2] w fun e w' => e = .returned (.bool true) ∧ Below w.heap.size w w' := by
  obtain ⟨q1, h1, e1, f1, l1, l1', p1, p1', w10, w11⟩ := levN a1 3 0 (by decide) (by decide) hm1
  obtain ⟨q2, h2, e2, f2, l2, l2', p2, p2', w20, w21⟩ := levN a2 3 0 (by decide) (by decide) hm2
  obtain ⟨q0, h0, e0, f0, l0, l0', p0, p0', w00, w01⟩ := levN a0 3 1 (by decide) (by decide) hm0
  have PA := pair_any 2 1 (by omega) (by omega) w
  clear w10 w11 w20 w21
  obtain ⟨y0, y1, y2, y3, y4, f0, f0_0, f0_1, f0_2, f1_0, f1_1, f1_2, f2_0, f2_1, f2_2, f3_0, f3_1, f3_2⟩ := chain001 
  have F0_0 := Lib.hid f0_0; have F0_1 := Lib.hid f0_1; have F0_2 := Lib.hid f0_2; have F1_0 := Lib.hid f1_0; have F1_1 := Lib.hid f1_1; have F1_2 := Lib.hid f1_2; have F2_0 := Lib.hid f2_0; have F2_1 := Lib.hid f2_1; have F2_2 := Lib.hid f2_2; have F3_0 := Lib.hid f3_0; have F3_1 := Lib.hid f3_1; have F3_2 := Lib.hid f3_2
  have F0 := Lib.hid f0
  clear f0 f0_0 f0_1 f0_2 f1_0 f1_1 f1_2 f2_0 f2_1 f2_2 f3_0 f3_1 f3_2
  go_enter Try.func4, Try.ntmps4
  go_wp2_with fail
  refine PA.mono ?_
  rintro e w1 ⟨m, S1, rfl, M1⟩
  rw [F0.out] at M1
  clear PA
  go_wp2_with fail; refine (md_res (M1.quiet (by repeat (first | exact Keep.refl _ _ | refine Keep.alloc ?_ _))) 0 1 1 0 0 (i64_n (by omega)) (i64_n (by omega)) (i64_n (by omega)) (i64_n (by omega)) (i64_n (by omega)) 0 0 10 [] 0 0 y1 F0_0.out F0_1.out F0_2.out).mono ?_; rintro e w2 ⟨A2, q2, c2, S2, rfl, o2, n2, M2, k2⟩; clear o2 n2 k2 M1
  go_wp2_with fail; refine (md_res (M2.quiet (by repeat (first | exact Keep.refl _ _ | refine Keep.alloc ?_ _))) 1 3 1 0 99 (i64_n (by omega)) (i64_n (by omega)) (i64_n (by omega)) (i64_n (by omega)) (i64_n (by omega)) 0 0 0 [] 0 0 y2 F1_0.out F1_1.out F1_2.out).mono ?_; rintro e w3 ⟨A3, q3, c3, S3, rfl, o3, n3, M3, k3⟩; clear o3 n3 k3 M2
  go_wp2_with fail; refine (md_res (M3.quiet (by repeat (first | exact Keep.refl _ _ | refine Keep.alloc ?_ _))) 1 6 0 0 0 (i64_n (by omega)) (i64_n (by omega)) (i64_n (by omega)) (i64_n (by omega)) (i64_n (by omega)) 0 0 0 [] 3 0 y3 F2_0.out F2_1.out F2_2.out).mono ?_; rintro e w4 ⟨A4, q4, c4, S4, rfl, o4, n4, M4, k4⟩; clear o4 n4 k4 M3
  go_wp2_with fail; refine (md_res (M4.quiet (by repeat (first | exact Keep.refl _ _ | refine Keep.alloc ?_ _))) 0 6 0 0 0 (i64_n (by omega)) (i64_n (by omega)) (i64_n (by omega)) (i64_n (by omega)) (i64_n (by omega)) 0 14 0 [] 4 3 y4 F3_0.out F3_1.out F3_2.out).mono ?_; rintro e w5 ⟨A5, q5, c5, S5, rfl, o5, n5, M5, k5⟩; clear o5 n5 k5 M4
  go_wp2_with fail
  refine (awake19_any _).mono ?_
  rintro e wz ⟨rfl, bz⟩
  go_wp2
  go_ret
  exact ⟨rfl, M5.fin bz⟩
theorem chain012_0 : (⟨50, 100, [⟨1, 10, 0, 0, 2, 0, false⟩, ⟨2, 20, 0, 0, 2, 0, false⟩], ses [⟨2, 3, 0, 3, [], []⟩, ⟨3, 1, 0, 4, [], []⟩, tx0, tx0, tx0, tx0, tx0, tx0], 4, 3⟩ : MoI).doE 0 ⟨1, 1, 0, 0⟩ = 0 ∧ (⟨50, 100, [⟨1, 10, 0, 0, 2, 0, false⟩, ⟨2, 20, 0, 0, 2, 0, false⟩], ses [⟨2, 3, 0, 3, [], []⟩, ⟨3, 1, 0, 4, [], []⟩, tx0, tx0, tx0, tx0, tx0, tx0], 4, 3⟩ : MoI).doR 0 ⟨1, 1, 0, 0⟩ = ⟨0, 10, [], 0, 0⟩ ∧ (⟨50, 100, [⟨1, 10, 0, 0, 2, 0, false⟩, ⟨2, 20, 0, 0, 2, 0, false⟩], ses [⟨2, 3, 0, 3, [], []⟩, ⟨3, 1, 0, 4, [], []⟩, tx0, tx0, tx0, tx0, tx0, tx0], 4, 3⟩ : MoI).doM 0 ⟨1, 1, 0, 0⟩ = (⟨50, 100, [⟨1, 10, 0, 0, 2, 0, false⟩, ⟨2, 20, 0, 0, 2, 0, false⟩], ses [⟨2, 3, 1, 3, [], [⟨1, 1, true, false⟩]⟩, ⟨3, 1, 0, 4, [], []⟩, tx0, tx0, tx0, tx0, tx0, tx0], 4, 3⟩ : MoI) :=
  ⟨by rfl, by rfl, by exact MoI.ext rfl rfl rfl (ses_eq rfl rfl rfl rfl rfl rfl rfl rfl (fun _ => rfl)) rfl rfl⟩
theorem chain012_1 : (⟨50, 100, [⟨1, 10, 0, 0, 2, 0, false⟩, ⟨2, 20, 0, 0, 2, 0, false⟩], ses [⟨2, 3, 1, 3, [], [⟨1, 1, true, false⟩]⟩, ⟨3, 1, 0, 4, [], []⟩, tx0, tx0, tx0, tx0, tx0, tx0], 4, 3⟩ : MoI).doE 1 ⟨4, 1, 0, 0⟩ = 0 ∧ (⟨50, 100, [⟨1, 10, 0, 0, 2, 0, false⟩, ⟨2, 20, 0, 0, 2, 0, false⟩], ses [⟨2, 3, 1, 3, [], [⟨1, 1, true, false⟩]⟩, ⟨3, 1, 0, 4, [], []⟩, tx0, tx0, tx0, tx0, tx0, tx0], 4, 3⟩ : MoI).doR 1 ⟨4, 1, 0, 0⟩ = ⟨0, 0, [], 0, 0⟩ ∧ (⟨50, 100, [⟨1, 10, 0, 0, 2, 0, false⟩, ⟨2, 20, 0, 0, 2, 0, false⟩], ses [⟨2, 3, 1, 3, [], [⟨1, 1, true, false⟩]⟩, ⟨3, 1, 0, 4, [], []⟩, tx0, tx0, tx0, tx0, tx0, tx0], 4, 3⟩ : MoI).doM 1 ⟨4, 1, 0, 0⟩ = (⟨50, 100, [⟨1, 10, 0, 3, 2, 0, false⟩, ⟨2, 20, 0, 0, 2, 0, false⟩], ses [⟨2, 3, 1, 3, [], [⟨1, 1, true, false⟩]⟩, ⟨3, 1, 1, 4, [1], []⟩, tx0, tx0, tx0, tx0, tx0, tx0], 4, 3⟩ : MoI) :=
  ⟨by rfl, by rfl, by exact MoI.ext rfl rfl rfl (ses_eq rfl rfl rfl rfl rfl rfl rfl rfl (fun _ => rfl)) rfl rfl⟩
theorem chain012_2 : (⟨50, 100, [⟨1, 10, 0, 3, 2, 0, false⟩, ⟨2, 20, 0, 0, 2, 0, false⟩], ses [⟨2, 3, 1, 3, [], [⟨1, 1, true, false⟩]⟩, ⟨3, 1, 1, 4, [1], []⟩, tx0, tx0, tx0, tx0, tx0, tx0], 4, 3⟩ : MoI).doE 1 ⟨6, 0, 0, 0⟩ = 0 ∧ (⟨50, 100, [⟨1, 10, 0, 3, 2, 0, false⟩, ⟨2, 20, 0, 0, 2, 0, false⟩], ses [⟨2, 3, 1, 3, [], [⟨1, 1, true, false⟩]⟩, ⟨3, 1, 1, 4, [1], []⟩, tx0, tx0, tx0, tx0, tx0, tx0], 4, 3⟩ : MoI).doR 1 ⟨6, 0, 0, 0⟩ = ⟨0, 0, [], 3, 0⟩ ∧ (⟨50, 100, [⟨1, 10, 0, 3, 2, 0, false⟩, ⟨2, 20, 0, 0, 2, 0, false⟩], ses [⟨2, 3, 1, 3, [], [⟨1, 1, true, false⟩]⟩, ⟨3, 1, 1, 4, [1], []⟩, tx0, tx0, tx0, tx0, tx0, tx0], 4, 3⟩ : MoI).doM 1 ⟨6, 0, 0, 0⟩ = (⟨50, 100, [⟨1, 10, 0, 0, 2, 5, false⟩, ⟨2, 20, 0, 0, 2, 0, false⟩], ses [⟨2, 3, 1, 3, [], [⟨1, 1, true, false⟩]⟩, tx0, tx0, tx0, tx0, tx0, tx0, tx0], 5, 3⟩ : MoI) :=
  ⟨by rfl, by rfl, by exact MoI.ext rfl rfl rfl (ses_eq rfl rfl rfl rfl rfl rfl rfl rfl (fun _ => rfl)) rfl rfl⟩
theorem chain012_3 : (⟨50, 100, [⟨1, 10, 0, 0, 2, 5, false⟩, ⟨2, 20, 0, 0, 2, 0, false⟩], ses [⟨2, 3, 1, 3, [], [⟨1, 1, true, false⟩]⟩, tx0, tx0, tx0, tx0, tx0, tx0, tx0], 5, 3⟩ : MoI).doE 0 ⟨6, 0, 0, 0⟩ = 0 ∧ (⟨50, 100, [⟨1, 10, 0, 0, 2, 5, false⟩, ⟨2, 20, 0, 0, 2, 0, false⟩], ses [⟨2, 3, 1, 3, [], [⟨1, 1, true, false⟩]⟩, tx0, tx0, tx0, tx0, tx0, tx0, tx0], 5, 3⟩ : MoI).doR 0 ⟨6, 0, 0, 0⟩ = ⟨14, 0, [], 4, 3⟩ ∧ (⟨50, 100, [⟨1, 10, 0, 0, 2, 5, false⟩, ⟨2, 20, 0, 0, 2, 0, false⟩], ses [⟨2, 3, 1, 3, [], [⟨1, 1, true, false⟩]⟩, tx0, tx0, tx0, tx0, tx0, tx0, tx0], 5, 3⟩ : MoI).doM 0 ⟨6, 0, 0, 0⟩ = (⟨50, 100, [⟨1, 10, 0, 0, 2, 5, false⟩, ⟨2, 20, 0, 0, 2, 0, false⟩], ses [tx0, tx0, tx0, tx0, tx0, tx0, tx0, tx0], 6, 3⟩ : MoI) :=
  ⟨by rfl, by rfl, by exact MoI.ext rfl rfl rfl (ses_eq rfl rfl rfl rfl rfl rfl rfl rfl (fun _ => rfl)) rfl rfl⟩
theorem chain012 : ∃ y0 y1 y2 y3 y4 : MoI, pairM 3 1 = y0 ∧ y0.doE 0 ⟨1, 1, 0, 0⟩ = 0 ∧ y0.doR 0 ⟨1, 1, 0, 0⟩ = ⟨0, 10, [], 0, 0⟩ ∧ y0.doM 0 ⟨1, 1, 0, 0⟩ = y1 ∧ y1.doE 1 ⟨4, 1, 0, 0⟩ = 0 ∧ y1.doR 1 ⟨4, 1, 0, 0⟩ = ⟨0, 0, [], 0, 0⟩ ∧ y1.doM 1 ⟨4, 1, 0, 0⟩ = y2 ∧ y2.doE 1 ⟨6, 0, 0, 0⟩ = 0 ∧ y2.doR 1 ⟨6, 0, 0, 0⟩ = ⟨0, 0, [], 3, 0⟩ ∧ y2.doM 1 ⟨6, 0, 0, 0⟩ = y3 ∧ y3.doE 0 ⟨6, 0, 0, 0⟩ = 0 ∧ y3.doR 0 ⟨6, 0, 0, 0⟩ = ⟨14, 0, [], 4, 3⟩ ∧ y3.doM 0 ⟨6, 0, 0, 0⟩ = y4 :=
  ⟨⟨50, 100, [⟨1, 10, 0, 0, 2, 0, false⟩, ⟨2, 20, 0, 0, 2, 0, false⟩], ses [⟨2, 3, 0, 3, [], []⟩, ⟨3, 1, 0, 4, [], []⟩, tx0, tx0, tx0, tx0, tx0, tx0], 4, 3⟩,
    ⟨50, 100, [⟨1, 10, 0, 0, 2, 0, false⟩, ⟨2, 20, 0, 0, 2, 0, false⟩], ses [⟨2, 3, 1, 3, [], [⟨1, 1, true, false⟩]⟩, ⟨3, 1, 0, 4, [], []⟩, tx0, tx0, tx0, tx0, tx0, tx0], 4, 3⟩,
    ⟨50, 100, [⟨1, 10, 0, 3, 2, 0, false⟩, ⟨2, 20, 0, 0, 2, 0, false⟩], ses [⟨2, 3, 1, 3, [], [⟨1, 1, true, false⟩]⟩, ⟨3, 1, 1, 4, [1], []⟩, tx0, tx0, tx0, tx0, tx0, tx0], 4, 3⟩,
    ⟨50, 100, [⟨1, 10, 0, 0, 2, 5, false⟩, ⟨2, 20, 0, 0, 2, 0, false⟩], ses [⟨2, 3, 1, 3, [], [⟨1, 1, true, false⟩]⟩, tx0, tx0, tx0, tx0, tx0, tx0, tx0], 5, 3⟩,
    ⟨50, 100, [⟨1, 10, 0, 0, 2, 5, false⟩, ⟨2, 20, 0, 0, 2, 0, false⟩], ses [tx0, tx0, tx0, tx0, tx0, tx0, tx0, tx0], 6, 3⟩, pair_lit (by omega) (by omega), (chain012_0 ).1, (chain012_0 ).2.1, (chain012_0 ).2.2, (chain012_1 ).1, (chain012_1 ).2.1, (chain012_1 ).2.2, (chain012_2 ).1, (chain012_2 ).2.1, (chain012_2 ).2.2, (chain012_3 ).1, (chain012_3 ).2.1, (chain012_3 ).2.2⟩
set_option maxRecDepth 100000 in
set_option maxHeartbeats 16000000 in
theorem way_0_1_2 (a0 a1 a2 : Int) (w : World) (hm1 : a1 % 256 % 3 = 0) (hm2 : a2 % 256 % 3 = 1) (hm0 : a0 % 256 % 3 = 2) :
    Calls Try.prog 4 #[.int .i64 a0, .int .i64 a1, .int .i64 a2] w fun e w' => e = .returned (.bool true) ∧ Below w.heap.size w w' := by
  obtain ⟨q1, h1, e1, f1, l1, l1', p1, p1', w10, w11⟩ := levN a1 3 0 (by decide) (by decide) hm1
  obtain ⟨q2, h2, e2, f2, l2, l2', p2, p2', w20, w21⟩ := levN a2 3 1 (by decide) (by decide) hm2
  obtain ⟨q0, h0, e0, f0, l0, l0', p0, p0', w00, w01⟩ := levN a0 3 2 (by decide) (by decide) hm0
  have PA := pair_any 3 1 (by omega) (by omega) w
  clear w10 w11 w20 w21
  obtain ⟨y0, y1, y2, y3, y4, f0, f0_0, f0_1, f0_2, f1_0, f1_1, f1_2, f2_0, f2_1, f2_2, f3_0, f3_1, f3_2⟩ := chain012 
  have F0_0 := Lib.hid f0_0; have F0_1 := Lib.hid f0_1; have F0_2 := Lib.hid f0_2; have F1_0 := Lib.hid f1_0; have F1_1 := Lib.hid f1_1; have F1_2 := Lib.hid f1_2; have F2_0 := Lib.hid f2_0; have F2_1 := Lib.hid f2_1; have F2_2 := Lib.hid f2_2; have F3_0 := Lib.hid f3_0; have F3_1 := Lib.hid f3_1; have F3_2 := Lib.hid f3_2
  have F0 := Lib.hid f0
  clear f0 f0_0 f0_1 f0_2 f1_0 f1_1 f1_2 f2_0 f2_1 f2_2 f3_0 f3_1 f3_2
  go_enter Try.func4, Try.ntmps4
  go_wp2_with fail
  refine PA.mono ?_
  rintro e w1 ⟨m, S1, rfl, M1⟩
  rw [F0.out] at M1
  clear PA
  go_wp2_with fail; refine (md_res (M1.quiet (by repeat (first | exact Keep.refl _ _ | refine Keep.alloc ?_ _))) 0 1 1 0 0 (i64_n (by omega)) (i64_n (by omega)) (i64_n (by omega)) (i64_n (by omega)) (i64_n (by omega)) 0 0 10 [] 0 0 y1 F0_0.out F0_1.out F0_2.out).mono ?_; rintro e w2 ⟨A2, q2, c2, S2, rfl, o2, n2, M2, k2⟩; clear o2 n2 k2 M1
  go_wp2_with fail; refine (md_res (M2.quiet (by repeat (first | exact Keep.refl _ _ | refine Keep.alloc ?_ _))) 1 4 1 0 0 (i64_n (by omega)) (i64_n (by omega)) (i64_n (by omega)) (i64_n (by omega)) (i64_n (by omega)) 0 0 0 [] 0 0 y2 F1_0.out F1_1.out F1_2.out).mono ?_; rintro e w3 ⟨A3, q3, c3, S3, rfl, o3, n3, M3, k3⟩; clear o3 n3 k3 M2
  go_wp2_with fail; refine (md_res (M3.quiet (by repeat (first | exact Keep.refl _ _ | refine Keep.alloc ?_ _))) 1 6 0 0 0 (i64_n (by omega)) (i64_n (by omega)) (i64_n (by omega)) (i64_n (by omega)) (i64_n (by omega)) 0 0 0 [] 3 0 y3 F2_0.out F2_1.out F2_2.out).mono ?_; rintro e w4 ⟨A4, q4, c4, S4, rfl, o4, n4, M4, k4⟩; clear o4 n4 k4 M3
  go_wp2_with fail; refine (md_res (M4.quiet (by repeat (first | exact Keep.refl _ _ | refine Keep.alloc ?_ _))) 0 6 0 0 0 (i64_n (by omega)) (i64_n (by omega)) (i64_n (by omega)) (i64_n (by omega)) (i64_n (by omega)) 0 14 0 [] 4 3 y4 F3_0.out F3_1.out F3_2.out).mono ?_; rintro e w5 ⟨A5, q5, c5, S5, rfl, o5, n5, M5, k5⟩; clear o5 n5 k5 M4
  go_wp2_with fail
  refine (awake19_any _).mono ?_
  rintro e wz ⟨rfl, bz⟩
  go_wp2
  go_ret
  exact ⟨rfl, M5.fin bz⟩
theorem chain120_0 : (⟨50, 100, [⟨1, 10, 0, 0, 2, 0, false⟩, ⟨2, 20, 0, 0, 2, 0, false⟩], ses [⟨2, 1, 0, 3, [], []⟩, ⟨3, 1, 0, 4, [], []⟩, tx0, tx0, tx0, tx0, tx0, tx0], 4, 3⟩ : MoI).doE 0 ⟨1, 3, 0, 0⟩ = 0 ∧ (⟨50, 100, [⟨1, 10, 0, 0, 2, 0, false⟩, ⟨2, 20, 0, 0, 2, 0, false⟩], ses [⟨2, 1, 0, 3, [], []⟩, ⟨3, 1, 0, 4, [], []⟩, tx0, tx0, tx0, tx0, tx0, tx0], 4, 3⟩ : MoI).doR 0 ⟨1, 3, 0, 0⟩ = ⟨11, 0, [], 0, 0⟩ ∧ (⟨50, 100, [⟨1, 10, 0, 0, 2, 0, false⟩, ⟨2, 20, 0, 0, 2, 0, false⟩], ses [⟨2, 1, 0, 3, [], []⟩, ⟨3, 1, 0, 4, [], []⟩, tx0, tx0, tx0, tx0, tx0, tx0], 4, 3⟩ : MoI).doM 0 ⟨1, 3, 0, 0⟩ = (⟨50, 100, [⟨1, 10, 0, 0, 2, 0, false⟩, ⟨2, 20, 0, 0, 2, 0, false⟩], ses [⟨2, 1, 1, 3, [], [⟨3, 3, false, false⟩]⟩, ⟨3, 1, 0, 4, [], []⟩, tx0, tx0, tx0, tx0, tx0, tx0], 4, 3⟩ : MoI) :=
  ⟨by rfl, by rfl, by exact MoI.ext rfl rfl rfl (ses_eq rfl rfl rfl rfl rfl rfl rfl rfl (fun _ => rfl)) rfl rfl⟩
theorem chain120_1 : (⟨50, 100, [⟨1, 10, 0, 0, 2, 0, false⟩, ⟨2, 20, 0, 0, 2, 0, false⟩], ses [⟨2, 1, 1, 3, [], [⟨3, 3, false, false⟩]⟩, ⟨3, 1, 0, 4, [], []⟩, tx0, tx0, tx0, tx0, tx0, tx0], 4, 3⟩ : MoI).doE 1 ⟨2, 3, 0, 99⟩ = 0 ∧ (⟨50, 100, [⟨1, 10, 0, 0, 2, 0, false⟩, ⟨2, 20, 0, 0, 2, 0, false⟩], ses [⟨2, 1, 1, 3, [], [⟨3, 3, false, false⟩]⟩, ⟨3, 1, 0, 4, [], []⟩, tx0, tx0, tx0, tx0, tx0, tx0], 4, 3⟩ : MoI).doR 1 ⟨2, 3, 0, 99⟩ = ⟨0, 0, [], 0, 0⟩ ∧ (⟨50, 100, [⟨1, 10, 0, 0, 2, 0, false⟩, ⟨2, 20, 0, 0, 2, 0, false⟩], ses [⟨2, 1, 1, 3, [], [⟨3, 3, false, false⟩]⟩, ⟨3, 1, 0, 4, [], []⟩, tx0, tx0, tx0, tx0, tx0, tx0], 4, 3⟩ : MoI).doM 1 ⟨2, 3, 0, 99⟩ = (⟨50, 100, [⟨1, 10, 0, 0, 2, 0, false⟩, ⟨2, 20, 0, 0, 2, 0, false⟩, ⟨3, 99, 3, 0, 0, 0, false⟩], ses [⟨2, 1, 1, 3, [], [⟨3, 3, false, false⟩]⟩, ⟨3, 1, 1, 4, [3], []⟩, tx0, tx0, tx0, tx0, tx0, tx0], 4, 3⟩ : MoI) :=
  ⟨by rfl, by rfl, by exact MoI.ext rfl rfl rfl (ses_eq rfl rfl rfl rfl rfl rfl rfl rfl (fun _ => rfl)) rfl rfl⟩
theorem chain120_2 : (⟨50, 100, [⟨1, 10, 0, 0, 2, 0, false⟩, ⟨2, 20, 0, 0, 2, 0, false⟩, ⟨3, 99, 3, 0, 0, 0, false⟩], ses [⟨2, 1, 1, 3, [], [⟨3, 3, false, false⟩]⟩, ⟨3, 1, 1, 4, [3], []⟩, tx0, tx0, tx0, tx0, tx0, tx0], 4, 3⟩ : MoI).doE 1 ⟨6, 0, 0, 0⟩ = 0 ∧ (⟨50, 100, [⟨1, 10, 0, 0, 2, 0, false⟩, ⟨2, 20, 0, 0, 2, 0, false⟩, ⟨3, 99, 3, 0, 0, 0, false⟩], ses [⟨2, 1, 1, 3, [], [⟨3, 3, false, false⟩]⟩, ⟨3, 1, 1, 4, [3], []⟩, tx0, tx0, tx0, tx0, tx0, tx0], 4, 3⟩ : MoI).doR 1 ⟨6, 0, 0, 0⟩ = ⟨0, 0, [], 3, 0⟩ ∧ (⟨50, 100, [⟨1, 10, 0, 0, 2, 0, false⟩, ⟨2, 20, 0, 0, 2, 0, false⟩, ⟨3, 99, 3, 0, 0, 0, false⟩], ses [⟨2, 1, 1, 3, [], [⟨3, 3, false, false⟩]⟩, ⟨3, 1, 1, 4, [3], []⟩, tx0, tx0, tx0, tx0, tx0, tx0], 4, 3⟩ : MoI).doM 1 ⟨6, 0, 0, 0⟩ = (⟨50, 100, [⟨1, 10, 0, 0, 2, 0, false⟩, ⟨2, 20, 0, 0, 2, 0, false⟩, ⟨3, 99, 0, 0, 5, 0, false⟩], ses [⟨2, 1, 1, 3, [], [⟨3, 3, false, false⟩]⟩, tx0, tx0, tx0, tx0, tx0, tx0, tx0], 5, 3⟩ : MoI) :=
  ⟨by rfl, by rfl, by exact MoI.ext rfl rfl rfl (ses_eq rfl rfl rfl rfl rfl rfl rfl rfl (fun _ => rfl)) rfl rfl⟩
theorem chain120_3 : (⟨50, 100, [⟨1, 10, 0, 0, 2, 0, false⟩, ⟨2, 20, 0, 0, 2, 0, false⟩, ⟨3, 99, 0, 0, 5, 0, false⟩], ses [⟨2, 1, 1, 3, [], [⟨3, 3, false, false⟩]⟩, tx0, tx0, tx0, tx0, tx0, tx0, tx0], 5, 3⟩ : MoI).doE 0 ⟨6, 0, 0, 0⟩ = 0 ∧ (⟨50, 100, [⟨1, 10, 0, 0, 2, 0, false⟩, ⟨2, 20, 0, 0, 2, 0, false⟩, ⟨3, 99, 0, 0, 5, 0, false⟩], ses [⟨2, 1, 1, 3, [], [⟨3, 3, false, false⟩]⟩, tx0, tx0, tx0, tx0, tx0, tx0, tx0], 5, 3⟩ : MoI).doR 0 ⟨6, 0, 0, 0⟩ = ⟨0, 0, [], 3, 0⟩ ∧ (⟨50, 100, [⟨1, 10, 0, 0, 2, 0, false⟩, ⟨2, 20, 0, 0, 2, 0, false⟩, ⟨3, 99, 0, 0, 5, 0, false⟩], ses [⟨2, 1, 1, 3, [], [⟨3, 3, false, false⟩]⟩, tx0, tx0, tx0, tx0, tx0, tx0, tx0], 5, 3⟩ : MoI).doM 0 ⟨6, 0, 0, 0⟩ = (⟨50, 100, [⟨1, 10, 0, 0, 2, 0, false⟩, ⟨2, 20, 0, 0, 2, 0, false⟩, ⟨3, 99, 0, 0, 5, 0, false⟩], ses [tx0, tx0, tx0, tx0, tx0, tx0, tx0, tx0], 6, 3⟩ : MoI) :=
  ⟨by rfl, by rfl, by exact MoI.ext rfl rfl rfl (ses_eq rfl rfl rfl rfl rfl rfl rfl rfl (fun _ => rfl)) rfl rfl⟩
theorem chain120 : ∃ y0 y1 y2 y3 y4 : MoI, pairM 1 1 = y0 ∧ y0.doE 0 ⟨1, 3, 0, 0⟩ = 0 ∧ y0.doR 0 ⟨1, 3, 0, 0⟩ = ⟨11, 0, [], 0, 0⟩ ∧ y0.doM 0 ⟨1, 3, 0, 0⟩ = y1 ∧ y1.doE 1 ⟨2, 3, 0, 99⟩ = 0 ∧ y1.doR 1 ⟨2, 3, 0, 99⟩ = ⟨0, 0, [], 0, 0⟩ ∧ y1.doM 1 ⟨2, 3, 0, 99⟩ = y2 ∧ y2.doE 1 ⟨6, 0, 0, 0⟩ = 0 ∧ y2.doR 1 ⟨6, 0, 0, 0⟩ = ⟨0, 0, [], 3, 0⟩ ∧ y2.doM 1 ⟨6, 0, 0, 0⟩ = y3 ∧ y3.doE 0 ⟨6, 0, 0, 0⟩ = 0 ∧ y3.doR 0 ⟨6, 0, 0, 0⟩ = ⟨0, 0, [], 3, 0⟩ ∧ y3.doM 0 ⟨6, 0, 0, 0⟩ = y4 :=
  ⟨⟨50, 100, [⟨1, 10, 0, 0, 2, 0, false⟩, ⟨2, 20, 0, 0, 2, 0, false⟩], ses [⟨2, 1, 0, 3, [], []⟩, ⟨3, 1, 0, 4, [], []⟩, tx0, tx0, tx0, tx0, tx0, tx0], 4, 3⟩,
    ⟨50, 100, [⟨1, 10, 0, 0, 2, 0, false⟩, ⟨2, 20, 0, 0, 2, 0, false⟩], ses [⟨2, 1, 1, 3, [], [⟨3, 3, false, false⟩]⟩, ⟨3, 1, 0, 4, [], []⟩, tx0, tx0, tx0, tx0, tx0, tx0], 4, 3⟩,
    ⟨50, 100, [⟨1, 10, 0, 0, 2, 0, false⟩, ⟨2, 20, 0, 0, 2, 0, false⟩, ⟨3, 99, 3, 0, 0, 0, false⟩], ses [⟨2, 1, 1, 3, [], [⟨3, 3, false, false⟩]⟩, ⟨3, 1, 1, 4, [3], []⟩, tx0, tx0, tx0, tx0, tx0, tx0], 4, 3⟩,
    ⟨50, 100, [⟨1, 10, 0, 0, 2, 0, false⟩, ⟨2, 20, 0, 0, 2, 0, false⟩, ⟨3, 99, 0, 0, 5, 0, false⟩], ses [⟨2, 1, 1, 3, [], [⟨3, 3, false, false⟩]⟩, tx0, tx0, tx0, tx0, tx0, tx0, tx0], 5, 3⟩,
    ⟨50, 100, [⟨1, 10, 0, 0, 2, 0, false⟩, ⟨2, 20, 0, 0, 2, 0, false⟩, ⟨3, 99, 0, 0, 5, 0, false⟩], ses [tx0, tx0, tx0, tx0, tx0, tx0, tx0, tx0], 6, 3⟩, pair_lit (by omega) (by omega), (chain120_0 ).1, (chain120_0 ).2.1, (chain120_0 ).2.2, (chain120_1 ).1, (chain120_1 ).2.1, (chain120_1 ).2.2, (chain120_2 ).1, (chain120_2 ).2.1, (chain120_2 ).2.2, (chain120_3 ).1, (chain120_3 ).2.1, (chain120_3 ).2.2⟩
set_option maxRecDepth 100000 in
set_option maxHeartbeats 16000000 in
theorem way_1_2_0 (a0 a1 a2 : Int) (w : World) (hm1 : a1 % 256 % 3 = 1) (hm2 : a2 % 256 % 3 = 2) (hm0 : a0 % 256 % 3 = 0) :
    Calls Try.prog 4 #[.int .i64 a0, .int .i64 a1, .int .i64 a2] w fun e w' => e = .returned (.bool true) ∧ Below w.heap.size w w' := by
  obtain ⟨q1, h1, e1, f1, l1, l1', p1, p1', w10, w11⟩ := levN a1 3 1 (by decide) (by decide) hm1
  obtain ⟨q2, h2, e2, f2, l2, l2', p2, p2', w20, w21⟩ := levN a2 3 2 (by decide) (by decide) hm2
  obtain ⟨q0, h0, e0, f0, l0, l0', p0, p0', w00, w01⟩ := levN a0 3 0 (by decide) (by decide) hm0
  have PA := pair_any 1 1 (by omega) (by omega) w
  clear w10 w11 w20 w21
  obtain ⟨y0, y1, y2, y3, y4, f0, f0_0, f0_1, f0_2, f1_0, f1_1, f1_2, f2_0, f2_1, f2_2, f3_0, f3_1, f3_2⟩ := chain120 
  have F0_0 := Lib.hid f0_0; have F0_1 := Lib.hid f0_1; have F0_2 := Lib.hid f0_2; have F1_0 := Lib.hid f1_0; have F1_1 := Lib.hid f1_1; have F1_2 := Lib.hid f1_2; have F2_0 := Lib.hid f2_0; have F2_1 := Lib.hid f2_1; have F2_2 := Lib.hid f2_2; have F3_0 := Lib.hid f3_0; have F3_1 := Lib.hid f3_1; have F3_2 := Lib.hid f3_2
  have F0 := Lib.hid f0
  clear f0 f0_0 f0_1 f0_2 f1_0 f1_1 f1_2 f2_0 f2_1 f2_2 f3_0 f3_1 f3_2
  go_enter Try.func4, Try.ntmps4
  go_wp2_with fail
  refine PA.mono ?_
  rintro e w1 ⟨m, S1, rfl, M1⟩
  rw [F0.out] at M1
  clear PA
  go_wp2_with fail; refine (md_res (M1.quiet (by repeat (first | exact Keep.refl _ _ | refine Keep.alloc ?_ _))) 0 1 3 0 0 (i64_n (by omega)) (i64_n (by omega)) (i64_n (by omega)) (i64_n (by omega)) (i64_n (by omega)) 0 11 0 [] 0 0 y1 F0_0.out F0_1.out F0_2.out).mono ?_; rintro e w2 ⟨A2, q2, c2, S2, rfl, o2, n2, M2, k2⟩; clear o2 n2 k2 M1
  go_wp2_with fail; refine (md_res (M2.quiet (by repeat (first | exact Keep.refl _ _ | refine Keep.alloc ?_ _))) 1 2 3 0 99 (i64_n (by omega)) (i64_n (by omega)) (i64_n (by omega)) (i64_n (by omega)) (i64_n (by omega)) 0 0 0 [] 0 0 y2 F1_0.out F1_1.out F1_2.out).mono ?_; rintro e w3 ⟨A3, q3, c3, S3, rfl, o3, n3, M3, k3⟩; clear o3 n3 k3 M2
  go_wp2_with fail; refine (md_res (M3.quiet (by repeat (first | exact Keep.refl _ _ | refine Keep.alloc ?_ _))) 1 6 0 0 0 (i64_n (by omega)) (i64_n (by omega)) (i64_n (by omega)) (i64_n (by omega)) (i64_n (by omega)) 0 0 0 [] 3 0 y3 F2_0.out F2_1.out F2_2.out).mono ?_; rintro e w4 ⟨A4, q4, c4, S4, rfl, o4, n4, M4, k4⟩; clear o4 n4 k4 M3
  go_wp2_with fail; refine (md_res (M4.quiet (by repeat (first | exact Keep.refl _ _ | refine Keep.alloc ?_ _))) 0 6 0 0 0 (i64_n (by omega)) (i64_n (by omega)) (i64_n (by omega)) (i64_n (by omega)) (i64_n (by omega)) 0 0 0 [] 3 0 y4 F3_0.out F3_1.out F3_2.out).mono ?_; rintro e w5 ⟨A5, q5, c5, S5, rfl, o5, n5, M5, k5⟩; clear o5 n5 k5 M4
  go_wp2_with fail
  refine (awake19_any _).mono ?_
  rintro e wz ⟨rfl, bz⟩
  go_wp2
  go_ret
  exact ⟨rfl, M5.fin bz⟩
theorem chain201_0 : (⟨50, 100, [⟨1, 10, 0, 0, 2, 0, false⟩, ⟨2, 20, 0, 0, 2, 0, false⟩], ses [⟨2, 2, 0, 3, [], []⟩, ⟨3, 1, 0, 4, [], []⟩, tx0, tx0, tx0, tx0, tx0, tx0], 4, 3⟩ : MoI).doE 0 ⟨5, 1, 5, 0⟩ = 0 ∧ (⟨50, 100, [⟨1, 10, 0, 0, 2, 0, false⟩, ⟨2, 20, 0, 0, 2, 0, false⟩], ses [⟨2, 2, 0, 3, [], []⟩, ⟨3, 1, 0, 4, [], []⟩, tx0, tx0, tx0, tx0, tx0, tx0], 4, 3⟩ : MoI).doR 0 ⟨5, 1, 5, 0⟩ = ⟨0, 0, [(1, 10), (2, 20)], 0, 0⟩ ∧ (⟨50, 100, [⟨1, 10, 0, 0, 2, 0, false⟩, ⟨2, 20, 0, 0, 2, 0, false⟩], ses [⟨2, 2, 0, 3, [], []⟩, ⟨3, 1, 0, 4, [], []⟩, tx0, tx0, tx0, tx0, tx0, tx0], 4, 3⟩ : MoI).doM 0 ⟨5, 1, 5, 0⟩ = (⟨50, 100, [⟨1, 10, 0, 0, 2, 0, false⟩, ⟨2, 20, 0, 0, 2, 0, false⟩], ses [⟨2, 2, 1, 3, [], [⟨1, 5, false, true⟩]⟩, ⟨3, 1, 0, 4, [], []⟩, tx0, tx0, tx0, tx0, tx0, tx0], 4, 3⟩ : MoI) :=
  ⟨by rfl, by rfl, by exact MoI.ext rfl rfl rfl (ses_eq rfl rfl rfl rfl rfl rfl rfl rfl (fun _ => rfl)) rfl rfl⟩
theorem chain201_1 : (⟨50, 100, [⟨1, 10, 0, 0, 2, 0, false⟩, ⟨2, 20, 0, 0, 2, 0, false⟩], ses [⟨2, 2, 1, 3, [], [⟨1, 5, false, true⟩]⟩, ⟨3, 1, 0, 4, [], []⟩, tx0, tx0, tx0, tx0, tx0, tx0], 4, 3⟩ : MoI).doE 1 ⟨3, 1, 0, 99⟩ = 0 ∧ (⟨50, 100, [⟨1, 10, 0, 0, 2, 0, false⟩, ⟨2, 20, 0, 0, 2, 0, false⟩], ses [⟨2, 2, 1, 3, [], [⟨1, 5, false, true⟩]⟩, ⟨3, 1, 0, 4, [], []⟩, tx0, tx0, tx0, tx0, tx0, tx0], 4, 3⟩ : MoI).doR 1 ⟨3, 1, 0, 99⟩ = ⟨0, 0, [], 0, 0⟩ ∧ (⟨50, 100, [⟨1, 10, 0, 0, 2, 0, false⟩, ⟨2, 20, 0, 0, 2, 0, false⟩], ses [⟨2, 2, 1, 3, [], [⟨1, 5, false, true⟩]⟩, ⟨3, 1, 0, 4, [], []⟩, tx0, tx0, tx0, tx0, tx0, tx0], 4, 3⟩ : MoI).doM 1 ⟨3, 1, 0, 99⟩ = (⟨50, 100, [⟨1, 10, 0, 3, 2, 0, false⟩, ⟨2, 20, 0, 0, 2, 0, false⟩, ⟨1, 99, 3, 0, 0, 0, false⟩], ses [⟨2, 2, 1, 3, [], [⟨1, 5, false, true⟩]⟩, ⟨3, 1, 1, 4, [1], []⟩, tx0, tx0, tx0, tx0, tx0, tx0], 4, 3⟩ : MoI) :=
  ⟨by rfl, by rfl, by exact MoI.ext rfl rfl rfl (ses_eq rfl rfl rfl rfl rfl rfl rfl rfl (fun _ => rfl)) rfl rfl⟩
theorem chain201_2 : (⟨50, 100, [⟨1, 10, 0, 3, 2, 0, false⟩, ⟨2, 20, 0, 0, 2, 0, false⟩, ⟨1, 99, 3, 0, 0, 0, false⟩], ses [⟨2, 2, 1, 3, [], [⟨1, 5, false, true⟩]⟩, ⟨3, 1, 1, 4, [1], []⟩, tx0, tx0, tx0, tx0, tx0, tx0], 4, 3⟩ : MoI).doE 1 ⟨6, 0, 0, 0⟩ = 0 ∧ (⟨50, 100, [⟨1, 10, 0, 3, 2, 0, false⟩, ⟨2, 20, 0, 0, 2, 0, false⟩, ⟨1, 99, 3, 0, 0, 0, false⟩], ses [⟨2, 2, 1, 3, [], [⟨1, 5, false, true⟩]⟩, ⟨3, 1, 1, 4, [1], []⟩, tx0, tx0, tx0, tx0, tx0, tx0], 4, 3⟩ : MoI).doR 1 ⟨6, 0, 0, 0⟩ = ⟨0, 0, [], 3, 0⟩ ∧ (⟨50, 100, [⟨1, 10, 0, 3, 2, 0, false⟩, ⟨2, 20, 0, 0, 2, 0, false⟩, ⟨1, 99, 3, 0, 0, 0, false⟩], ses [⟨2, 2, 1, 3, [], [⟨1, 5, false, true⟩]⟩, ⟨3, 1, 1, 4, [1], []⟩, tx0, tx0, tx0, tx0, tx0, tx0], 4, 3⟩ : MoI).doM 1 ⟨6, 0, 0, 0⟩ = (⟨50, 100, [⟨1, 10, 0, 0, 2, 5, false⟩, ⟨2, 20, 0, 0, 2, 0, false⟩, ⟨1, 99, 0, 0, 5, 0, false⟩], ses [⟨2, 2, 1, 3, [], [⟨1, 5, false, true⟩]⟩, tx0, tx0, tx0, tx0, tx0, tx0, tx0], 5, 3⟩ : MoI) :=
  ⟨by rfl, by rfl, by exact MoI.ext rfl rfl rfl (ses_eq rfl rfl rfl rfl rfl rfl rfl rfl (fun _ => rfl)) rfl rfl⟩
theorem chain201_3 : (⟨50, 100, [⟨1, 10, 0, 0, 2, 5, false⟩, ⟨2, 20, 0, 0, 2, 0, false⟩, ⟨1, 99, 0, 0, 5, 0, false⟩], ses [⟨2, 2, 1, 3, [], [⟨1, 5, false, true⟩]⟩, tx0, tx0, tx0, tx0, tx0, tx0, tx0], 5, 3⟩ : MoI).doE 0 ⟨6, 0, 0, 0⟩ = 0 ∧ (⟨50, 100, [⟨1, 10, 0, 0, 2, 5, false⟩, ⟨2, 20, 0, 0, 2, 0, false⟩, ⟨1, 99, 0, 0, 5, 0, false⟩], ses [⟨2, 2, 1, 3, [], [⟨1, 5, false, true⟩]⟩, tx0, tx0, tx0, tx0, tx0, tx0, tx0], 5, 3⟩ : MoI).doR 0 ⟨6, 0, 0, 0⟩ = ⟨0, 0, [], 3, 0⟩ ∧ (⟨50, 100, [⟨1, 10, 0, 0, 2, 5, false⟩, ⟨2, 20, 0, 0, 2, 0, false⟩, ⟨1, 99, 0, 0, 5, 0, false⟩], ses [⟨2, 2, 1, 3, [], [⟨1, 5, false, true⟩]⟩, tx0, tx0, tx0, tx0, tx0, tx0, tx0], 5, 3⟩ : MoI).doM 0 ⟨6, 0, 0, 0⟩ = (⟨50, 100, [⟨1, 10, 0, 0, 2, 5, false⟩, ⟨2, 20, 0, 0, 2, 0, false⟩, ⟨1, 99, 0, 0, 5, 0, false⟩], ses [tx0, tx0, tx0, tx0, tx0, tx0, tx0, tx0], 6, 3⟩ : MoI) :=
  ⟨by rfl, by rfl, by exact MoI.ext rfl rfl rfl (ses_eq rfl rfl rfl rfl rfl rfl rfl rfl (fun _ => rfl)) rfl rfl⟩
theorem chain201 : ∃ y0 y1 y2 y3 y4 : MoI, pairM 2 1 = y0 ∧ y0.doE 0 ⟨5, 1, 5, 0⟩ = 0 ∧ y0.doR 0 ⟨5, 1, 5, 0⟩ = ⟨0, 0, [(1, 10), (2, 20)], 0, 0⟩ ∧ y0.doM 0 ⟨5, 1, 5, 0⟩ = y1 ∧ y1.doE 1 ⟨3, 1, 0, 99⟩ = 0 ∧ y1.doR 1 ⟨3, 1, 0, 99⟩ = ⟨0, 0, [], 0, 0⟩ ∧ y1.doM 1 ⟨3, 1, 0, 99⟩ = y2 ∧ y2.doE 1 ⟨6, 0, 0, 0⟩ = 0 ∧ y2.doR 1 ⟨6, 0, 0, 0⟩ = ⟨0, 0, [], 3, 0⟩ ∧ y2.doM 1 ⟨6, 0, 0, 0⟩ = y3 ∧ y3.doE 0 ⟨6, 0, 0, 0⟩ = 0 ∧ y3.doR 0 ⟨6, 0, 0, 0⟩ = ⟨0, 0, [], 3, 0⟩ ∧ y3.doM 0 ⟨6, 0, 0, 0⟩ = y4 :=
  ⟨⟨50, 100, [⟨1, 10, 0, 0, 2, 0, false⟩, ⟨2, 20, 0, 0, 2, 0, false⟩], ses [⟨2, 2, 0, 3, [], []⟩, ⟨3, 1, 0, 4, [], []⟩, tx0, tx0, tx0, tx0, tx0, tx0], 4, 3⟩,
    ⟨50, 100, [⟨1, 10, 0, 0, 2, 0, false⟩, ⟨2, 20, 0, 0, 2, 0, false⟩], ses [⟨2, 2, 1, 3, [], [⟨1, 5, false, true⟩]⟩, ⟨3, 1, 0, 4, [], []⟩, tx0, tx0, tx0, tx0, tx0, tx0], 4, 3⟩,
    ⟨50, 100, [⟨1, 10, 0, 3, 2, 0, false⟩, ⟨2, 20, 0, 0, 2, 0, false⟩, ⟨1, 99, 3, 0, 0, 0, false⟩], ses [⟨2, 2, 1, 3, [], [⟨1, 5, false, true⟩]⟩, ⟨3, 1, 1, 4, [1], []⟩, tx0, tx0, tx0, tx0, tx0, tx0], 4, 3⟩,
    ⟨50, 100, [⟨1, 10, 0, 0, 2, 5, false⟩, ⟨2, 20, 0, 0, 2, 0, false⟩, ⟨1, 99, 0, 0, 5, 0, false⟩], ses [⟨2, 2, 1, 3, [], [⟨1, 5, false, true⟩]⟩, tx0, tx0, tx0, tx0, tx0, tx0, tx0], 5, 3⟩,
    ⟨50, 100, [⟨1, 10, 0, 0, 2, 5, false⟩, ⟨2, 20, 0, 0, 2, 0, false⟩, ⟨1, 99, 0, 0, 5, 0, false⟩], ses [tx0, tx0, tx0, tx0, tx0, tx0, tx0, tx0], 6, 3⟩, pair_lit (by omega) (by omega), (chain201_0 ).1, (chain201_0 ).2.1, (chain201_0 ).2.2, (chain201_1 ).1, (chain201_1 ).2.1, (chain201_1 ).2.2, (chain201_2 ).1, (chain201_2 ).2.1, (chain201_2 ).2.2, (chain201_3 ).1, (chain201_3 ).2.1, (chain201_3 ).2.2⟩
set_option maxRecDepth 100000 in
set_option maxHeartbeats 16000000 in
theorem way_2_0_1 (a0 a1 a2 : Int) (w : World) (hm1 : a1 % 256 % 3 = 2) (hm2 : a2 % 256 % 3 = 0) (hm0 : a0 % 256 % 3 = 1) :
    Calls Try.prog 4 #[.int .i64 a0, .int .i64 a1, .int .i64 a2] w fun e w' => e = .returned (.bool true) ∧ Below w.heap.size w w' := by
  obtain ⟨q1, h1, e1, f1, l1, l1', p1, p1', w10, w11⟩ := levN a1 3 2 (by decide) (by decide) hm1
  obtain ⟨q2, h2, e2, f2, l2, l2', p2, p2', w20, w21⟩ := levN a2 3 0 (by decide) (by decide) hm2
  obtain ⟨q0, h0, e0, f0, l0, l0', p0, p0', w00, w01⟩ := levN a0 3 1 (by decide) (by decide) hm0
  have PA := pair_any 2 1 (by omega) (by omega) w
  clear w10 w11 w20 w21
  obtain ⟨y0, y1, y2, y3, y4, f0, f0_0, f0_1, f0_2, f1_0, f1_1, f1_2, f2_0, f2_1, f2_2, f3_0, f3_1, f3_2⟩ := chain201 
  have F0_0 := Lib.hid f0_0; have F0_1 := Lib.hid f0_1; have F0_2 := Lib.hid f0_2; have F1_0 := Lib.hid f1_0; have F1_1 := Lib.hid f1_1; have F1_2 := Lib.hid f1_2; have F2_0 := Lib.hid f2_0; have F2_1 := Lib.hid f2_1; have F2_2 := Lib.hid f2_2; have F3_0 := Lib.hid f3_0; have F3_1 := Lib.hid f3_1; have F3_2 := Lib.hid f3_2
  have F0 := Lib.hid f0
  clear f0 f0_0 f0_1 f0_2 f1_0 f1_1 f1_2 f2_0 f2_1 f2_2 f3_0 f3_1 f3_2
  go_enter Try.func4, Try.ntmps4
  go_wp2_with fail
  refine PA.mono ?_
  rintro e w1 ⟨m, S1, rfl, M1⟩
  rw [F0.out] at M1
  clear PA
  go_wp2_with fail; refine (md_res (M1.quiet (by repeat (first | exact Keep.refl _ _ | refine Keep.alloc ?_ _))) 0 5 1 5 0 (i64_n (by omega)) (i64_n (by omega)) (i64_n (by omega)) (i64_n (by omega)) (i64_n (by omega)) 0 0 0 [(1, 10), (2, 20)] 0 0 y1 F0_0.out F0_1.out F0_2.out).mono ?_; rintro e w2 ⟨A2, q2, c2, S2, rfl, o2, n2, M2, k2⟩; clear o2 n2 k2 M1
  go_wp2_with fail; refine (md_res (M2.quiet (by repeat (first | exact Keep.refl _ _ | refine Keep.alloc ?_ _))) 1 3 1 0 99 (i64_n (by omega)) (i64_n (by omega)) (i64_n (by omega)) (i64_n (by omega)) (i64_n (by omega)) 0 0 0 [] 0 0 y2 F1_0.out F1_1.out F1_2.out).mono ?_; rintro e w3 ⟨A3, q3, c3, S3, rfl, o3, n3, M3, k3⟩; clear o3 n3 k3 M2
  go_wp2_with fail; refine (md_res (M3.quiet (by repeat (first | exact Keep.refl _ _ | refine Keep.alloc ?_ _))) 1 6 0 0 0 (i64_n (by omega)) (i64_n (by omega)) (i64_n (by omega)) (i64_n (by omega)) (i64_n (by omega)) 0 0 0 [] 3 0 y3 F2_0.out F2_1.out F2_2.out).mono ?_; rintro e w4 ⟨A4, q4, c4, S4, rfl, o4, n4, M4, k4⟩; clear o4 n4 k4 M3
  go_wp2_with fail; refine (md_res (M4.quiet (by repeat (first | exact Keep.refl _ _ | refine Keep.alloc ?_ _))) 0 6 0 0 0 (i64_n (by omega)) (i64_n (by omega)) (i64_n (by omega)) (i64_n (by omega)) (i64_n (by omega)) 0 0 0 [] 3 0 y4 F3_0.out F3_1.out F3_2.out).mono ?_; rintro e w5 ⟨A5, q5, c5, S5, rfl, o5, n5, M5, k5⟩; clear o5 n5 k5 M4
  go_wp2_with fail
  refine (awake19_any _).mono ?_
  rintro e wz ⟨rfl, bz⟩
  go_wp2
  go_ret
  exact ⟨rfl, M5.fin bz⟩
theorem chain212_0 : (⟨50, 100, [⟨1, 10, 0, 0, 2, 0, false⟩, ⟨2, 20, 0, 0, 2, 0, false⟩], ses [⟨2, 3, 0, 3, [], []⟩, ⟨3, 1, 0, 4, [], []⟩, tx0, tx0, tx0, tx0, tx0, tx0], 4, 3⟩ : MoI).doE 0 ⟨5, 1, 5, 0⟩ = 0 ∧ (⟨50, 100, [⟨1, 10, 0, 0, 2, 0, false⟩, ⟨2, 20, 0, 0, 2, 0, false⟩], ses [⟨2, 3, 0, 3, [], []⟩, ⟨3, 1, 0, 4, [], []⟩, tx0, tx0, tx0, tx0, tx0, tx0], 4, 3⟩ : MoI).doR 0 ⟨5, 1, 5, 0⟩ = ⟨0, 0, [(1, 10), (2, 20)], 0, 0⟩ ∧ (⟨50, 100, [⟨1, 10, 0, 0, 2, 0, false⟩, ⟨2, 20, 0, 0, 2, 0, false⟩], ses [⟨2, 3, 0, 3, [], []⟩, ⟨3, 1, 0, 4, [], []⟩, tx0, tx0, tx0, tx0, tx0, tx0], 4, 3⟩ : MoI).doM 0 ⟨5, 1, 5, 0⟩ = (⟨50, 100, [⟨1, 10, 0, 0, 2, 0, false⟩, ⟨2, 20, 0, 0, 2, 0, false⟩], ses [⟨2, 3, 1, 3, [], [⟨1, 5, false, true⟩]⟩, ⟨3, 1, 0, 4, [], []⟩, tx0, tx0, tx0, tx0, tx0, tx0], 4, 3⟩ : MoI) :=
  ⟨by rfl, by rfl, by exact MoI.ext rfl rfl rfl (ses_eq rfl rfl rfl rfl rfl rfl rfl rfl (fun _ => rfl)) rfl rfl⟩
theorem chain212_1 : (⟨50, 100, [⟨1, 10, 0, 0, 2, 0, false⟩, ⟨2, 20, 0, 0, 2, 0, false⟩], ses [⟨2, 3, 1, 3, [], [⟨1, 5, false, true⟩]⟩, ⟨3, 1, 0, 4, [], []⟩, tx0, tx0, tx0, tx0, tx0, tx0], 4, 3⟩ : MoI).doE 1 ⟨4, 1, 0, 0⟩ = 0 ∧ (⟨50, 100, [⟨1, 10, 0, 0, 2, 0, false⟩, ⟨2, 20, 0, 0, 2, 0, false⟩], ses [⟨2, 3, 1, 3, [], [⟨1, 5, false, true⟩]⟩, ⟨3, 1, 0, 4, [], []⟩, tx0, tx0, tx0, tx0, tx0, tx0], 4, 3⟩ : MoI).doR 1 ⟨4, 1, 0, 0⟩ = ⟨0, 0, [], 0, 0⟩ ∧ (⟨50, 100, [⟨1, 10, 0, 0, 2, 0, false⟩, ⟨2, 20, 0, 0, 2, 0, false⟩], ses [⟨2, 3, 1, 3, [], [⟨1, 5, false, true⟩]⟩, ⟨3, 1, 0, 4, [], []⟩, tx0, tx0, tx0, tx0, tx0, tx0], 4, 3⟩ : MoI).doM 1 ⟨4, 1, 0, 0⟩ = (⟨50, 100, [⟨1, 10, 0, 3, 2, 0, false⟩, ⟨2, 20, 0, 0, 2, 0, false⟩], ses [⟨2, 3, 1, 3, [], [⟨1, 5, false, true⟩]⟩, ⟨3, 1, 1, 4, [1], []⟩, tx0, tx0, tx0, tx0, tx0, tx0], 4, 3⟩ : MoI) :=
  ⟨by rfl, by rfl, by exact MoI.ext rfl rfl rfl (ses_eq rfl rfl rfl rfl rfl rfl rfl rfl (fun _ => rfl)) rfl rfl⟩
theorem chain212_2 : (⟨50, 100, [⟨1, 10, 0, 3, 2, 0, false⟩, ⟨2, 20, 0, 0, 2, 0, false⟩], ses [⟨2, 3, 1, 3, [], [⟨1, 5, false, true⟩]⟩, ⟨3, 1, 1, 4, [1], []⟩, tx0, tx0, tx0, tx0, tx0, tx0], 4, 3⟩ : MoI).doE 1 ⟨6, 0, 0, 0⟩ = 0 ∧ (⟨50, 100, [⟨1, 10, 0, 3, 2, 0, false⟩, ⟨2, 20, 0, 0, 2, 0, false⟩], ses [⟨2, 3, 1, 3, [], [⟨1, 5, false, true⟩]⟩, ⟨3, 1, 1, 4, [1], []⟩, tx0, tx0, tx0, tx0, tx0, tx0], 4, 3⟩ : MoI).doR 1 ⟨6, 0, 0, 0⟩ = ⟨0, 0, [], 3, 0⟩ ∧ (⟨50, 100, [⟨1, 10, 0, 3, 2, 0, false⟩, ⟨2, 20, 0, 0, 2, 0, false⟩], ses [⟨2, 3, 1, 3, [], [⟨1, 5, false, true⟩]⟩, ⟨3, 1, 1, 4, [1], []⟩, tx0, tx0, tx0, tx0, tx0, tx0], 4, 3⟩ : MoI).doM 1 ⟨6, 0, 0, 0⟩ = (⟨50, 100, [⟨1, 10, 0, 0, 2, 5, false⟩, ⟨2, 20, 0, 0, 2, 0, false⟩], ses [⟨2, 3, 1, 3, [], [⟨1, 5, false, true⟩]⟩, tx0, tx0, tx0, tx0, tx0, tx0, tx0], 5, 3⟩ : MoI) :=
  ⟨by rfl, by rfl, by exact MoI.ext rfl rfl rfl (ses_eq rfl rfl rfl rfl rfl rfl rfl rfl (fun _ => rfl)) rfl rfl⟩
theorem chain212_3 : (⟨50, 100, [⟨1, 10, 0, 0, 2, 5, false⟩, ⟨2, 20, 0, 0, 2, 0, false⟩], ses [⟨2, 3, 1, 3, [], [⟨1, 5, false, true⟩]⟩, tx0, tx0, tx0, tx0, tx0, tx0, tx0], 5, 3⟩ : MoI).doE 0 ⟨6, 0, 0, 0⟩ = 0 ∧ (⟨50, 100, [⟨1, 10, 0, 0, 2, 5, false⟩, ⟨2, 20, 0, 0, 2, 0, false⟩], ses [⟨2, 3, 1, 3, [], [⟨1, 5, false, true⟩]⟩, tx0, tx0, tx0, tx0, tx0, tx0, tx0], 5, 3⟩ : MoI).doR 0 ⟨6, 0, 0, 0⟩ = ⟨14, 0, [], 4, 3⟩ ∧ (⟨50, 100, [⟨1, 10, 0, 0, 2, 5, false⟩, ⟨2, 20, 0, 0, 2, 0, false⟩], ses [⟨2, 3, 1, 3, [], [⟨1, 5, false, true⟩]⟩, tx0, tx0, tx0, tx0, tx0, tx0, tx0], 5, 3⟩ : MoI).doM 0 ⟨6, 0, 0, 0⟩ = (⟨50, 100, [⟨1, 10, 0, 0, 2, 5, false⟩, ⟨2, 20, 0, 0, 2, 0, false⟩], ses [tx0, tx0, tx0, tx0, tx0, tx0, tx0, tx0], 6, 3⟩ : MoI) :=
  ⟨by rfl, by rfl, by exact MoI.ext rfl rfl rfl (ses_eq rfl rfl rfl rfl rfl rfl rfl rfl (fun _ => rfl)) rfl rfl⟩
theorem chain212 : ∃ y0 y1 y2 y3 y4 : MoI, pairM 3 1 = y0 ∧ y0.doE 0 ⟨5, 1, 5, 0⟩ = 0 ∧ y0.doR 0 ⟨5, 1, 5, 0⟩ = ⟨0, 0, [(1, 10), (2, 20)], 0, 0⟩ ∧ y0.doM 0 ⟨5, 1, 5, 0⟩ = y1 ∧ y1.doE 1 ⟨4, 1, 0, 0⟩ = 0 ∧ y1.doR 1 ⟨4, 1, 0, 0⟩ = ⟨0, 0, [], 0, 0⟩ ∧ y1.doM 1 ⟨4, 1, 0, 0⟩ = y2 ∧ y2.doE 1 ⟨6, 0, 0, 0⟩ = 0 ∧ y2.doR 1 ⟨6, 0, 0, 0⟩ = ⟨0, 0, [], 3, 0⟩ ∧ y2.doM 1 ⟨6, 0, 0, 0⟩ = y3 ∧ y3.doE 0 ⟨6, 0, 0, 0⟩ = 0 ∧ y3.doR 0 ⟨6, 0, 0, 0⟩ = ⟨14, 0, [], 4, 3⟩ ∧ y3.doM 0 ⟨6, 0, 0, 0⟩ = y4 :=
  ⟨⟨50, 100, [⟨1, 10, 0, 0, 2, 0, false⟩, ⟨2, 20, 0, 0, 2, 0, false⟩], ses [⟨2, 3, 0, 3, [], []⟩, ⟨3, 1, 0, 4, [], []⟩, tx0, tx0, tx0, tx0, tx0, tx0], 4, 3⟩,
    ⟨50, 100, [⟨1, 10, 0, 0, 2, 0, false⟩, ⟨2, 20, 0, 0, 2, 0, false⟩], ses [⟨2, 3, 1, 3, [], [⟨1, 5, false, true⟩]⟩, ⟨3, 1, 0, 4, [], []⟩, tx0, tx0, tx0, tx0, tx0, tx0], 4, 3⟩,
    ⟨50, 100, [⟨1, 10, 0, 3, 2, 0, false⟩, ⟨2, 20, 0, 0, 2, 0, false⟩], ses [⟨2, 3, 1, 3, [], [⟨1, 5, false, true⟩]⟩, ⟨3, 1, 1, 4, [1], []⟩, tx0, tx0, tx0, tx0, tx0, tx0], 4, 3⟩,
    ⟨50, 100, [⟨1, 10, 0, 0, 2, 5, false⟩, ⟨2, 20, 0, 0, 2, 0, false⟩], ses [⟨2, 3, 1, 3, [], [⟨1, 5, false, true⟩]⟩, tx0, tx0, tx0, tx0, tx0, tx0, tx0], 5, 3⟩,
    ⟨50, 100, [⟨1, 10, 0, 0, 2, 5, false⟩, ⟨2, 20, 0, 0, 2, 0, false⟩], ses [tx0, tx0, tx0, tx0, tx0, tx0, tx0, tx0], 6, 3⟩, pair_lit (by omega) (by omega), (chain212_0 ).1, (chain212_0 ).2.1, (chain212_0 ).2.2, (chain212_1 ).1, (chain212_1 ).2.1, (chain212_1 ).2.2, (chain212_2 ).1, (chain212_2 ).2.1, (chain212_2 ).2.2, (chain212_3 ).1, (chain212_3 ).2.1, (chain212_3 ).2.2⟩
set_option maxRecDepth 100000 in
set_option maxHeartbeats 16000000 in
theorem way_2_1_2 (a0 a1 a2 : Int) (w : World) (hm1 : a1 % 256 % 3 = 2) (hm2 : a2 % 256 % 3 = 1) (hm0 : a0 % 256 % 3 = 2) :
    Calls Try.prog 4 #[.int .i64 a0, .int .i64 a1, .int .i64 a2] w fun e w' => e = .returned (.bool true) ∧ Below w.heap.size w w' := by
  obtain ⟨q1, h1, e1, f1, l1, l1', p1, p1', w10, w11⟩ := levN a1 3 2 (by decide) (by decide) hm1
  obtain ⟨q2, h2, e2, f2, l2, l2', p2, p2', w20, w21⟩ := levN a2 3 1 (by decide) (by decide) hm2
  obtain ⟨q0, h0, e0, f0, l0, l0', p0, p0', w00, w01⟩ := levN a0 3 2 (by decide) (by decide) hm0
  have PA := pair_any 3 1 (by omega) (by omega) w
  clear w10 w11 w20 w21
  obtain ⟨y0, y1, y2, y3, y4, f0, f0_0, f0_1, f0_2, f1_0, f1_1, f1_2, f2_0, f2_1, f2_2, f3_0, f3_1, f3_2⟩ := chain212 
  have F0_0 := Lib.hid f0_0; have F0_1 := Lib.hid f0_1; have F0_2 := Lib.hid f0_2; have F1_0 := Lib.hid f1_0; have F1_1 := Lib.hid f1_1; have F1_2 := Lib.hid f1_2; have F2_0 := Lib.hid f2_0; have F2_1 := Lib.hid f2_1; have F2_2 := Lib.hid f2_2; have F3_0 := Lib.hid f3_0; have F3_1 := Lib.hid f3_1; have F3_2 := Lib.hid f3_2
  have F0 := Lib.hid f0
  clear f0 f0_0 f0_1 f0_2 f1_0 f1_1 f1_2 f2_0 f2_1 f2_2 f3_0 f3_1 f3_2
  go_enter Try.func4, Try.ntmps4
  go_wp2_with fail
  refine PA.mono ?_
  rintro e w1 ⟨m, S1, rfl, M1⟩
  rw [F0.out] at M1
  clear PA
  go_wp2_with fail; refine (md_res (M1.quiet (by repeat (first | exact Keep.refl _ _ | refine Keep.alloc ?_ _))) 0 5 1 5 0 (i64_n (by omega)) (i64_n (by omega)) (i64_n (by omega)) (i64_n (by omega)) (i64_n (by omega)) 0 0 0 [(1, 10), (2, 20)] 0 0 y1 F0_0.out F0_1.out F0_2.out).mono ?_; rintro e w2 ⟨A2, q2, c2, S2, rfl, o2, n2, M2, k2⟩; clear o2 n2 k2 M1
  go_wp2_with fail; refine (md_res (M2.quiet (by repeat (first | exact Keep.refl _ _ | refine Keep.alloc ?_ _))) 1 4 1 0 0 (i64_n (by omega)) (i64_n (by omega)) (i64_n (by omega)) (i64_n (by omega)) (i64_n (by omega)) 0 0 0 [] 0 0 y2 F1_0.out F1_1.out F1_2.out).mono ?_; rintro e w3 ⟨A3, q3, c3, S3, rfl, o3, n3, M3, k3⟩; clear o3 n3 k3 M2
  go_wp2_with fail; refine (md_res (M3.quiet (by repeat (first | exact Keep.refl _ _ | refine Keep.alloc ?_ _))) 1 6 0 0 0 (i64_n (by omega)) (i64_n (by omega)) (i64_n (by omega)) (i64_n (by omega)) (i64_n (by omega)) 0 0 0 [] 3 0 y3 F2_0.out F2_1.out F2_2.out).mono ?_; rintro e w4 ⟨A4, q4, c4, S4, rfl, o4, n4, M4, k4⟩; clear o4 n4 k4 M3
  go_wp2_with fail; refine (md_res (M4.quiet (by repeat (first | exact Keep.refl _ _ | refine Keep.alloc ?_ _))) 0 6 0 0 0 (i64_n (by omega)) (i64_n (by omega)) (i64_n (by omega)) (i64_n (by omega)) (i64_n (by omega)) 0 14 0 [] 4 3 y4 F3_0.out F3_1.out F3_2.out).mono ?_; rintro e w5 ⟨A5, q5, c5, S5, rfl, o5, n5, M5, k5⟩; clear o5 n5 k5 M4
  go_wp2_with fail
  refine (awake19_any _).mono ?_
  rintro e wz ⟨rfl, bz⟩
  go_wp2
  go_ret
  exact ⟨rfl, M5.fin bz⟩
theorem chain000_0 : (⟨50, 100, [⟨1, 10, 0, 0, 2, 0, false⟩, ⟨2, 20, 0, 0, 2, 0, false⟩], ses [⟨2, 1, 0, 3, [], []⟩, ⟨3, 1, 0, 4, [], []⟩, tx0, tx0, tx0, tx0, tx0, tx0], 4, 3⟩ : MoI).doE 0 ⟨1, 1, 0, 0⟩ = 0 ∧ (⟨50, 100, [⟨1, 10, 0, 0, 2, 0, false⟩, ⟨2, 20, 0, 0, 2, 0, false⟩], ses [⟨2, 1, 0, 3, [], []⟩, ⟨3, 1, 0, 4, [], []⟩, tx0, tx0, tx0, tx0, tx0, tx0], 4, 3⟩ : MoI).doR 0 ⟨1, 1, 0, 0⟩ = ⟨0, 10, [], 0, 0⟩ ∧ (⟨50, 100, [⟨1, 10, 0, 0, 2, 0, false⟩, ⟨2, 20, 0, 0, 2, 0, false⟩], ses [⟨2, 1, 0, 3, [], []⟩, ⟨3, 1, 0, 4, [], []⟩, tx0, tx0, tx0, tx0, tx0, tx0], 4, 3⟩ : MoI).doM 0 ⟨1, 1, 0, 0⟩ = (⟨50, 100, [⟨1, 10, 0, 0, 2, 0, false⟩, ⟨2, 20, 0, 0, 2, 0, false⟩], ses [⟨2, 1, 1, 3, [], [⟨1, 1, true, false⟩]⟩, ⟨3, 1, 0, 4, [], []⟩, tx0, tx0, tx0, tx0, tx0, tx0], 4, 3⟩ : MoI) :=
  ⟨by rfl, by rfl, by exact MoI.ext rfl rfl rfl (ses_eq rfl rfl rfl rfl rfl rfl rfl rfl (fun _ => rfl)) rfl rfl⟩
theorem chain000_1 : (⟨50, 100, [⟨1, 10, 0, 0, 2, 0, false⟩, ⟨2, 20, 0, 0, 2, 0, false⟩], ses [⟨2, 1, 1, 3, [], [⟨1, 1, true, false⟩]⟩, ⟨3, 1, 0, 4, [], []⟩, tx0, tx0, tx0, tx0, tx0, tx0], 4, 3⟩ : MoI).doE 1 ⟨3, 1, 0, 99⟩ = 0 ∧ (⟨50, 100, [⟨1, 10, 0, 0, 2, 0, false⟩, ⟨2, 20, 0, 0, 2, 0, false⟩], ses [⟨2, 1, 1, 3, [], [⟨1, 1, true, false⟩]⟩, ⟨3, 1, 0, 4, [], []⟩, tx0, tx0, tx0, tx0, tx0, tx0], 4, 3⟩ : MoI).doR 1 ⟨3, 1, 0, 99⟩ = ⟨0, 0, [], 0, 0⟩ ∧ (⟨50, 100, [⟨1, 10, 0, 0, 2, 0, false⟩, ⟨2, 20, 0, 0, 2, 0, false⟩], ses [⟨2, 1, 1, 3, [], [⟨1, 1, true, false⟩]⟩, ⟨3, 1, 0, 4, [], []⟩, tx0, tx0, tx0, tx0, tx0, tx0], 4, 3⟩ : MoI).doM 1 ⟨3, 1, 0, 99⟩ = (⟨50, 100, [⟨1, 10, 0, 3, 2, 0, false⟩, ⟨2, 20, 0, 0, 2, 0, false⟩, ⟨1, 99, 3, 0, 0, 0, false⟩], ses [⟨2, 1, 1, 3, [], [⟨1, 1, true, false⟩]⟩, ⟨3, 1, 1, 4, [1], []⟩, tx0, tx0, tx0, tx0, tx0, tx0], 4, 3⟩ : MoI) :=
  ⟨by rfl, by rfl, by exact MoI.ext rfl rfl rfl (ses_eq rfl rfl rfl rfl rfl rfl rfl rfl (fun _ => rfl)) rfl rfl⟩
theorem chain000_2 : (⟨50, 100, [⟨1, 10, 0, 3, 2, 0, false⟩, ⟨2, 20, 0, 0, 2, 0, false⟩, ⟨1, 99, 3, 0, 0, 0, false⟩], ses [⟨2, 1, 1, 3, [], [⟨1, 1, true, false⟩]⟩, ⟨3, 1, 1, 4, [1], []⟩, tx0, tx0, tx0, tx0, tx0, tx0], 4, 3⟩ : MoI).doE 1 ⟨6, 0, 0, 0⟩ = 0 ∧ (⟨50, 100, [⟨1, 10, 0, 3, 2, 0, false⟩, ⟨2, 20, 0, 0, 2, 0, false⟩, ⟨1, 99, 3, 0, 0, 0, false⟩], ses [⟨2, 1, 1, 3, [], [⟨1, 1, true, false⟩]⟩, ⟨3, 1, 1, 4, [1], []⟩, tx0, tx0, tx0, tx0, tx0, tx0], 4, 3⟩ : MoI).doR 1 ⟨6, 0, 0, 0⟩ = ⟨0, 0, [], 3, 0⟩ ∧ (⟨50, 100, [⟨1, 10, 0, 3, 2, 0, false⟩, ⟨2, 20, 0, 0, 2, 0, false⟩, ⟨1, 99, 3, 0, 0, 0, false⟩], ses [⟨2, 1, 1, 3, [], [⟨1, 1, true, false⟩]⟩, ⟨3, 1, 1, 4, [1], []⟩, tx0, tx0, tx0, tx0, tx0, tx0], 4, 3⟩ : MoI).doM 1 ⟨6, 0, 0, 0⟩ = (⟨50, 100, [⟨1, 10, 0, 0, 2, 5, false⟩, ⟨2, 20, 0, 0, 2, 0, false⟩, ⟨1, 99, 0, 0, 5, 0, false⟩], ses [⟨2, 1, 1, 3, [], [⟨1, 1, true, false⟩]⟩, tx0, tx0, tx0, tx0, tx0, tx0, tx0], 5, 3⟩ : MoI) :=
  ⟨by rfl, by rfl, by exact MoI.ext rfl rfl rfl (ses_eq rfl rfl rfl rfl rfl rfl rfl rfl (fun _ => rfl)) rfl rfl⟩
theorem chain000_3 : (⟨50, 100, [⟨1, 10, 0, 0, 2, 5, false⟩, ⟨2, 20, 0, 0, 2, 0, false⟩, ⟨1, 99, 0, 0, 5, 0, false⟩], ses [⟨2, 1, 1, 3, [], [⟨1, 1, true, false⟩]⟩, tx0, tx0, tx0, tx0, tx0, tx0, tx0], 5, 3⟩ : MoI).doE 0 ⟨6, 0, 0, 0⟩ = 0 ∧ (⟨50, 100, [⟨1, 10, 0, 0, 2, 5, false⟩, ⟨2, 20, 0, 0, 2, 0, false⟩, ⟨1, 99, 0, 0, 5, 0, false⟩], ses [⟨2, 1, 1, 3, [], [⟨1, 1, true, false⟩]⟩, tx0, tx0, tx0, tx0, tx0, tx0, tx0], 5, 3⟩ : MoI).doR 0 ⟨6, 0, 0, 0⟩ = ⟨0, 0, [], 3, 0⟩ ∧ (⟨50, 100, [⟨1, 10, 0, 0, 2, 5, false⟩, ⟨2, 20, 0, 0, 2, 0, false⟩, ⟨1, 99, 0, 0, 5, 0, false⟩], ses [⟨2, 1, 1, 3, [], [⟨1, 1, true, false⟩]⟩, tx0, tx0, tx0, tx0, tx0, tx0, tx0], 5, 3⟩ : MoI).doM 0 ⟨6, 0, 0, 0⟩ = (⟨50, 100, [⟨1, 10, 0, 0, 2, 5, false⟩, ⟨2, 20, 0, 0, 2, 0, false⟩, ⟨1, 99, 0, 0, 5, 0, false⟩], ses [tx0, tx0, tx0, tx0, tx0, tx0, tx0, tx0], 6, 3⟩ : MoI) :=
  ⟨by rfl, by rfl, by exact MoI.ext rfl rfl rfl (ses_eq rfl rfl rfl rfl rfl rfl rfl rfl (fun _ => rfl)) rfl rfl⟩
theorem chain000 : ∃ y0 y1 y2 y3 y4 : MoI, pairM 1 1 = y0 ∧ y0.doE 0 ⟨1, 1, 0, 0⟩ = 0 ∧ y0.doR 0 ⟨1, 1, 0, 0⟩ = ⟨0, 10, [], 0, 0⟩ ∧ y0.doM 0 ⟨1, 1, 0, 0⟩ = y1 ∧ y1.doE 1 ⟨3, 1, 0, 99⟩ = 0 ∧ y1.doR 1 ⟨3, 1, 0, 99⟩ = ⟨0, 0, [], 0, 0⟩ ∧ y1.doM 1 ⟨3, 1, 0, 99⟩ = y2 ∧ y2.doE 1 ⟨6, 0, 0, 0⟩ = 0 ∧ y2.doR 1 ⟨6, 0, 0, 0⟩ = ⟨0, 0, [], 3, 0⟩ ∧ y2.doM 1 ⟨6, 0, 0, 0⟩ = y3 ∧ y3.doE 0 ⟨6, 0, 0, 0⟩ = 0 ∧ y3.doR 0 ⟨6, 0, 0, 0⟩ = ⟨0, 0, [], 3, 0⟩ ∧ y3.doM 0 ⟨6, 0, 0, 0⟩ = y4 :=
  ⟨⟨50, 100, [⟨1, 10, 0, 0, 2, 0, false⟩, ⟨2, 20, 0, 0, 2, 0, false⟩], ses [⟨2, 1, 0, 3, [], []⟩, ⟨3, 1, 0, 4, [], []⟩, tx0, tx0, tx0, tx0, tx0, tx0], 4, 3⟩,
    ⟨50, 100, [⟨1, 10, 0, 0, 2, 0, false⟩, ⟨2, 20, 0, 0, 2, 0, false⟩], ses [⟨2, 1, 1, 3, [], [⟨1, 1, true, false⟩]⟩, ⟨3, 1, 0, 4, [], []⟩, tx0, tx0, tx0, tx0, tx0, tx0], 4, 3⟩,
    ⟨50, 100, [⟨1, 10, 0, 3, 2, 0, false⟩, ⟨2, 20, 0, 0, 2, 0, false⟩, ⟨1, 99, 3, 0, 0, 0, false⟩], ses [⟨2, 1, 1, 3, [], [⟨1, 1, true, false⟩]⟩, ⟨3, 1, 1, 4, [1], []⟩, tx0, tx0, tx0, tx0, tx0, tx0], 4, 3⟩,
    ⟨50, 100, [⟨1, 10, 0, 0, 2, 5, false⟩, ⟨2, 20, 0, 0, 2, 0, false⟩, ⟨1, 99, 0, 0, 5, 0, false⟩], ses [⟨2, 1, 1, 3, [], [⟨1, 1, true, false⟩]⟩, tx0, tx0, tx0, tx0, tx0, tx0, tx0], 5, 3⟩,
    ⟨50, 100, [⟨1, 10, 0, 0, 2, 5, false⟩, ⟨2, 20, 0, 0, 2, 0, false⟩, ⟨1, 99, 0, 0, 5, 0, false⟩], ses [tx0, tx0, tx0, tx0, tx0, tx0, tx0, tx0], 6, 3⟩, pair_lit (by omega) (by omega), (chain000_0 ).1, (chain000_0 ).2.1, (chain000_0 ).2.2, (chain000_1 ).1, (chain000_1 ).2.1, (chain000_1 ).2.2, (chain000_2 ).1, (chain000_2 ).2.1, (chain000_2 ).2.2, (chain000_3 ).1, (chain000_3 ).2.1, (chain000_3 ).2.2⟩
set_option maxRecDepth 100000 in
set_option maxHeartbeats 16000000 in
theorem way_0_0_0 (a0 a1 a2 : Int) (w : World) (hm1 : a1 % 256 % 3 = 0) (hm2 : a2 % 256 % 3 = 0) (hm0 : a0 % 256 % 3 = 0) :
    Calls Try.prog 4 #[.int .i64 a0, .int .i64 a1, .int .i64 a2] w fun e w' => e = .returned (.bool true) ∧ Below w.heap.size w w' := by
  obtain ⟨q1, h1, e1, f1, l1, l1', p1, p1', w10, w11⟩ := levN a1 3 0 (by decide) (by decide) hm1
  obtain ⟨q2, h2, e2, f2, l2, l2', p2, p2', w20, w21⟩ := levN a2 3 0 (by decide) (by decide) hm2
  obtain ⟨q0, h0, e0, f0, l0, l0', p0, p0', w00, w01⟩ := levN a0 3 0 (by decide) (by decide) hm0
  have PA := pair_any 1 1 (by omega) (by omega) w
  clear w10 w11 w20 w21
  obtain ⟨y0, y1, y2, y3, y4, f0, f0_0, f0_1, f0_2, f1_0, f1_1, f1_2, f2_0, f2_1, f2_2, f3_0, f3_1, f3_2⟩ := chain000 
  have F0_0 := Lib.hid f0_0; have F0_1 := Lib.hid f0_1; have F0_2 := Lib.hid f0_2; have F1_0 := Lib.hid f1_0; have F1_1 := Lib.hid f1_1; have F1_2 := Lib.hid f1_2; have F2_0 := Lib.hid f2_0; have F2_1 := Lib.hid f2_1; have F2_2 := Lib.hid f2_2; have F3_0 := Lib.hid f3_0; have F3_1 := Lib.hid f3_1; have F3_2 := Lib.hid f3_2
  have F0 := Lib.hid f0
  clear f0 f0_0 f0_1 f0_2 f1_0 f1_1 f1_2 f2_0 f2_1 f2_2 f3_0 f3_1 f3_2
  go_enter Try.func4, Try.ntmps4
  go_wp2_with fail
  refine PA.mono ?_
  rintro e w1 ⟨m, S1, rfl, M1⟩
  rw [F0.out] at M1
  clear PA
  go_wp2_with fail; refine (md_res (M1.quiet (by repeat (first | exact Keep.refl _ _ | refine Keep.alloc ?_ _))) 0 1 1 0 0 (i64_n (by omega)) (i64_n (by omega)) (i64_n (by omega)) (i64_n (by omega)) (i64_n (by omega)) 0 0 10 [] 0 0 y1 F0_0.out F0_1.out F0_2.out).mono ?_; rintro e w2 ⟨A2, q2, c2, S2, rfl, o2, n2, M2, k2⟩; clear o2 n2 k2 M1
  go_wp2_with fail; refine (md_res (M2.quiet (by repeat (first | exact Keep.refl _ _ | refine Keep.alloc ?_ _))) 1 3 1 0 99 (i64_n (by omega)) (i64_n (by omega)) (i64_n (by omega)) (i64_n (by omega)) (i64_n (by omega)) 0 0 0 [] 0 0 y2 F1_0.out F1_1.out F1_2.out).mono ?_; rintro e w3 ⟨A3, q3, c3, S3, rfl, o3, n3, M3, k3⟩; clear o3 n3 k3 M2
  go_wp2_with fail; refine (md_res (M3.quiet (by repeat (first | exact Keep.refl _ _ | refine Keep.alloc ?_ _))) 1 6 0 0 0 (i64_n (by omega)) (i64_n (by omega)) (i64_n (by omega)) (i64_n (by omega)) (i64_n (by omega)) 0 0 0 [] 3 0 y3 F2_0.out F2_1.out F2_2.out).mono ?_; rintro e w4 ⟨A4, q4, c4, S4, rfl, o4, n4, M4, k4⟩; clear o4 n4 k4 M3
  go_wp2_with fail; refine (md_res (M4.quiet (by repeat (first | exact Keep.refl _ _ | refine Keep.alloc ?_ _))) 0 6 0 0 0 (i64_n (by omega)) (i64_n (by omega)) (i64_n (by omega)) (i64_n (by omega)) (i64_n (by omega)) 0 0 0 [] 3 0 y4 F3_0.out F3_1.out F3_2.out).mono ?_; rintro e w5 ⟨A5, q5, c5, S5, rfl, o5, n5, M5, k5⟩; clear o5 n5 k5 M4
  go_wp2_with fail
  refine (awake19_any _).mono ?_
  rintro e wz ⟨rfl, bz⟩
  go_wp2
  go_ret
  exact ⟨rfl, M5.fin bz⟩
theorem chain011_0 : (⟨50, 100, [⟨1, 10, 0, 0, 2, 0, false⟩, ⟨2, 20, 0, 0, 2, 0, false⟩], ses [⟨2, 2, 0, 3, [], []⟩, ⟨3, 1, 0, 4, [], []⟩, tx0, tx0, tx0, tx0, tx0, tx0], 4, 3⟩ : MoI).doE 0 ⟨1, 1, 0, 0⟩ = 0 ∧ (⟨50, 100, [⟨1, 10, 0, 0, 2, 0, false⟩, ⟨2, 20, 0, 0, 2, 0, false⟩], ses [⟨2, 2, 0, 3, [], []⟩, ⟨3, 1, 0, 4, [], []⟩, tx0, tx0, tx0, tx0, tx0, tx0], 4, 3⟩ : MoI).doR 0 ⟨1, 1, 0, 0⟩ = ⟨0, 10, [], 0, 0⟩ ∧ (⟨50, 100, [⟨1, 10, 0, 0, 2, 0, false⟩, ⟨2, 20, 0, 0, 2, 0, false⟩], ses [⟨2, 2, 0, 3, [], []⟩, ⟨3, 1, 0, 4, [], []⟩, tx0, tx0, tx0, tx0, tx0, tx0], 4, 3⟩ : MoI).doM 0 ⟨1, 1, 0, 0⟩ = (⟨50, 100, [⟨1, 10, 0, 0, 2, 0, false⟩, ⟨2, 20, 0, 0, 2, 0, false⟩], ses [⟨2, 2, 1, 3, [], [⟨1, 1, true, false⟩]⟩, ⟨3, 1, 0, 4, [], []⟩, tx0, tx0, tx0, tx0, tx0, tx0], 4, 3⟩ : MoI) :=
  ⟨by rfl, by rfl, by exact MoI.ext rfl rfl rfl (ses_eq rfl rfl rfl rfl rfl rfl rfl rfl (fun _ => rfl)) rfl rfl⟩
theorem chain011_1 : (⟨50, 100, [⟨1, 10, 0, 0, 2, 0, false⟩, ⟨2, 20, 0, 0, 2, 0, false⟩], ses [⟨2, 2, 1, 3, [], [⟨1, 1, true, false⟩]⟩, ⟨3, 1, 0, 4, [], []⟩, tx0, tx0, tx0, tx0, tx0, tx0], 4, 3⟩ : MoI).doE 1 ⟨4, 1, 0, 0⟩ = 0 ∧ (⟨50, 100, [⟨1, 10, 0, 0, 2, 0, false⟩, ⟨2, 20, 0, 0, 2, 0, false⟩], ses [⟨2, 2, 1, 3, [], [⟨1, 1, true, false⟩]⟩, ⟨3, 1, 0, 4, [], []⟩, tx0, tx0, tx0, tx0, tx0, tx0], 4, 3⟩ : MoI).doR 1 ⟨4, 1, 0, 0⟩ = ⟨0, 0, [], 0, 0⟩ ∧ (⟨50, 100, [⟨1, 10, 0, 0, 2, 0, false⟩, ⟨2, 20, 0, 0, 2, 0, false⟩], ses [⟨2, 2, 1, 3, [], [⟨1, 1, true, false⟩]⟩, ⟨3, 1, 0, 4, [], []⟩, tx0, tx0, tx0, tx0, tx0, tx0], 4, 3⟩ : MoI).doM 1 ⟨4, 1, 0, 0⟩ = (⟨50, 100, [⟨1, 10, 0, 3, 2, 0, false⟩, ⟨2, 20, 0, 0, 2, 0, false⟩], ses [⟨2, 2, 1, 3, [], [⟨1, 1, true, false⟩]⟩, ⟨3, 1, 1, 4, [1], []⟩, tx0, tx0, tx0, tx0, tx0, tx0], 4, 3⟩ : MoI) :=
  ⟨by rfl, by rfl, by exact MoI.ext rfl rfl rfl (ses_eq rfl rfl rfl rfl rfl rfl rfl rfl (fun _ => rfl)) rfl rfl⟩
theorem chain011_2 : (⟨50, 100, [⟨1, 10, 0, 3, 2, 0, false⟩, ⟨2, 20, 0, 0, 2, 0, false⟩], ses [⟨2, 2, 1, 3, [], [⟨1, 1, true, false⟩]⟩, ⟨3, 1, 1, 4, [1], []⟩, tx0, tx0, tx0, tx0, tx0, tx0], 4, 3⟩ : MoI).doE 1 ⟨6, 0, 0, 0⟩ = 0 ∧ (⟨50, 100, [⟨1, 10, 0, 3, 2, 0, false⟩, ⟨2, 20, 0, 0, 2, 0, false⟩], ses [⟨2, 2, 1, 3, [], [⟨1, 1, true, false⟩]⟩, ⟨3, 1, 1, 4, [1], []⟩, tx0, tx0, tx0, tx0, tx0, tx0], 4, 3⟩ : MoI).doR 1 ⟨6, 0, 0, 0⟩ = ⟨0, 0, [], 3, 0⟩ ∧ (⟨50, 100, [⟨1, 10, 0, 3, 2, 0, false⟩, ⟨2, 20, 0, 0, 2, 0, false⟩], ses [⟨2, 2, 1, 3, [], [⟨1, 1, true, false⟩]⟩, ⟨3, 1, 1, 4, [1], []⟩, tx0, tx0, tx0, tx0, tx0, tx0], 4, 3⟩ : MoI).doM 1 ⟨6, 0, 0, 0⟩ = (⟨50, 100, [⟨1, 10, 0, 0, 2, 5, false⟩, ⟨2, 20, 0, 0, 2, 0, false⟩], ses [⟨2, 2, 1, 3, [], [⟨1, 1, true, false⟩]⟩, tx0, tx0, tx0, tx0, tx0, tx0, tx0], 5, 3⟩ : MoI) :=
  ⟨by rfl, by rfl, by exact MoI.ext rfl rfl rfl (ses_eq rfl rfl rfl rfl rfl rfl rfl rfl (fun _ => rfl)) rfl rfl⟩
theorem chain011_3 : (⟨50, 100, [⟨1, 10, 0, 0, 2, 5, false⟩, ⟨2, 20, 0, 0, 2, 0, false⟩], ses [⟨2, 2, 1, 3, [], [⟨1, 1, true, false⟩]⟩, tx0, tx0, tx0, tx0, tx0, tx0, tx0], 5, 3⟩ : MoI).doE 0 ⟨6, 0, 0, 0⟩ = 0 ∧ (⟨50, 100, [⟨1, 10, 0, 0, 2, 5, false⟩, ⟨2, 20, 0, 0, 2, 0, false⟩], ses [⟨2, 2, 1, 3, [], [⟨1, 1, true, false⟩]⟩, tx0, tx0, tx0, tx0, tx0, tx0, tx0], 5, 3⟩ : MoI).doR 0 ⟨6, 0, 0, 0⟩ = ⟨14, 0, [], 4, 3⟩ ∧ (⟨50, 100, [⟨1, 10, 0, 0, 2, 5, false⟩, ⟨2, 20, 0, 0, 2, 0, false⟩], ses [⟨2, 2, 1, 3, [], [⟨1, 1, true, false⟩]⟩, tx0, tx0, tx0, tx0, tx0, tx0, tx0], 5, 3⟩ : MoI).doM 0 ⟨6, 0, 0, 0⟩ = (⟨50, 100, [⟨1, 10, 0, 0, 2, 5, false⟩, ⟨2, 20, 0, 0, 2, 0, false⟩], ses [tx0, tx0, tx0, tx0, tx0, tx0, tx0, tx0], 6, 3⟩ : MoI) :=
  ⟨by rfl, by rfl, by exact MoI.ext rfl rfl rfl (ses_eq rfl rfl rfl rfl rfl rfl rfl rfl (fun _ => rfl)) rfl rfl⟩
theorem chain011 : ∃ y0 y1 y2 y3 y4 : MoI, pairM 2 1 = y0 ∧ y0.doE 0 ⟨1, 1, 0, 0⟩ = 0 ∧ y0.doR 0 ⟨1, 1, 0, 0⟩ = ⟨0, 10, [], 0, 0⟩ ∧ y0.doM 0 ⟨1, 1, 0, 0⟩ = y1 ∧ y1.doE 1 ⟨4, 1, 0, 0⟩ = 0 ∧ y1.doR 1 ⟨4, 1, 0, 0⟩ = ⟨0, 0, [], 0, 0⟩ ∧ y1.doM 1 ⟨4, 1, 0, 0⟩ = y2 ∧ y2.doE 1 ⟨6, 0, 0, 0⟩ = 0 ∧ y2.doR 1 ⟨6, 0, 0, 0⟩ = ⟨0, 0, [], 3, 0⟩ ∧ y2.doM 1 ⟨6, 0, 0, 0⟩ = y3 ∧ y3.doE 0 ⟨6, 0, 0, 0⟩ = 0 ∧ y3.doR 0 ⟨6, 0, 0, 0⟩ = ⟨14, 0, [], 4, 3⟩ ∧ y3.doM 0 ⟨6, 0, 0, 0⟩ = y4 :=
  ⟨⟨50, 100, [⟨1, 10, 0, 0, 2, 0, false⟩, ⟨2, 20, 0, 0, 2, 0, false⟩], ses [⟨2, 2, 0, 3, [], []⟩, ⟨3, 1, 0, 4, [], []⟩, tx0, tx0, tx0, tx0, tx0, tx0], 4, 3⟩,
    ⟨50, 100, [⟨1, 10, 0, 0, 2, 0, false⟩, ⟨2, 20, 0, 0, 2, 0, false⟩], ses [⟨2, 2, 1, 3, [], [⟨1, 1, true, false⟩]⟩, ⟨3, 1, 0, 4, [], []⟩, tx0, tx0, tx0, tx0, tx0, tx0], 4, 3⟩,
    ⟨50, 100, [⟨1, 10, 0, 3, 2, 0, false⟩, ⟨2, 20, 0, 0, 2, 0, false⟩], ses [⟨2, 2, 1, 3, [], [⟨1, 1, true, false⟩]⟩, ⟨3, 1, 1, 4, [1], []⟩, tx0, tx0, tx0, tx0, tx0, tx0], 4, 3⟩,
    ⟨50, 100, [⟨1, 10, 0, 0, 2, 5, false⟩, ⟨2, 20, 0, 0, 2, 0, false⟩], ses [⟨2, 2, 1, 3, [], [⟨1, 1, true, false⟩]⟩, tx0, tx0, tx0, tx0, tx0, tx0, tx0], 5, 3⟩,
    ⟨50, 100, [⟨1, 10, 0, 0, 2, 5, false⟩, ⟨2, 20, 0, 0, 2, 0, false⟩], ses [tx0, tx0, tx0, tx0, tx0, tx0, tx0, tx0], 6, 3⟩, pair_lit (by omega) (by omega), (chain011_0 ).1, (chain011_0 ).2.1, (chain011_0 ).2.2, (chain011_1 ).1, (chain011_1 ).2.1, (chain011_1 ).2.2, (chain011_2 ).1, (chain011_2 ).2.1, (chain011_2 ).2.2, (chain011_3 ).1, (chain011_3 ).2.1, (chain011_3 ).2.2⟩
set_option maxRecDepth 100000 in
set_option maxHeartbeats 16000000 in
theorem way_0_1_1 (a0 a1 a2 : Int) (w : World) (hm1 : a1 % 256 % 3 = 0) (hm2 : a2 % 256 % 3 = 1) (hm0 : a0 % 256 % 3 = 1) :
    Calls Try.prog 4 #[.int .i64 a0, .int .i64 a1, .int .i64 a2] w fun e w' => e = .returned (.bool true) ∧ Below w.heap.size w w' := by
  obtain ⟨q1, h1, e1, f1, l1, l1', p1, p1', w10, w11⟩ := levN a1 3 0 (by decide) (by decide) hm1
  obtain ⟨q2, h2, e2, f2, l2, l2', p2, p2', w20, w21⟩ := levN a2 3 1 (by decide) (by decide) hm2
  obtain ⟨q0, h0, e0, f0, l0, l0', p0, p0', w00, w01⟩ := levN a0 3 1 (by decide) (by decide) hm0
  have PA := pair_any 2 1 (by omega) (by omega) w
  clear w10 w11 w20 w21
  obtain ⟨y0, y1, y2, y3, y4, f0, f0_0, f0_1, f0_2, f1_0, f1_1, f1_2, f2_0, f2_1, f2_2, f3_0, f3_1, f3_2⟩ := chain011 
  have F0_0 := Lib.hid f0_0; have F0_1 := Lib.hid f0_1; have F0_2 := Lib.hid f0_2; have F1_0 := Lib.hid f1_0; have F1_1 := Lib.hid f1_1; have F1_2 := Lib.hid f1_2; have F2_0 := Lib.hid f2_0; have F2_1 := Lib.hid f2_1; have F2_2 := Lib.hid f2_2; have F3_0 := Lib.hid f3_0; have F3_1 := Lib.hid f3_1; have F3_2 := Lib.hid f3_2
  have F0 := Lib.hid f0
  clear f0 f0_0 f0_1 f0_2 f1_0 f1_1 f1_2 f2_0 f2_1 f2_2 f3_0 f3_1 f3_2
  go_enter Try.func4, Try.ntmps4
  go_wp2_with fail
  refine PA.mono ?_
  rintro e w1 ⟨m, S1, rfl, M1⟩
  rw [F0.out] at M1
  clear PA
  go_wp2_with fail; refine (md_res (M1.quiet (by repeat (first | exact Keep.refl _ _ | refine Keep.alloc ?_ _))) 0 1 1 0 0 (i64_n (by omega)) (i64_n (by omega)) (i64_n (by omega)) (i64_n (by omega)) (i64_n (by omega)) 0 0 10 [] 0 0 y1 F0_0.out F0_1.out F0_2.out).mono ?_; rintro e w2 ⟨A2, q2, c2, S2, rfl, o2, n2, M2, k2⟩; clear o2 n2 k2 M1
  go_wp2_with fail; refine (md_res (M2.quiet (by repeat (first | exact Keep.refl _ _ | refine Keep.alloc ?_ _))) 1 4 1 0 0 (i64_n (by omega)) (i64_n (by omega)) (i64_n (by omega)) (i64_n (by omega)) (i64_n (by omega)) 0 0 0 [] 0 0 y2 F1_0.out F1_1.out F1_2.out).mono ?_; rintro e w3 ⟨A3, q3, c3, S3, rfl, o3, n3, M3, k3⟩; clear o3 n3 k3 M2
  go_wp2_with fail; refine (md_res (M3.quiet (by repeat (first | exact Keep.refl _ _ | refine Keep.alloc ?_ _))) 1 6 0 0 0 (i64_n (by omega)) (i64_n (by omega)) (i64_n (by omega)) (i64_n (by omega)) (i64_n (by omega)) 0 0 0 [] 3 0 y3 F2_0.out F2_1.out F2_2.out).mono ?_; rintro e w4 ⟨A4, q4, c4, S4, rfl, o4, n4, M4, k4⟩; clear o4 n4 k4 M3
  go_wp2_with fail; refine (md_res (M4.quiet (by repeat (first | exact Keep.refl _ _ | refine Keep.alloc ?_ _))) 0 6 0 0 0 (i64_n (by omega)) (i64_n (by omega)) (i64_n (by omega)) (i64_n (by omega)) (i64_n (by omega)) 0 14 0 [] 4 3 y4 F3_0.out F3_1.out F3_2.out).mono ?_; rintro e w5 ⟨A5, q5, c5, S5, rfl, o5, n5, M5, k5⟩; clear o5 n5 k5 M4
  go_wp2_with fail
  refine (awake19_any _).mono ?_
  rintro e wz ⟨rfl, bz⟩
  go_wp2
  go_ret
  exact ⟨rfl, M5.fin bz⟩
theorem chain11_0 (L : Int) (hL : 1 ≤ L ∧ L ≤ 3) : (⟨50, 100, [⟨1, 10, 0, 0, 2, 0, false⟩, ⟨2, 20, 0, 0, 2, 0, false⟩], ses [⟨2, L, 0, 3, [], []⟩, ⟨3, 1, 0, 4, [], []⟩, tx0, tx0, tx0, tx0, tx0, tx0], 4, 3⟩ : MoI).doE 0 ⟨1, 3, 0, 0⟩ = 0 ∧ (⟨50, 100, [⟨1, 10, 0, 0, 2, 0, false⟩, ⟨2, 20, 0, 0, 2, 0, false⟩], ses [⟨2, L, 0, 3, [], []⟩, ⟨3, 1, 0, 4, [], []⟩, tx0, tx0, tx0, tx0, tx0, tx0], 4, 3⟩ : MoI).doR 0 ⟨1, 3, 0, 0⟩ = ⟨11, 0, [], 0, 0⟩ ∧ (⟨50, 100, [⟨1, 10, 0, 0, 2, 0, false⟩, ⟨2, 20, 0, 0, 2, 0, false⟩], ses [⟨2, L, 0, 3, [], []⟩, ⟨3, 1, 0, 4, [], []⟩, tx0, tx0, tx0, tx0, tx0, tx0], 4, 3⟩ : MoI).doM 0 ⟨1, 3, 0, 0⟩ = (⟨50, 100, [⟨1, 10, 0, 0, 2, 0, false⟩, ⟨2, 20, 0, 0, 2, 0, false⟩], ses [⟨2, L, 1, 3, [], [⟨3, 3, false, false⟩]⟩, ⟨3, 1, 0, 4, [], []⟩, tx0, tx0, tx0, tx0, tx0, tx0], 4, 3⟩ : MoI) :=
  ⟨by rfl, by rfl, by exact MoI.ext rfl rfl rfl (ses_eq rfl rfl rfl rfl rfl rfl rfl rfl (fun _ => rfl)) rfl rfl⟩
theorem chain11_1 (L : Int) (hL : 1 ≤ L ∧ L ≤ 3) : (⟨50, 100, [⟨1, 10, 0, 0, 2, 0, false⟩, ⟨2, 20, 0, 0, 2, 0, false⟩], ses [⟨2, L, 1, 3, [], [⟨3, 3, false, false⟩]⟩, ⟨3, 1, 0, 4, [], []⟩, tx0, tx0, tx0, tx0, tx0, tx0], 4, 3⟩ : MoI).doE 1 ⟨4, 1, 0, 0⟩ = 0 ∧ (⟨50, 100, [⟨1, 10, 0, 0, 2, 0, false⟩, ⟨2, 20, 0, 0, 2, 0, false⟩], ses [⟨2, L, 1, 3, [], [⟨3, 3, false, false⟩]⟩, ⟨3, 1, 0, 4, [], []⟩, tx0, tx0, tx0, tx0, tx0, tx0], 4, 3⟩ : MoI).doR 1 ⟨4, 1, 0, 0⟩ = ⟨0, 0, [], 0, 0⟩ ∧ (⟨50, 100, [⟨1, 10, 0, 0, 2, 0, false⟩, ⟨2, 20, 0, 0, 2, 0, false⟩], ses [⟨2, L, 1, 3, [], [⟨3, 3, false, false⟩]⟩, ⟨3, 1, 0, 4, [], []⟩, tx0, tx0, tx0, tx0, tx0, tx0], 4, 3⟩ : MoI).doM 1 ⟨4, 1, 0, 0⟩ = (⟨50, 100, [⟨1, 10, 0, 3, 2, 0, false⟩, ⟨2, 20, 0, 0, 2, 0, false⟩], ses [⟨2, L, 1, 3, [], [⟨3, 3, false, false⟩]⟩, ⟨3, 1, 1, 4, [1], []⟩, tx0, tx0, tx0, tx0, tx0, tx0], 4, 3⟩ : MoI) :=
  ⟨by rfl, by rfl, by exact MoI.ext rfl rfl rfl (ses_eq rfl rfl rfl rfl rfl rfl rfl rfl (fun _ => rfl)) rfl rfl⟩
theorem chain11_2 (L : Int) (hL : 1 ≤ L ∧ L ≤ 3) : (⟨50, 100, [⟨1, 10, 0, 3, 2, 0, false⟩, ⟨2, 20, 0, 0, 2, 0, false⟩], ses [⟨2, L, 1, 3, [], [⟨3, 3, false, false⟩]⟩, ⟨3, 1, 1, 4, [1], []⟩, tx0, tx0, tx0, tx0, tx0, tx0], 4, 3⟩ : MoI).doE 1 ⟨6, 0, 0, 0⟩ = 0 ∧ (⟨50, 100, [⟨1, 10, 0, 3, 2, 0, false⟩, ⟨2, 20, 0, 0, 2, 0, false⟩], ses [⟨2, L, 1, 3, [], [⟨3, 3, false, false⟩]⟩, ⟨3, 1, 1, 4, [1], []⟩, tx0, tx0, tx0, tx0, tx0, tx0], 4, 3⟩ : MoI).doR 1 ⟨6, 0, 0, 0⟩ = ⟨0, 0, [], 3, 0⟩ ∧ (⟨50, 100, [⟨1, 10, 0, 3, 2, 0, false⟩, ⟨2, 20, 0, 0, 2, 0, false⟩], ses [⟨2, L, 1, 3, [], [⟨3, 3, false, false⟩]⟩, ⟨3, 1, 1, 4, [1], []⟩, tx0, tx0, tx0, tx0, tx0, tx0], 4, 3⟩ : MoI).doM 1 ⟨6, 0, 0, 0⟩ = (⟨50, 100, [⟨1, 10, 0, 0, 2, 5, false⟩, ⟨2, 20, 0, 0, 2, 0, false⟩], ses [⟨2, L, 1, 3, [], [⟨3, 3, false, false⟩]⟩, tx0, tx0, tx0, tx0, tx0, tx0, tx0], 5, 3⟩ : MoI) :=
  ⟨by rfl, by rfl, by exact MoI.ext rfl rfl rfl (ses_eq rfl rfl rfl rfl rfl rfl rfl rfl (fun _ => rfl)) rfl rfl⟩
theorem chain11_3 (L : Int) (hL : 1 ≤ L ∧ L ≤ 3) : (⟨50, 100, [⟨1, 10, 0, 0, 2, 5, false⟩, ⟨2, 20, 0, 0, 2, 0, false⟩], ses [⟨2, L, 1, 3, [], [⟨3, 3, false, false⟩]⟩, tx0, tx0, tx0, tx0, tx0, tx0, tx0], 5, 3⟩ : MoI).doE 0 ⟨6, 0, 0, 0⟩ = 0 ∧ (⟨50, 100, [⟨1, 10, 0, 0, 2, 5, false⟩, ⟨2, 20, 0, 0, 2, 0, false⟩], ses [⟨2, L, 1, 3, [], [⟨3, 3, false, false⟩]⟩, tx0, tx0, tx0, tx0, tx0, tx0, tx0], 5, 3⟩ : MoI).doR 0 ⟨6, 0, 0, 0⟩ = ⟨0, 0, [], 3, 0⟩ ∧ (⟨50, 100, [⟨1, 10, 0, 0, 2, 5, false⟩, ⟨2, 20, 0, 0, 2, 0, false⟩], ses [⟨2, L, 1, 3, [], [⟨3, 3, false, false⟩]⟩, tx0, tx0, tx0, tx0, tx0, tx0, tx0], 5, 3⟩ : MoI).doM 0 ⟨6, 0, 0, 0⟩ = (⟨50, 100, [⟨1, 10, 0, 0, 2, 5, false⟩, ⟨2, 20, 0, 0, 2, 0, false⟩], ses [tx0, tx0, tx0, tx0, tx0, tx0, tx0, tx0], 6, 3⟩ : MoI) :=
  ⟨by rcases level_cases hL with rfl | rfl | rfl <;> rfl, by rcases level_cases hL with rfl | rfl | rfl <;> rfl, by rcases level_cases hL with rfl | rfl | rfl <;> exact MoI.ext rfl rfl rfl (ses_eq rfl rfl rfl rfl rfl rfl rfl rfl (fun _ => rfl)) rfl rfl⟩
theorem chain11 (L : Int) (hL : 1 ≤ L ∧ L ≤ 3) : ∃ y0 y1 y2 y3 y4 : MoI, pairM L 1 = y0 ∧ y0.doE 0 ⟨1, 3, 0, 0⟩ = 0 ∧ y0.doR 0 ⟨1, 3, 0, 0⟩ = ⟨11, 0, [], 0, 0⟩ ∧ y0.doM 0 ⟨1, 3, 0, 0⟩ = y1 ∧ y1.doE 1 ⟨4, 1, 0, 0⟩ = 0 ∧ y1.doR 1 ⟨4, 1, 0, 0⟩ = ⟨0, 0, [], 0, 0⟩ ∧ y1.doM 1 ⟨4, 1, 0, 0⟩ = y2 ∧ y2.doE 1 ⟨6, 0, 0, 0⟩ = 0 ∧ y2.doR 1 ⟨6, 0, 0, 0⟩ = ⟨0, 0, [], 3, 0⟩ ∧ y2.doM 1 ⟨6, 0, 0, 0⟩ = y3 ∧ y3.doE 0 ⟨6, 0, 0, 0⟩ = 0 ∧ y3.doR 0 ⟨6, 0, 0, 0⟩ = ⟨0, 0, [], 3, 0⟩ ∧ y3.doM 0 ⟨6, 0, 0, 0⟩ = y4 :=
  ⟨⟨50, 100, [⟨1, 10, 0, 0, 2, 0, false⟩, ⟨2, 20, 0, 0, 2, 0, false⟩], ses [⟨2, L, 0, 3, [], []⟩, ⟨3, 1, 0, 4, [], []⟩, tx0, tx0, tx0, tx0, tx0, tx0], 4, 3⟩,
    ⟨50, 100, [⟨1, 10, 0, 0, 2, 0, false⟩, ⟨2, 20, 0, 0, 2, 0, false⟩], ses [⟨2, L, 1, 3, [], [⟨3, 3, false, false⟩]⟩, ⟨3, 1, 0, 4, [], []⟩, tx0, tx0, tx0, tx0, tx0, tx0], 4, 3⟩,
    ⟨50, 100, [⟨1, 10, 0, 3, 2, 0, false⟩, ⟨2, 20, 0, 0, 2, 0, false⟩], ses [⟨2, L, 1, 3, [], [⟨3, 3, false, false⟩]⟩, ⟨3, 1, 1, 4, [1], []⟩, tx0, tx0, tx0, tx0, tx0, tx0], 4, 3⟩,
    ⟨50, 100, [⟨1, 10, 0, 0, 2, 5, false⟩, ⟨2, 20, 0, 0, 2, 0, false⟩], ses [⟨2, L, 1, 3, [], [⟨3, 3, false, false⟩]⟩, tx0, tx0, tx0, tx0, tx0, tx0, tx0], 5, 3⟩,
    ⟨50, 100, [⟨1, 10, 0, 0, 2, 5, false⟩, ⟨2, 20, 0, 0, 2, 0, false⟩], ses [tx0, tx0, tx0, tx0, tx0, tx0, tx0, tx0], 6, 3⟩, pair_lit hL (by omega), (chain11_0 L hL).1, (chain11_0 L hL).2.1, (chain11_0 L hL).2.2, (chain11_1 L hL).1, (chain11_1 L hL).2.1, (chain11_1 L hL).2.2, (chain11_2 L hL).1, (chain11_2 L hL).2.1, (chain11_2 L hL).2.2, (chain11_3 L hL).1, (chain11_3 L hL).2.1, (chain11_3 L hL).2.2⟩
set_option maxRecDepth 100000 in
set_option maxHeartbeats 16000000 in
theorem way_1_1 (a0 a1 a2 : Int) (w : World) (hm1 : a1 % 256 % 3 = 1) (hm2 : a2 % 256 % 3 = 1) (m0 : Int) (hm0 : a0 % 256 % 3 = m0) :
    Calls Try.prog 4 #[.int .i64 a0, .int .i64 a1, .int .i64 a2] w fun e w' => e = .returned (.bool true) ∧ Below w.heap.size w w' := by
  obtain ⟨q1, h1, e1, f1, l1, l1', p1, p1', w10, w11⟩ := levN a1 3 1 (by decide) (by decide) hm1
  obtain ⟨q2, h2, e2, f2, l2, l2', p2, p2', w20, w21⟩ := levN a2 3 1 (by decide) (by decide) hm2
  obtain ⟨q0, h0, e0, f0, l0, l0', p0, p0', w00, w01⟩ := levN a0 3 m0 (by decide) (by decide) hm0
  have hL : 1 ≤ m0 + 1 ∧ m0 + 1 ≤ 3 := by omega
  have PA := pair_any (m0 + 1) 1 hL (by omega) w
  clear w10 w11 w20 w21
  obtain ⟨y0, y1, y2, y3, y4, f0, f0_0, f0_1, f0_2, f1_0, f1_1, f1_2, f2_0, f2_1, f2_2, f3_0, f3_1, f3_2⟩ := chain11 (m0 + 1) hL
  have F0_0 := Lib.hid f0_0; have F0_1 := Lib.hid f0_1; have F0_2 := Lib.hid f0_2; have F1_0 := Lib.hid f1_0; have F1_1 := Lib.hid f1_1; have F1_2 := Lib.hid f1_2; have F2_0 := Lib.hid f2_0; have F2_1 := Lib.hid f2_1; have F2_2 := Lib.hid f2_2; have F3_0 := Lib.hid f3_0; have F3_1 := Lib.hid f3_1; have F3_2 := Lib.hid f3_2
  have F0 := Lib.hid f0
  clear f0 f0_0 f0_1 f0_2 f1_0 f1_1 f1_2 f2_0 f2_1 f2_2 f3_0 f3_1 f3_2
  go_enter Try.func4, Try.ntmps4
  go_wp2_with fail
  refine PA.mono ?_
  rintro e w1 ⟨m, S1, rfl, M1⟩
  rw [F0.out] at M1
  clear PA
  go_wp2_with fail; refine (md_res (M1.quiet (by repeat (first | exact Keep.refl _ _ | refine Keep.alloc ?_ _))) 0 1 3 0 0 (i64_n (by omega)) (i64_n (by omega)) (i64_n (by omega)) (i64_n (by omega)) (i64_n (by omega)) 0 11 0 [] 0 0 y1 F0_0.out F0_1.out F0_2.out).mono ?_; rintro e w2 ⟨A2, q2, c2, S2, rfl, o2, n2, M2, k2⟩; clear o2 n2 k2 M1
  go_wp2_with fail; refine (md_res (M2.quiet (by repeat (first | exact Keep.refl _ _ | refine Keep.alloc ?_ _))) 1 4 1 0 0 (i64_n (by omega)) (i64_n (by omega)) (i64_n (by omega)) (i64_n (by omega)) (i64_n (by omega)) 0 0 0 [] 0 0 y2 F1_0.out F1_1.out F1_2.out).mono ?_; rintro e w3 ⟨A3, q3, c3, S3, rfl, o3, n3, M3, k3⟩; clear o3 n3 k3 M2
  go_wp2_with fail; refine (md_res (M3.quiet (by repeat (first | exact Keep.refl _ _ | refine Keep.alloc ?_ _))) 1 6 0 0 0 (i64_n (by omega)) (i64_n (by omega)) (i64_n (by omega)) (i64_n (by omega)) (i64_n (by omega)) 0 0 0 [] 3 0 y3 F2_0.out F2_1.out F2_2.out).mono ?_; rintro e w4 ⟨A4, q4, c4, S4, rfl, o4, n4, M4, k4⟩; clear o4 n4 k4 M3
  go_wp2_with fail; refine (md_res (M4.quiet (by repeat (first | exact Keep.refl _ _ | refine Keep.alloc ?_ _))) 0 6 0 0 0 (i64_n (by omega)) (i64_n (by omega)) (i64_n (by omega)) (i64_n (by omega)) (i64_n (by omega)) 0 0 0 [] 3 0 y4 F3_0.out F3_1.out F3_2.out).mono ?_; rintro e w5 ⟨A5, q5, c5, S5, rfl, o5, n5, M5, k5⟩; clear o5 n5 k5 M4
  go_wp2_with fail
  refine (awake19_any _).mono ?_
  rintro e wz ⟨rfl, bz⟩
  go_wp2
  go_ret
  exact ⟨rfl, M5.fin bz⟩
theorem chain200_0 : (⟨50, 100, [⟨1, 10, 0, 0, 2, 0, false⟩, ⟨2, 20, 0, 0, 2, 0, false⟩], ses [⟨2, 1, 0, 3, [], []⟩, ⟨3, 1, 0, 4, [], []⟩, tx0, tx0, tx0, tx0, tx0, tx0], 4, 3⟩ : MoI).doE 0 ⟨5, 1, 5, 0⟩ = 0 ∧ (⟨50, 100, [⟨1, 10, 0, 0, 2, 0, false⟩, ⟨2, 20, 0, 0, 2, 0, false⟩], ses [⟨2, 1, 0, 3, [], []⟩, ⟨3, 1, 0, 4, [], []⟩, tx0, tx0, tx0, tx0, tx0, tx0], 4, 3⟩ : MoI).doR 0 ⟨5, 1, 5, 0⟩ = ⟨0, 0, [(1, 10), (2, 20)], 0, 0⟩ ∧ (⟨50, 100, [⟨1, 10, 0, 0, 2, 0, false⟩, ⟨2, 20, 0, 0, 2, 0, false⟩], ses [⟨2, 1, 0, 3, [], []⟩, ⟨3, 1, 0, 4, [], []⟩, tx0, tx0, tx0, tx0, tx0, tx0], 4, 3⟩ : MoI).doM 0 ⟨5, 1, 5, 0⟩ = (⟨50, 100, [⟨1, 10, 0, 0, 2, 0, false⟩, ⟨2, 20, 0, 0, 2, 0, false⟩], ses [⟨2, 1, 1, 3, [], [⟨1, 5, false, true⟩]⟩, ⟨3, 1, 0, 4, [], []⟩, tx0, tx0, tx0, tx0, tx0, tx0], 4, 3⟩ : MoI) :=
  ⟨by rfl, by rfl, by exact MoI.ext rfl rfl rfl (ses_eq rfl rfl rfl rfl rfl rfl rfl rfl (fun _ => rfl)) rfl rfl⟩
theorem chain200_1 : (⟨50, 100, [⟨1, 10, 0, 0, 2, 0, false⟩, ⟨2, 20, 0, 0, 2, 0, false⟩], ses [⟨2, 1, 1, 3, [], [⟨1, 5, false, true⟩]⟩, ⟨3, 1, 0, 4, [], []⟩, tx0, tx0, tx0, tx0, tx0, tx0], 4, 3⟩ : MoI).doE 1 ⟨3, 1, 0, 99⟩ = 0 ∧ (⟨50, 100, [⟨1, 10, 0, 0, 2, 0, false⟩, ⟨2, 20, 0, 0, 2, 0, false⟩], ses [⟨2, 1, 1, 3, [], [⟨1, 5, false, true⟩]⟩, ⟨3, 1, 0, 4, [], []⟩, tx0, tx0, tx0, tx0, tx0, tx0], 4, 3⟩ : MoI).doR 1 ⟨3, 1, 0, 99⟩ = ⟨0, 0, [], 0, 0⟩ ∧ (⟨50, 100, [⟨1, 10, 0, 0, 2, 0, false⟩, ⟨2, 20, 0, 0, 2, 0, false⟩], ses [⟨2, 1, 1, 3, [], [⟨1, 5, false, true⟩]⟩, ⟨3, 1, 0, 4, [], []⟩, tx0, tx0, tx0, tx0, tx0, tx0], 4, 3⟩ : MoI).doM 1 ⟨3, 1, 0, 99⟩ = (⟨50, 100, [⟨1, 10, 0, 3, 2, 0, false⟩, ⟨2, 20, 0, 0, 2, 0, false⟩, ⟨1, 99, 3, 0, 0, 0, false⟩], ses [⟨2, 1, 1, 3, [], [⟨1, 5, false, true⟩]⟩, ⟨3, 1, 1, 4, [1], []⟩, tx0, tx0, tx0, tx0, tx0, tx0], 4, 3⟩ : MoI) :=
  ⟨by rfl, by rfl, by exact MoI.ext rfl rfl rfl (ses_eq rfl rfl rfl rfl rfl rfl rfl rfl (fun _ => rfl)) rfl rfl⟩
theorem chain200_2 : (⟨50, 100, [⟨1, 10, 0, 3, 2, 0, false⟩, ⟨2, 20, 0, 0, 2, 0, false⟩, ⟨1, 99, 3, 0, 0, 0, false⟩], ses [⟨2, 1, 1, 3, [], [⟨1, 5, false, true⟩]⟩, ⟨3, 1, 1, 4, [1], []⟩, tx0, tx0, tx0, tx0, tx0, tx0], 4, 3⟩ : MoI).doE 1 ⟨6, 0, 0, 0⟩ = 0 ∧ (⟨50, 100, [⟨1, 10, 0, 3, 2, 0, false⟩, ⟨2, 20, 0, 0, 2, 0, false⟩, ⟨1, 99, 3, 0, 0, 0, false⟩], ses [⟨2, 1, 1, 3, [], [⟨1, 5, false, true⟩]⟩, ⟨3, 1, 1, 4, [1], []⟩, tx0, tx0, tx0, tx0, tx0, tx0], 4, 3⟩ : MoI).doR 1 ⟨6, 0, 0, 0⟩ = ⟨0, 0, [], 3, 0⟩ ∧ (⟨50, 100, [⟨1, 10, 0, 3, 2, 0, false⟩, ⟨2, 20, 0, 0, 2, 0, false⟩, ⟨1, 99, 3, 0, 0, 0, false⟩], ses [⟨2, 1, 1, 3, [], [⟨1, 5, false, true⟩]⟩, ⟨3, 1, 1, 4, [1], []⟩, tx0, tx0, tx0, tx0, tx0, tx0], 4, 3⟩ : MoI).doM 1 ⟨6, 0, 0, 0⟩ = (⟨50, 100, [⟨1, 10, 0, 0, 2, 5, false⟩, ⟨2, 20, 0, 0, 2, 0, false⟩, ⟨1, 99, 0, 0, 5, 0, false⟩], ses [⟨2, 1, 1, 3, [], [⟨1, 5, false, true⟩]⟩, tx0, tx0, tx0, tx0, tx0, tx0, tx0], 5, 3⟩ : MoI) :=
  ⟨by rfl, by rfl, by exact MoI.ext rfl rfl rfl (ses_eq rfl rfl rfl rfl rfl rfl rfl rfl (fun _ => rfl)) rfl rfl⟩
theorem chain200_3 : (⟨50, 100, [⟨1, 10, 0, 0, 2, 5, false⟩, ⟨2, 20, 0, 0, 2, 0, false⟩, ⟨1, 99, 0, 0, 5, 0, false⟩], ses [⟨2, 1, 1, 3, [], [⟨1, 5, false, true⟩]⟩, tx0, tx0, tx0, tx0, tx0, tx0, tx0], 5, 3⟩ : MoI).doE 0 ⟨6, 0, 0, 0⟩ = 0 ∧ (⟨50, 100, [⟨1, 10, 0, 0, 2, 5, false⟩, ⟨2, 20, 0, 0, 2, 0, false⟩, ⟨1, 99, 0, 0, 5, 0, false⟩], ses [⟨2, 1, 1, 3, [], [⟨1, 5, false, true⟩]⟩, tx0, tx0, tx0, tx0, tx0, tx0, tx0], 5, 3⟩ : MoI).doR 0 ⟨6, 0, 0, 0⟩ = ⟨0, 0, [], 3, 0⟩ ∧ (⟨50, 100, [⟨1, 10, 0, 0, 2, 5, false⟩, ⟨2, 20, 0, 0, 2, 0, false⟩, ⟨1, 99, 0, 0, 5, 0, false⟩], ses [⟨2, 1, 1, 3, [], [⟨1, 5, false, true⟩]⟩, tx0, tx0, tx0, tx0, tx0, tx0, tx0], 5, 3⟩ : MoI).doM 0 ⟨6, 0, 0, 0⟩ = (⟨50, 100, [⟨1, 10, 0, 0, 2, 5, false⟩, ⟨2, 20, 0, 0, 2, 0, false⟩, ⟨1, 99, 0, 0, 5, 0, false⟩], ses [tx0, tx0, tx0, tx0, tx0, tx0, tx0, tx0], 6, 3⟩ : MoI) :=
  ⟨by rfl, by rfl, by exact MoI.ext rfl rfl rfl (ses_eq rfl rfl rfl rfl rfl rfl rfl rfl (fun _ => rfl)) rfl rfl⟩
theorem chain200 : ∃ y0 y1 y2 y3 y4 : MoI, pairM 1 1 = y0 ∧ y0.doE 0 ⟨5, 1, 5, 0⟩ = 0 ∧ y0.doR 0 ⟨5, 1, 5, 0⟩ = ⟨0, 0, [(1, 10), (2, 20)], 0, 0⟩ ∧ y0.doM 0 ⟨5, 1, 5, 0⟩ = y1 ∧ y1.doE 1 ⟨3, 1, 0, 99⟩ = 0 ∧ y1.doR 1 ⟨3, 1, 0, 99⟩ = ⟨0, 0, [], 0, 0⟩ ∧ y1.doM 1 ⟨3, 1, 0, 99⟩ = y2 ∧ y2.doE 1 ⟨6, 0, 0, 0⟩ = 0 ∧ y2.doR 1 ⟨6, 0, 0, 0⟩ = ⟨0, 0, [], 3, 0⟩ ∧ y2.doM 1 ⟨6, 0, 0, 0⟩ = y3 ∧ y3.doE 0 ⟨6, 0, 0, 0⟩ = 0 ∧ y3.doR 0 ⟨6, 0, 0, 0⟩ = ⟨0, 0, [], 3, 0⟩ ∧ y3.doM 0 ⟨6, 0, 0, 0⟩ = y4 :=
  ⟨⟨50, 100, [⟨1, 10, 0, 0, 2, 0, false⟩, ⟨2, 20, 0, 0, 2, 0, false⟩], ses [⟨2, 1, 0, 3, [], []⟩, ⟨3, 1, 0, 4, [], []⟩, tx0, tx0, tx0, tx0, tx0, tx0], 4, 3⟩,
    ⟨50, 100, [⟨1, 10, 0, 0, 2, 0, false⟩, ⟨2, 20, 0, 0, 2, 0, false⟩], ses [⟨2, 1, 1, 3, [], [⟨1, 5, false, true⟩]⟩, ⟨3, 1, 0, 4, [], []⟩, tx0, tx0, tx0, tx0, tx0, tx0], 4, 3⟩,
    ⟨50, 100, [⟨1, 10, 0, 3, 2, 0, false⟩, ⟨2, 20, 0, 0, 2, 0, false⟩, ⟨1, 99, 3, 0, 0, 0, false⟩], ses [⟨2, 1, 1, 3, [], [⟨1, 5, false, true⟩]⟩, ⟨3, 1, 1, 4, [1], []⟩, tx0, tx0, tx0, tx0, tx0, tx0], 4, 3⟩,
    ⟨50, 100, [⟨1, 10, 0, 0, 2, 5, false⟩, ⟨2, 20, 0, 0, 2, 0, false⟩, ⟨1, 99, 0, 0, 5, 0, false⟩], ses [⟨2, 1, 1, 3, [], [⟨1, 5, false, true⟩]⟩, tx0, tx0, tx0, tx0, tx0, tx0, tx0], 5, 3⟩,
    ⟨50, 100, [⟨1, 10, 0, 0, 2, 5, false⟩, ⟨2, 20, 0, 0, 2, 0, false⟩, ⟨1, 99, 0, 0, 5, 0, false⟩], ses [tx0, tx0, tx0, tx0, tx0, tx0, tx0, tx0], 6, 3⟩, pair_lit (by omega) (by omega), (chain200_0 ).1, (chain200_0 ).2.1, (chain200_0 ).2.2, (chain200_1 ).1, (chain200_1 ).2.1, (chain200_1 ).2.2, (chain200_2 ).1, (chain200_2 ).2.1, (chain200_2 ).2.2, (chain200_3 ).1, (chain200_3 ).2.1, (chain200_3 ).2.2⟩
set_option maxRecDepth 100000 in
set_option maxHeartbeats 16000000 in
theorem way_2_0_0 (a0 a1 a2 : Int) (w : World) (hm1 : a1 % 256 % 3 = 2) (hm2 : a2 % 256 % 3 = 0) (hm0 : a0 % 256 % 3 = 0) :
    Calls Try.prog 4 #[.int .i64 a0, .int .i64 a1, .int .i64 a2] w fun e w' => e = .returned (.bool true) ∧ Below w.heap.size w w' := by
  obtain ⟨q1, h1, e1, f1, l1, l1', p1, p1', w10, w11⟩ := levN a1 3 2 (by decide) (by decide) hm1
  obtain ⟨q2, h2, e2, f2, l2, l2', p2, p2', w20, w21⟩ := levN a2 3 0 (by decide) (by decide) hm2
  obtain ⟨q0, h0, e0, f0, l0, l0', p0, p0', w00, w01⟩ := levN a0 3 0 (by decide) (by decide) hm0
  have PA := pair_any 1 1 (by omega) (by omega) w
  clear w10 w11 w20 w21
  obtain ⟨y0, y1, y2, y3, y4, f0, f0_0, f0_1, f0_2, f1_0, f1_1, f1_2, f2_0, f2_1, f2_2, f3_0, f3_1, f3_2⟩ := chain200 
  have F0_0 := Lib.hid f0_0; have F0_1 := Lib.hid f0_1; have F0_2 := Lib.hid f0_2; have F1_0 := Lib.hid f1_0; have F1_1 := Lib.hid f1_1; have F1_2 := Lib.hid f1_2; have F2_0 := Lib.hid f2_0; have F2_1 := Lib.hid f2_1; have F2_2 := Lib.hid f2_2; have F3_0 := Lib.hid f3_0; have F3_1 := Lib.hid f3_1; have F3_2 := Lib.hid f3_2
  have F0 := Lib.hid f0
  clear f0 f0_0 f0_1 f0_2 f1_0 f1_1 f1_2 f2_0 f2_1 f2_2 f3_0 f3_1 f3_2
  go_enter Try.func4, Try.ntmps4
  go_wp2_with fail
  refine PA.mono ?_
  rintro e w1 ⟨m, S1, rfl, M1⟩
  rw [F0.out] at M1
  clear PA
  go_wp2_with fail; refine (md_res (M1.quiet (by repeat (first | exact Keep.refl _ _ | refine Keep.alloc ?_ _))) 0 5 1 5 0 (i64_n (by omega)) (i64_n (by omega)) (i64_n (by omega)) (i64_n (by omega)) (i64_n (by omega)) 0 0 0 [(1, 10), (2, 20)] 0 0 y1 F0_0.out F0_1.out F0_2.out).mono ?_; rintro e w2 ⟨A2, q2, c2, S2, rfl, o2, n2, M2, k2⟩; clear o2 n2 k2 M1
  go_wp2_with fail; refine (md_res (M2.quiet (by repeat (first | exact Keep.refl _ _ | refine Keep.alloc ?_ _))) 1 3 1 0 99 (i64_n (by omega)) (i64_n (by omega)) (i64_n (by omega)) (i64_n (by omega)) (i64_n (by omega)) 0 0 0 [] 0 0 y2 F1_0.out F1_1.out F1_2.out).mono ?_; rintro e w3 ⟨A3, q3, c3, S3, rfl, o3, n3, M3, k3⟩; clear o3 n3 k3 M2
  go_wp2_with fail; refine (md_res (M3.quiet (by repeat (first | exact Keep.refl _ _ | refine Keep.alloc ?_ _))) 1 6 0 0 0 (i64_n (by omega)) (i64_n (by omega)) (i64_n (by omega)) (i64_n (by omega)) (i64_n (by omega)) 0 0 0 [] 3 0 y3 F2_0.out F2_1.out F2_2.out).mono ?_; rintro e w4 ⟨A4, q4, c4, S4, rfl, o4, n4, M4, k4⟩; clear o4 n4 k4 M3
  go_wp2_with fail; refine (md_res (M4.quiet (by repeat (first | exact Keep.refl _ _ | refine Keep.alloc ?_ _))) 0 6 0 0 0 (i64_n (by omega)) (i64_n (by omega)) (i64_n (by omega)) (i64_n (by omega)) (i64_n (by omega)) 0 0 0 [] 3 0 y4 F3_0.out F3_1.out F3_2.out).mono ?_; rintro e w5 ⟨A5, q5, c5, S5, rfl, o5, n5, M5, k5⟩; clear o5 n5 k5 M4
  go_wp2_with fail
  refine (awake19_any _).mono ?_
  rintro e wz ⟨rfl, bz⟩
  go_wp2
  go_ret
  exact ⟨rfl, M5.fin bz⟩
theorem chain211_0 : (⟨50, 100, [⟨1, 10, 0, 0, 2, 0, false⟩, ⟨2, 20, 0, 0, 2, 0, false⟩], ses [⟨2, 2, 0, 3, [], []⟩, ⟨3, 1, 0, 4, [], []⟩, tx0, tx0, tx0, tx0, tx0, tx0], 4, 3⟩ : MoI).doE 0 ⟨5, 1, 5, 0⟩ = 0 ∧ (⟨50, 100, [⟨1, 10, 0, 0, 2, 0, false⟩, ⟨2, 20, 0, 0, 2, 0, false⟩], ses [⟨2, 2, 0, 3, [], []⟩, ⟨3, 1, 0, 4, [], []⟩, tx0, tx0, tx0, tx0, tx0, tx0], 4, 3⟩ : MoI).doR 0 ⟨5, 1, 5, 0⟩ = ⟨0, 0, [(1, 10), (2, 20)], 0, 0⟩ ∧ (⟨50, 100, [⟨1, 10, 0, 0, 2, 0, false⟩, ⟨2, 20, 0, 0, 2, 0, false⟩], ses [⟨2, 2, 0, 3, [], []⟩, ⟨3, 1, 0, 4, [], []⟩, tx0, tx0, tx0, tx0, tx0, tx0], 4, 3⟩ : MoI).doM 0 ⟨5, 1, 5, 0⟩ = (⟨50, 100, [⟨1, 10, 0, 0, 2, 0, false⟩, ⟨2, 20, 0, 0, 2, 0, false⟩], ses [⟨2, 2, 1, 3, [], [⟨1, 5, false, true⟩]⟩, ⟨3, 1, 0, 4, [], []⟩, tx0, tx0, tx0, tx0, tx0, tx0], 4, 3⟩ : MoI) :=
  ⟨by rfl, by rfl, by exact MoI.ext rfl rfl rfl (ses_eq rfl rfl rfl rfl rfl rfl rfl rfl (fun _ => rfl)) rfl rfl⟩
theorem chain211_1 : (⟨50, 100, [⟨1, 10, 0, 0, 2, 0, false⟩, ⟨2, 20, 0, 0, 2, 0, false⟩], ses [⟨2, 2, 1, 3, [], [⟨1, 5, false, true⟩]⟩, ⟨3, 1, 0, 4, [], []⟩, tx0, tx0, tx0, tx0, tx0, tx0], 4, 3⟩ : MoI).doE 1 ⟨4, 1, 0, 0⟩ = 0 ∧ (⟨50, 100, [⟨1, 10, 0, 0, 2, 0, false⟩, ⟨2, 20, 0, 0, 2, 0, false⟩], ses [⟨2, 2, 1, 3, [], [⟨1, 5, false, true⟩]⟩, ⟨3, 1, 0, 4, [], []⟩, tx0, tx0, tx0, tx0, tx0, tx0], 4, 3⟩ : MoI).doR 1 ⟨4, 1, 0, 0⟩ = ⟨0, 0, [], 0, 0⟩ ∧ (⟨50, 100, [⟨1, 10, 0, 0, 2, 0, false⟩, ⟨2, 20, 0, 0, 2, 0, false⟩], ses [⟨2, 2, 1, 3, [], [⟨1, 5, false, true⟩]⟩, ⟨3, 1, 0, 4, [], []⟩, tx0, tx0, tx0, tx0, tx0, tx0], 4, 3⟩ : MoI).doM 1 ⟨4, 1, 0, 0⟩ = (⟨50, 100, [⟨1, 10, 0, 3, 2, 0, false⟩, ⟨2, 20, 0, 0, 2, 0, false⟩], ses [⟨2, 2, 1, 3, [], [⟨1, 5, false, true⟩]⟩, ⟨3, 1, 1, 4, [1], []⟩, tx0, tx0, tx0, tx0, tx0, tx0], 4, 3⟩ : MoI) :=
  ⟨by rfl, by rfl, by exact MoI.ext rfl rfl rfl (ses_eq rfl rfl rfl rfl rfl rfl rfl rfl (fun _ => rfl)) rfl rfl⟩
theorem chain211_2 : (⟨50, 100, [⟨1, 10, 0, 3, 2, 0, false⟩, ⟨2, 20, 0, 0, 2, 0, false⟩], ses [⟨2, 2, 1, 3, [], [⟨1, 5, false, true⟩]⟩, ⟨3, 1, 1, 4, [1], []⟩, tx0, tx0, tx0, tx0, tx0, tx0], 4, 3⟩ : MoI).doE 1 ⟨6, 0, 0, 0⟩ = 0 ∧ (⟨50, 100, [⟨1, 10, 0, 3, 2, 0, false⟩, ⟨2, 20, 0, 0, 2, 0, false⟩], ses [⟨2, 2, 1, 3, [], [⟨1, 5, false, true⟩]⟩, ⟨3, 1, 1, 4, [1], []⟩, tx0, tx0, tx0, tx0, tx0, tx0], 4, 3⟩ : MoI).doR 1 ⟨6, 0, 0, 0⟩ = ⟨0, 0, [], 3, 0⟩ ∧ (⟨50, 100, [⟨1, 10, 0, 3, 2, 0, false⟩, ⟨2, 20, 0, 0, 2, 0, false⟩], ses [⟨2, 2, 1, 3, [], [⟨1, 5, false, true⟩]⟩, ⟨3, 1, 1, 4, [1], []⟩, tx0, tx0, tx0, tx0, tx0, tx0], 4, 3⟩ : MoI).doM 1 ⟨6, 0, 0, 0⟩ = (⟨50, 100, [⟨1, 10, 0, 0, 2, 5, false⟩, ⟨2, 20, 0, 0, 2, 0, false⟩], ses [⟨2, 2, 1, 3, [], [⟨1, 5, false, true⟩]⟩, tx0, tx0, tx0, tx0, tx0, tx0, tx0], 5, 3⟩ : MoI) :=
  ⟨by rfl, by rfl, by exact MoI.ext rfl rfl rfl (ses_eq rfl rfl rfl rfl rfl rfl rfl rfl (fun _ => rfl)) rfl rfl⟩
theorem chain211_3 : (⟨50, 100, [⟨1, 10, 0, 0, 2, 5, false⟩, ⟨2, 20, 0, 0, 2, 0, false⟩], ses [⟨2, 2, 1, 3, [], [⟨1, 5, false, true⟩]⟩, tx0, tx0, tx0, tx0, tx0, tx0, tx0], 5, 3⟩ : MoI).doE 0 ⟨6, 0, 0, 0⟩ = 0 ∧ (⟨50, 100, [⟨1, 10, 0, 0, 2, 5, false⟩, ⟨2, 20, 0, 0, 2, 0, false⟩], ses [⟨2, 2, 1, 3, [], [⟨1, 5, false, true⟩]⟩, tx0, tx0, tx0, tx0, tx0, tx0, tx0], 5, 3⟩ : MoI).doR 0 ⟨6, 0, 0, 0⟩ = ⟨0, 0, [], 3, 0⟩ ∧ (⟨50, 100, [⟨1, 10, 0, 0, 2, 5, false⟩, ⟨2, 20, 0, 0, 2, 0, false⟩], ses [⟨2, 2, 1, 3, [], [⟨1, 5, false, true⟩]⟩, tx0, tx0, tx0, tx0, tx0, tx0, tx0], 5, 3⟩ : MoI).doM 0 ⟨6, 0, 0, 0⟩ = (⟨50, 100, [⟨1, 10, 0, 0, 2, 5, false⟩, ⟨2, 20, 0, 0, 2, 0, false⟩], ses [tx0, tx0, tx0, tx0, tx0, tx0, tx0, tx0], 6, 3⟩ : MoI) :=
  ⟨by rfl, by rfl, by exact MoI.ext rfl rfl rfl (ses_eq rfl rfl rfl rfl rfl rfl rfl rfl (fun _ => rfl)) rfl rfl⟩
theorem chain211 : ∃ y0 y1 y2 y3 y4 : MoI, pairM 2 1 = y0 ∧ y0.doE 0 ⟨5, 1, 5, 0⟩ = 0 ∧ y0.doR 0 ⟨5, 1, 5, 0⟩ = ⟨0, 0, [(1, 10), (2, 20)], 0, 0⟩ ∧ y0.doM 0 ⟨5, 1, 5, 0⟩ = y1 ∧ y1.doE 1 ⟨4, 1, 0, 0⟩ = 0 ∧ y1.doR 1 ⟨4, 1, 0, 0⟩ = ⟨0, 0, [], 0, 0⟩ ∧ y1.doM 1 ⟨4, 1, 0, 0⟩ = y2 ∧ y2.doE 1 ⟨6, 0, 0, 0⟩ = 0 ∧ y2.doR 1 ⟨6, 0, 0, 0⟩ = ⟨0, 0, [], 3, 0⟩ ∧ y2.doM 1 ⟨6, 0, 0, 0⟩ = y3 ∧ y3.doE 0 ⟨6, 0, 0, 0⟩ = 0 ∧ y3.doR 0 ⟨6, 0, 0, 0⟩ = ⟨0, 0, [], 3, 0⟩ ∧ y3.doM 0 ⟨6, 0, 0, 0⟩ = y4 :=
  ⟨⟨50, 100, [⟨1, 10, 0, 0, 2, 0, false⟩, ⟨2, 20, 0, 0, 2, 0, false⟩], ses [⟨2, 2, 0, 3, [], []⟩, ⟨3, 1, 0, 4, [], []⟩, tx0, tx0, tx0, tx0, tx0, tx0], 4, 3⟩,
    ⟨50, 100, [⟨1, 10, 0, 0, 2, 0, false⟩, ⟨2, 20, 0, 0, 2, 0, false⟩], ses [⟨2, 2, 1, 3, [], [⟨1, 5, false, true⟩]⟩, ⟨3, 1, 0, 4, [], []⟩, tx0, tx0, tx0, tx0, tx0, tx0], 4, 3⟩,
    ⟨50, 100, [⟨1, 10, 0, 3, 2, 0, false⟩, ⟨2, 20, 0, 0, 2, 0, false⟩], ses [⟨2, 2, 1, 3, [], [⟨1, 5, false, true⟩]⟩, ⟨3, 1, 1, 4, [1], []⟩, tx0, tx0, tx0, tx0, tx0, tx0], 4, 3⟩,
    ⟨50, 100, [⟨1, 10, 0, 0, 2, 5, false⟩, ⟨2, 20, 0, 0, 2, 0, false⟩], ses [⟨2, 2, 1, 3, [], [⟨1, 5, false, true⟩]⟩, tx0, tx0, tx0, tx0, tx0, tx0, tx0], 5, 3⟩,
    ⟨50, 100, [⟨1, 10, 0, 0, 2, 5, false⟩, ⟨2, 20, 0, 0, 2, 0, false⟩], ses [tx0, tx0, tx0, tx0, tx0, tx0, tx0, tx0], 6, 3⟩, pair_lit (by omega) (by omega), (chain211_0 ).1, (chain211_0 ).2.1, (chain211_0 ).2.2, (chain211_1 ).1, (chain211_1 ).2.1, (chain211_1 ).2.2, (chain211_2 ).1, (chain211_2 ).2.1, (chain211_2 ).2.2, (chain211_3 ).1, (chain211_3 ).2.1, (chain211_3 ).2.2⟩
set_option maxRecDepth 100000 in
set_option maxHeartbeats 16000000 in
theorem way_2_1_1 (a0 a1 a2 : Int) (w : World) (hm1 : a1 % 256 % 3 = 2) (hm2 : a2 % 256 % 3 = 1) (hm0 : a0 % 256 % 3 = 1) :
    Calls Try.prog 4 #[.int .i64 a0, .int .i64 a1, .int .i64 a2] w fun e w' => e = .returned (.bool true) ∧ Below w.heap.size w w' := by
  obtain ⟨q1, h1, e1, f1, l1, l1', p1, p1', w10, w11⟩ := levN a1 3 2 (by decide) (by decide) hm1
  obtain ⟨q2, h2, e2, f2, l2, l2', p2, p2', w20, w21⟩ := levN a2 3 1 (by decide) (by decide) hm2
  obtain ⟨q0, h0, e0, f0, l0, l0', p0, p0', w00, w01⟩ := levN a0 3 1 (by decide) (by decide) hm0
  have PA := pair_any 2 1 (by omega) (by omega) w
  clear w10 w11 w20 w21
  obtain ⟨y0, y1, y2, y3, y4, f0, f0_0, f0_1, f0_2, f1_0, f1_1, f1_2, f2_0, f2_1, f2_2, f3_0, f3_1, f3_2⟩ := chain211 
  have F0_0 := Lib.hid f0_0; have F0_1 := Lib.hid f0_1; have F0_2 := Lib.hid f0_2; have F1_0 := Lib.hid f1_0; have F1_1 := Lib.hid f1_1; have F1_2 := Lib.hid f1_2; have F2_0 := Lib.hid f2_0; have F2_1 := Lib.hid f2_1; have F2_2 := Lib.hid f2_2; have F3_0 := Lib.hid f3_0; have F3_1 := Lib.hid f3_1; have F3_2 := Lib.hid f3_2
  have F0 := Lib.hid f0
  clear f0 f0_0 f0_1 f0_2 f1_0 f1_1 f1_2 f2_0 f2_1 f2_2 f3_0 f3_1 f3_2
  go_enter Try.func4, Try.ntmps4
  go_wp2_with fail
  refine PA.mono ?_
  rintro e w1 ⟨m, S1, rfl, M1⟩
  rw [F0.out] at M1
  clear PA
  go_wp2_with fail; refine (md_res (M1.quiet (by repeat (first | exact Keep.refl _ _ | refine Keep.alloc ?_ _))) 0 5 1 5 0 (i64_n (by omega)) (i64_n (by omega)) (i64_n (by omega)) (i64_n (by omega)) (i64_n (by omega)) 0 0 0 [(1, 10), (2, 20)] 0 0 y1 F0_0.out F0_1.out F0_2.out).mono ?_; rintro e w2 ⟨A2, q2, c2, S2, rfl, o2, n2, M2, k2⟩; clear o2 n2 k2 M1
  go_wp2_with fail; refine (md_res (M2.quiet (by repeat (first | exact Keep.refl _ _ | refine Keep.alloc ?_ _))) 1 4 1 0 0 (i64_n (by omega)) (i64_n (by omega)) (i64_n (by omega)) (i64_n (by omega)) (i64_n (by omega)) 0 0 0 [] 0 0 y2 F1_0.out F1_1.out F1_2.out).mono ?_; rintro e w3 ⟨A3, q3, c3, S3, rfl, o3, n3, M3, k3⟩; clear o3 n3 k3 M2
  go_wp2_with fail; refine (md_res (M3.quiet (by repeat (first | exact Keep.refl _ _ | refine Keep.alloc ?_ _))) 1 6 0 0 0 (i64_n (by omega)) (i64_n (by omega)) (i64_n (by omega)) (i64_n (by omega)) (i64_n (by omega)) 0 0 0 [] 3 0 y3 F2_0.out F2_1.out F2_2.out).mono ?_; rintro e w4 ⟨A4, q4, c4, S4, rfl, o4, n4, M4, k4⟩; clear o4 n4 k4 M3
  go_wp2_with fail; refine (md_res (M4.quiet (by repeat (first | exact Keep.refl _ _ | refine Keep.alloc ?_ _))) 0 6 0 0 0 (i64_n (by omega)) (i64_n (by omega)) (i64_n (by omega)) (i64_n (by omega)) (i64_n (by omega)) 0 0 0 [] 3 0 y4 F3_0.out F3_1.out F3_2.out).mono ?_; rintro e w5 ⟨A5, q5, c5, S5, rfl, o5, n5, M5, k5⟩; clear o5 n5 k5 M4
  go_wp2_with fail
  refine (awake19_any _).mono ?_
  rintro e wz ⟨rfl, bz⟩
  go_wp2
  go_ret
  exact ⟨rfl, M5.fin bz⟩
theorem chain222_0 : (⟨50, 100, [⟨1, 10, 0, 0, 2, 0, false⟩, ⟨2, 20, 0, 0, 2, 0, false⟩], ses [⟨2, 3, 0, 3, [], []⟩, ⟨3, 1, 0, 4, [], []⟩, tx0, tx0, tx0, tx0, tx0, tx0], 4, 3⟩ : MoI).doE 0 ⟨5, 1, 5, 0⟩ = 0 ∧ (⟨50, 100, [⟨1, 10, 0, 0, 2, 0, false⟩, ⟨2, 20, 0, 0, 2, 0, false⟩], ses [⟨2, 3, 0, 3, [], []⟩, ⟨3, 1, 0, 4, [], []⟩, tx0, tx0, tx0, tx0, tx0, tx0], 4, 3⟩ : MoI).doR 0 ⟨5, 1, 5, 0⟩ = ⟨0, 0, [(1, 10), (2, 20)], 0, 0⟩ ∧ (⟨50, 100, [⟨1, 10, 0, 0, 2, 0, false⟩, ⟨2, 20, 0, 0, 2, 0, false⟩], ses [⟨2, 3, 0, 3, [], []⟩, ⟨3, 1, 0, 4, [], []⟩, tx0, tx0, tx0, tx0, tx0, tx0], 4, 3⟩ : MoI).doM 0 ⟨5, 1, 5, 0⟩ = (⟨50, 100, [⟨1, 10, 0, 0, 2, 0, false⟩, ⟨2, 20, 0, 0, 2, 0, false⟩], ses [⟨2, 3, 1, 3, [], [⟨1, 5, false, true⟩]⟩, ⟨3, 1, 0, 4, [], []⟩, tx0, tx0, tx0, tx0, tx0, tx0], 4, 3⟩ : MoI) :=
  ⟨by rfl, by rfl, by exact MoI.ext rfl rfl rfl (ses_eq rfl rfl rfl rfl rfl rfl rfl rfl (fun _ => rfl)) rfl rfl⟩
theorem chain222_1 : (⟨50, 100, [⟨1, 10, 0, 0, 2, 0, false⟩, ⟨2, 20, 0, 0, 2, 0, false⟩], ses [⟨2, 3, 1, 3, [], [⟨1, 5, false, true⟩]⟩, ⟨3, 1, 0, 4, [], []⟩, tx0, tx0, tx0, tx0, tx0, tx0], 4, 3⟩ : MoI).doE 1 ⟨2, 3, 0, 99⟩ = 0 ∧ (⟨50, 100, [⟨1, 10, 0, 0, 2, 0, false⟩, ⟨2, 20, 0, 0, 2, 0, false⟩], ses [⟨2, 3, 1, 3, [], [⟨1, 5, false, true⟩]⟩, ⟨3, 1, 0, 4, [], []⟩, tx0, tx0, tx0, tx0, tx0, tx0], 4, 3⟩ : MoI).doR 1 ⟨2, 3, 0, 99⟩ = ⟨0, 0, [], 0, 0⟩ ∧ (⟨50, 100, [⟨1, 10, 0, 0, 2, 0, false⟩, ⟨2, 20, 0, 0, 2, 0, false⟩], ses [⟨2, 3, 1, 3, [], [⟨1, 5, false, true⟩]⟩, ⟨3, 1, 0, 4, [], []⟩, tx0, tx0, tx0, tx0, tx0, tx0], 4, 3⟩ : MoI).doM 1 ⟨2, 3, 0, 99⟩ = (⟨50, 100, [⟨1, 10, 0, 0, 2, 0, false⟩, ⟨2, 20, 0, 0, 2, 0, false⟩, ⟨3, 99, 3, 0, 0, 0, false⟩], ses [⟨2, 3, 1, 3, [], [⟨1, 5, false, true⟩]⟩, ⟨3, 1, 1, 4, [3], []⟩, tx0, tx0, tx0, tx0, tx0, tx0], 4, 3⟩ : MoI) :=
  ⟨by rfl, by rfl, by exact MoI.ext rfl rfl rfl (ses_eq rfl rfl rfl rfl rfl rfl rfl rfl (fun _ => rfl)) rfl rfl⟩
theorem chain222_2 : (⟨50, 100, [⟨1, 10, 0, 0, 2, 0, false⟩, ⟨2, 20, 0, 0, 2, 0, false⟩, ⟨3, 99, 3, 0, 0, 0, false⟩], ses [⟨2, 3, 1, 3, [], [⟨1, 5, false, true⟩]⟩, ⟨3, 1, 1, 4, [3], []⟩, tx0, tx0, tx0, tx0, tx0, tx0], 4, 3⟩ : MoI).doE 1 ⟨6, 0, 0, 0⟩ = 0 ∧ (⟨50, 100, [⟨1, 10, 0, 0, 2, 0, false⟩, ⟨2, 20, 0, 0, 2, 0, false⟩, ⟨3, 99, 3, 0, 0, 0, false⟩], ses [⟨2, 3, 1, 3, [], [⟨1, 5, false, true⟩]⟩, ⟨3, 1, 1, 4, [3], []⟩, tx0, tx0, tx0, tx0, tx0, tx0], 4, 3⟩ : MoI).doR 1 ⟨6, 0, 0, 0⟩ = ⟨0, 0, [], 3, 0⟩ ∧ (⟨50, 100, [⟨1, 10, 0, 0, 2, 0, false⟩, ⟨2, 20, 0, 0, 2, 0, false⟩, ⟨3, 99, 3, 0, 0, 0, false⟩], ses [⟨2, 3, 1, 3, [], [⟨1, 5, false, true⟩]⟩, ⟨3, 1, 1, 4, [3], []⟩, tx0, tx0, tx0, tx0, tx0, tx0], 4, 3⟩ : MoI).doM 1 ⟨6, 0, 0, 0⟩ = (⟨50, 100, [⟨1, 10, 0, 0, 2, 0, false⟩, ⟨2, 20, 0, 0, 2, 0, false⟩, ⟨3, 99, 0, 0, 5, 0, false⟩], ses [⟨2, 3, 1, 3, [], [⟨1, 5, false, true⟩]⟩, tx0, tx0, tx0, tx0, tx0, tx0, tx0], 5, 3⟩ : MoI) :=
  ⟨by rfl, by rfl, by exact MoI.ext rfl rfl rfl (ses_eq rfl rfl rfl rfl rfl rfl rfl rfl (fun _ => rfl)) rfl rfl⟩
theorem chain222_3 : (⟨50, 100, [⟨1, 10, 0, 0, 2, 0, false⟩, ⟨2, 20, 0, 0, 2, 0, false⟩, ⟨3, 99, 0, 0, 5, 0, false⟩], ses [⟨2, 3, 1, 3, [], [⟨1, 5, false, true⟩]⟩, tx0, tx0, tx0, tx0, tx0, tx0, tx0], 5, 3⟩ : MoI).doE 0 ⟨6, 0, 0, 0⟩ = 0 ∧ (⟨50, 100, [⟨1, 10, 0, 0, 2, 0, false⟩, ⟨2, 20, 0, 0, 2, 0, false⟩, ⟨3, 99, 0, 0, 5, 0, false⟩], ses [⟨2, 3, 1, 3, [], [⟨1, 5, false, true⟩]⟩, tx0, tx0, tx0, tx0, tx0, tx0, tx0], 5, 3⟩ : MoI).doR 0 ⟨6, 0, 0, 0⟩ = ⟨14, 0, [], 4, 3⟩ ∧ (⟨50, 100, [⟨1, 10, 0, 0, 2, 0, false⟩, ⟨2, 20, 0, 0, 2, 0, false⟩, ⟨3, 99, 0, 0, 5, 0, false⟩], ses [⟨2, 3, 1, 3, [], [⟨1, 5, false, true⟩]⟩, tx0, tx0, tx0, tx0, tx0, tx0, tx0], 5, 3⟩ : MoI).doM 0 ⟨6, 0, 0, 0⟩ = (⟨50, 100, [⟨1, 10, 0, 0, 2, 0, false⟩, ⟨2, 20, 0, 0, 2, 0, false⟩, ⟨3, 99, 0, 0, 5, 0, false⟩], ses [tx0, tx0, tx0, tx0, tx0, tx0, tx0, tx0], 6, 3⟩ : MoI) :=
  ⟨by rfl, by rfl, by exact MoI.ext rfl rfl rfl (ses_eq rfl rfl rfl rfl rfl rfl rfl rfl (fun _ => rfl)) rfl rfl⟩
theorem chain222 : ∃ y0 y1 y2 y3 y4 : MoI, pairM 3 1 = y0 ∧ y0.doE 0 ⟨5, 1, 5, 0⟩ = 0 ∧ y0.doR 0 ⟨5, 1, 5, 0⟩ = ⟨0, 0, [(1, 10), (2, 20)], 0, 0⟩ ∧ y0.doM 0 ⟨5, 1, 5, 0⟩ = y1 ∧ y1.doE 1 ⟨2, 3, 0, 99⟩ = 0 ∧ y1.doR 1 ⟨2, 3, 0, 99⟩ = ⟨0, 0, [], 0, 0⟩ ∧ y1.doM 1 ⟨2, 3, 0, 99⟩ = y2 ∧ y2.doE 1 ⟨6, 0, 0, 0⟩ = 0 ∧ y2.doR 1 ⟨6, 0, 0, 0⟩ = ⟨0, 0, [], 3, 0⟩ ∧ y2.doM 1 ⟨6, 0, 0, 0⟩ = y3 ∧ y3.doE 0 ⟨6, 0, 0, 0⟩ = 0 ∧ y3.doR 0 ⟨6, 0, 0, 0⟩ = ⟨14, 0, [], 4, 3⟩ ∧ y3.doM 0 ⟨6, 0, 0, 0⟩ = y4 :=
  ⟨⟨50, 100, [⟨1, 10, 0, 0, 2, 0, false⟩, ⟨2, 20, 0, 0, 2, 0, false⟩], ses [⟨2, 3, 0, 3, [], []⟩, ⟨3, 1, 0, 4, [], []⟩, tx0, tx0, tx0, tx0, tx0, tx0], 4, 3⟩,
    ⟨50, 100, [⟨1, 10, 0, 0, 2, 0, false⟩, ⟨2, 20, 0, 0, 2, 0, false⟩], ses [⟨2, 3, 1, 3, [], [⟨1, 5, false, true⟩]⟩, ⟨3, 1, 0, 4, [], []⟩, tx0, tx0, tx0, tx0, tx0, tx0], 4, 3⟩,
    ⟨50, 100, [⟨1, 10, 0, 0, 2, 0, false⟩, ⟨2, 20, 0, 0, 2, 0, false⟩, ⟨3, 99, 3, 0, 0, 0, false⟩], ses [⟨2, 3, 1, 3, [], [⟨1, 5, false, true⟩]⟩, ⟨3, 1, 1, 4, [3], []⟩, tx0, tx0, tx0, tx0, tx0, tx0], 4, 3⟩,
    ⟨50, 100, [⟨1, 10, 0, 0, 2, 0, false⟩, ⟨2, 20, 0, 0, 2, 0, false⟩, ⟨3, 99, 0, 0, 5, 0, false⟩], ses [⟨2, 3, 1, 3, [], [⟨1, 5, false, true⟩]⟩, tx0, tx0, tx0, tx0, tx0, tx0, tx0], 5, 3⟩,
    ⟨50, 100, [⟨1, 10, 0, 0, 2, 0, false⟩, ⟨2, 20, 0, 0, 2, 0, false⟩, ⟨3, 99, 0, 0, 5, 0, false⟩], ses [tx0, tx0, tx0, tx0, tx0, tx0, tx0, tx0], 6, 3⟩, pair_lit (by omega) (by omega), (chain222_0 ).1, (chain222_0 ).2.1, (chain222_0 ).2.2, (chain222_1 ).1, (chain222_1 ).2.1, (chain222_1 ).2.2, (chain222_2 ).1, (chain222_2 ).2.1, (chain222_2 ).2.2, (chain222_3 ).1, (chain222_3 ).2.1, (chain222_3 ).2.2⟩
set_option maxRecDepth 100000 in
set_option maxHeartbeats 16000000 in
theorem way_2_2_2 (a0 a1 a2 : Int) (w : World) (hm1 : a1 % 256 % 3 = 2) (hm2 : a2 % 256 % 3 = 2) (hm0 : a0 % 256 % 3 = 2) :
    Calls Try.prog 4 #[.int .i64 a0, .int .i64 a1, .int .i64 a2] w fun e w' => e = .returned (.bool true) ∧ Below w.heap.size w w' := by
  obtain ⟨q1, h1, e1, f1, l1, l1', p1, p1', w10, w11⟩ := levN a1 3 2 (by decide) (by decide) hm1
  obtain ⟨q2, h2, e2, f2, l2, l2', p2, p2', w20, w21⟩ := levN a2 3 2 (by decide) (by decide) hm2
  obtain ⟨q0, h0, e0, f0, l0, l0', p0, p0', w00, w01⟩ := levN a0 3 2 (by decide) (by decide) hm0
  have PA := pair_any 3 1 (by omega) (by omega) w
  clear w10 w11 w20 w21
  obtain ⟨y0, y1, y2, y3, y4, f0, f0_0, f0_1, f0_2, f1_0, f1_1, f1_2, f2_0, f2_1, f2_2, f3_0, f3_1, f3_2⟩ := chain222 
  have F0_0 := Lib.hid f0_0; have F0_1 := Lib.hid f0_1; have F0_2 := Lib.hid f0_2; have F1_0 := Lib.hid f1_0; have F1_1 := Lib.hid f1_1; have F1_2 := Lib.hid f1_2; have F2_0 := Lib.hid f2_0; have F2_1 := Lib.hid f2_1; have F2_2 := Lib.hid f2_2; have F3_0 := Lib.hid f3_0; have F3_1 := Lib.hid f3_1; have F3_2 := Lib.hid f3_2
  have F0 := Lib.hid f0
  clear f0 f0_0 f0_1 f0_2 f1_0 f1_1 f1_2 f2_0 f2_1 f2_2 f3_0 f3_1 f3_2
  go_enter Try.func4, Try.ntmps4
  go_wp2_with fail
  refine PA.mono ?_
  rintro e w1 ⟨m, S1, rfl, M1⟩
  rw [F0.out] at M1
  clear PA
  go_wp2_with fail; refine (md_res (M1.quiet (by repeat (first | exact Keep.refl _ _ | refine Keep.alloc ?_ _))) 0 5 1 5 0 (i64_n (by omega)) (i64_n (by omega)) (i64_n (by omega)) (i64_n (by omega)) (i64_n (by omega)) 0 0 0 [(1, 10), (2, 20)] 0 0 y1 F0_0.out F0_1.out F0_2.out).mono ?_; rintro e w2 ⟨A2, q2, c2, S2, rfl, o2, n2, M2, k2⟩; clear o2 n2 k2 M1
  go_wp2_with fail; refine (md_res (M2.quiet (by repeat (first | exact Keep.refl _ _ | refine Keep.alloc ?_ _))) 1 2 3 0 99 (i64_n (by omega)) (i64_n (by omega)) (i64_n (by omega)) (i64_n (by omega)) (i64_n (by omega)) 0 0 0 [] 0 0 y2 F1_0.out F1_1.out F1_2.out).mono ?_; rintro e w3 ⟨A3, q3, c3, S3, rfl, o3, n3, M3, k3⟩; clear o3 n3 k3 M2
  go_wp2_with fail; refine (md_res (M3.quiet (by repeat (first | exact Keep.refl _ _ | refine Keep.alloc ?_ _))) 1 6 0 0 0 (i64_n (by omega)) (i64_n (by omega)) (i64_n (by omega)) (i64_n (by omega)) (i64_n (by omega)) 0 0 0 [] 3 0 y3 F2_0.out F2_1.out F2_2.out).mono ?_; rintro e w4 ⟨A4, q4, c4, S4, rfl, o4, n4, M4, k4⟩; clear o4 n4 k4 M3
  go_wp2_with fail; refine (md_res (M4.quiet (by repeat (first | exact Keep.refl _ _ | refine Keep.alloc ?_ _))) 0 6 0 0 0 (i64_n (by omega)) (i64_n (by omega)) (i64_n (by omega)) (i64_n (by omega)) (i64_n (by omega)) 0 14 0 [] 4 3 y4 F3_0.out F3_1.out F3_2.out).mono ?_; rintro e w5 ⟨A5, q5, c5, S5, rfl, o5, n5, M5, k5⟩; clear o5 n5 k5 M4
  go_wp2_with fail
  refine (awake19_any _).mono ?_
  rintro e wz ⟨rfl, bz⟩
  go_wp2
  go_ret
  exact ⟨rfl, M5.fin bz⟩
theorem walk (a0 a1 a2 : Int) (w : World) (w0 : (Lit.int .i64 a0).wf = true) (w1 : (Lit.int .i64 a1).wf = true) (w2 : (Lit.int .i64 a2).wf = true) :
    Calls Try.prog 4 #[.int .i64 a0, .int .i64 a1, .int .i64 a2] w fun e w' => e = .returned (.bool true) ∧ Below w.heap.size w w' := by
  have h1 : a1 % 256 % 3 = 0 ∨ a1 % 256 % 3 = 1 ∨ a1 % 256 % 3 = 2 := by omega
  have h2 : a2 % 256 % 3 = 0 ∨ a2 % 256 % 3 = 1 ∨ a2 % 256 % 3 = 2 := by omega
  have h0 : a0 % 256 % 3 = 0 ∨ a0 % 256 % 3 = 1 ∨ a0 % 256 % 3 = 2 := by omega
  rcases h1 with h1 | h1 | h1
  · skip
    rcases h2 with h2 | h2 | h2
    · skip
      rcases h0 with h0 | h0 | h0
      · skip
        exact way_0_0_0 a0 a1 a2 w h1 h2 h0
      · skip
        exact way_0_0_1 a0 a1 a2 w h1 h2 h0
      · skip
        exact way_0_0_2 a0 a1 a2 w h1 h2 h0
    · skip
      rcases h0 with h0 | h0 | h0
      · skip
        exact way_0_1_0 a0 a1 a2 w h1 h2 h0
      · skip
        exact way_0_1_1 a0 a1 a2 w h1 h2 h0
      · skip
        exact way_0_1_2 a0 a1 a2 w h1 h2 h0
    · skip
      exact way_0_2 a0 a1 a2 w h1 h2 _ rfl
  · skip
    rcases h2 with h2 | h2 | h2
    · skip
      exact way_1_0 a0 a1 a2 w h1 h2 _ rfl
    · skip
      exact way_1_1 a0 a1 a2 w h1 h2 _ rfl
    · skip
      rcases h0 with h0 | h0 | h0
      · skip
        exact way_1_2_0 a0 a1 a2 w h1 h2 h0
      · skip
        exact way_1_2_1 a0 a1 a2 w h1 h2 h0
      · skip
        exact way_1_2_2 a0 a1 a2 w h1 h2 h0
  · skip
    rcases h2 with h2 | h2 | h2
    · skip
      rcases h0 with h0 | h0 | h0
      · skip
        exact way_2_0_0 a0 a1 a2 w h1 h2 h0
      · skip
        exact way_2_0_1 a0 a1 a2 w h1 h2 h0
      · skip
        exact way_2_0_2 a0 a1 a2 w h1 h2 h0
    · skip
      rcases h0 with h0 | h0 | h0
      · skip
        exact way_2_1_0 a0 a1 a2 w h1 h2 h0
      · skip
        exact way_2_1_1 a0 a1 a2 w h1 h2 h0
      · skip
        exact way_2_1_2 a0 a1 a2 w h1 h2 h0
    · skip
      rcases h0 with h0 | h0 | h0
      · skip
        exact way_2_2_0 a0 a1 a2 w h1 h2 h0
      · skip
        exact way_2_2_1 a0 a1 a2 w h1 h2 h0
      · skip
        exact way_2_2_2 a0 a1 a2 w h1 h2 h0
theorem own : ownKnob Try.prog.godebug = none := by kernel_rfl
theorem laidOut : laidOutB Try.prog = true := by kernel_rfl
set_option maxRecDepth 100000 in
theorem lifted (os : Os) (started : os.Started) (H : Type) (enc : TypeId × Value → H) :
    ReturnsInHanded {} Try.checked os 4 .any (Rows.modelJudgesSpec.pre6 enc Try.prog Try.f4 Rows.modelJudgesRow.domain false) (Rows.modelJudgesSpec.post enc Try.prog Try.f4 false true false false) := by
  refine returnsInHanded_of_change (C := Try.checked) own started (by kernel_rfl) Try.func4
    (ChangeSpec.witness6 (enc := enc) (C := Try.checked) false ⟨#[], #[.int .i64 0, .int .i64 0, .int .i64 0], []⟩ 8 (by kernel_rfl) (by kernel_rfl) (by kernel_rfl) (by kernel_rfl)) ?_
  intro W base args ds gs before hval0 hW hcnd _
  have hval : ∀ (j : Nat) t v, Try.f4.params[j]? = some t → args[j]? = some v → Value.okWide Try.prog W .any base t v := hval0
  have hW' := hW
  obtain ⟨p, q, hA0, hV, rfl, hfz, hnd⟩ := hW
  have hA : DataW.TrodAll enc Try.prog W 0 (fun _ => true) true Try.f4.params.toList args.toList ds p := hA0
  rw [Try.params4] at hA hval
  obtain ⟨v0, vs0, d0, ds0, p0, q0, hargs, rfl, rfl, h0, r0⟩ := trodAll_cons hA
  obtain ⟨v1, vs1, d1, ds1, p1, q1, rfl, rfl, rfl, h1, r1⟩ := trodAll_cons r0
  obtain ⟨v2, vs2, d2, ds2, p2, q2, rfl, rfl, rfl, h2, r2⟩ := trodAll_cons r1
  obtain ⟨rfl, rfl, rfl⟩ := trodAll_nil r2
  obtain rfl : args = #[v0, v1, v2] := by cases args; simp_all
  obtain ⟨rfl, rfl⟩ := trodVars_none hV
  obtain ⟨a0, rfl, rfl, rfl, w0⟩ := open_int Try.underlying3 (hval 0 3 v0 rfl rfl) h0
  obtain ⟨a1, rfl, rfl, rfl, w1⟩ := open_int Try.underlying3 (hval 1 3 v1 rfl rfl) h1
  obtain ⟨a2, rfl, rfl, rfl, w2⟩ := open_int Try.underlying3 (hval 2 3 v2 rfl rfl) h2
  clear hA0 hval0
  refine (walk a0 a1 a2 W w0 w1 w2).mono fun e W' ⟨he, bel⟩ => ?_
  subst he
  exact ⟨_, rfl, _, _, _, [], _, [], hW', trodAll_mk1 (shut_bool Try.underlying4 _), (trodAll_cons_mk (shut_int Try.underlying3 w0) (trodAll_cons_mk (shut_int Try.underlying3 w1) (trodAll_cons_mk (shut_int Try.underlying3 w2) trodAll_mk0))), rfl, bel.frame _, fun h => by cases h⟩
theorem over : Rows.modelJudgesRow.holds Try.pinned (OpenSpec.ofChange Rows.modelJudgesSpec) :=
  OpenClaim.holds_of_wide 4 Try.f4 rfl rfl rfl rfl rfl rfl rfl ⟨rfl, rfl, rfl, rfl, rfl⟩ rfl rfl rfl rfl rfl (by kernel_rfl) Try.func4 (by kernel_rfl)
    (of_decide_eq_true (by kernel_rfl)) (by unfold Func.isWrapper; first | (rw [if_pos (by decide +kernel)]; kernel_rfl) | (rw [if_neg (by decide +kernel)]; exact ⟨rfl, rfl⟩))
    (fun os started H enc _ => lifted os started H enc)
theorem proved : Rows.ModelJudgesSaid := over
end Go.Proofs.Ytkkjofefjepodaa.modelJudges
