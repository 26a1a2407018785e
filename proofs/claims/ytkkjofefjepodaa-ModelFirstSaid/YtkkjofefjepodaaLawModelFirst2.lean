/- Proved here: vinculumlaw19.ModelFirst returns true and leaves its arguments as they were, for any four ints; no further condition. -/
import Derived.Test.YtkkjofefjepodaaMdA
import Derived.ChangeOld
import Derived.Test.YtkkjofefjepodaaModelFirstC
import Derived.Test.YtkkjofefjepodaaModelFirstD
namespace Go.Proofs.Ytkkjofefjepodaa.modelFirst
open Go.ChangeShapes Go.WideShapes Go.ChangeAt Go.RowKit
set_option linter.unusedVariables false
theorem chain01_0 (L K : Int) (hL : 1 ≤ L ∧ L ≤ 3) (hK : 1 ≤ K ∧ K ≤ 3) : (⟨50, 100, [⟨1, 10, 0, 0, 2, 0, false⟩, ⟨2, 20, 0, 0, 2, 0, false⟩], ses [⟨2, L, 0, 3, [], []⟩, ⟨3, K, 0, 4, [], []⟩, tx0, tx0, tx0, tx0, tx0, tx0], 4, 3⟩ : MoI).doE 0 ⟨4, 1, 0, 0⟩ = 0 ∧ (⟨50, 100, [⟨1, 10, 0, 0, 2, 0, false⟩, ⟨2, 20, 0, 0, 2, 0, false⟩], ses [⟨2, L, 0, 3, [], []⟩, ⟨3, K, 0, 4, [], []⟩, tx0, tx0, tx0, tx0, tx0, tx0], 4, 3⟩ : MoI).doR 0 ⟨4, 1, 0, 0⟩ = ⟨0, 0, [], 0, 0⟩ ∧ (⟨50, 100, [⟨1, 10, 0, 0, 2, 0, false⟩, ⟨2, 20, 0, 0, 2, 0, false⟩], ses [⟨2, L, 0, 3, [], []⟩, ⟨3, K, 0, 4, [], []⟩, tx0, tx0, tx0, tx0, tx0, tx0], 4, 3⟩ : MoI).doM 0 ⟨4, 1, 0, 0⟩ = (⟨50, 100, [⟨1, 10, 0, 2, 2, 0, false⟩, ⟨2, 20, 0, 0, 2, 0, false⟩], ses [⟨2, L, 1, 3, [1], []⟩, ⟨3, K, 0, 4, [], []⟩, tx0, tx0, tx0, tx0, tx0, tx0], 4, 3⟩ : MoI) :=
  ⟨by rfl, by rfl, by exact MoI.ext rfl rfl rfl (ses_eq rfl rfl rfl rfl rfl rfl rfl rfl (fun _ => rfl)) rfl rfl⟩
theorem chain01_1 (L K : Int) (hL : 1 ≤ L ∧ L ≤ 3) (hK : 1 ≤ K ∧ K ≤ 3) : (⟨50, 100, [⟨1, 10, 0, 2, 2, 0, false⟩, ⟨2, 20, 0, 0, 2, 0, false⟩], ses [⟨2, L, 1, 3, [1], []⟩, ⟨3, K, 0, 4, [], []⟩, tx0, tx0, tx0, tx0, tx0, tx0], 4, 3⟩ : MoI).doE 1 ⟨3, 1, 0, 6⟩ = 0 ∧ (⟨50, 100, [⟨1, 10, 0, 2, 2, 0, false⟩, ⟨2, 20, 0, 0, 2, 0, false⟩], ses [⟨2, L, 1, 3, [1], []⟩, ⟨3, K, 0, 4, [], []⟩, tx0, tx0, tx0, tx0, tx0, tx0], 4, 3⟩ : MoI).doR 1 ⟨3, 1, 0, 6⟩ = ⟨14, 0, [], 4, 2⟩ ∧ (⟨50, 100, [⟨1, 10, 0, 2, 2, 0, false⟩, ⟨2, 20, 0, 0, 2, 0, false⟩], ses [⟨2, L, 1, 3, [1], []⟩, ⟨3, K, 0, 4, [], []⟩, tx0, tx0, tx0, tx0, tx0, tx0], 4, 3⟩ : MoI).doM 1 ⟨3, 1, 0, 6⟩ = (⟨50, 100, [⟨1, 10, 0, 2, 2, 0, false⟩, ⟨2, 20, 0, 0, 2, 0, false⟩], ses [⟨2, L, 1, 3, [1], []⟩, tx0, tx0, tx0, tx0, tx0, tx0, tx0], 4, 3⟩ : MoI) :=
  ⟨by rfl, by rfl, by exact MoI.ext rfl rfl rfl (ses_eq rfl rfl rfl rfl rfl rfl rfl rfl (fun _ => rfl)) rfl rfl⟩
theorem chain01_2 (L K : Int) (hL : 1 ≤ L ∧ L ≤ 3) (hK : 1 ≤ K ∧ K ≤ 3) : (⟨50, 100, [⟨1, 10, 0, 2, 2, 0, false⟩, ⟨2, 20, 0, 0, 2, 0, false⟩], ses [⟨2, L, 1, 3, [1], []⟩, tx0, tx0, tx0, tx0, tx0, tx0, tx0], 4, 3⟩ : MoI).live = [0] :=
  by rfl
theorem chain01 (L K : Int) (hL : 1 ≤ L ∧ L ≤ 3) (hK : 1 ≤ K ∧ K ≤ 3) : ∃ y0 y1 y2 : MoI, pairM L K = y0 ∧ y0.doE 0 ⟨4, 1, 0, 0⟩ = 0 ∧ y0.doR 0 ⟨4, 1, 0, 0⟩ = ⟨0, 0, [], 0, 0⟩ ∧ y0.doM 0 ⟨4, 1, 0, 0⟩ = y1 ∧ y1.doE 1 ⟨3, 1, 0, 6⟩ = 0 ∧ y1.doR 1 ⟨3, 1, 0, 6⟩ = ⟨14, 0, [], 4, 2⟩ ∧ y1.doM 1 ⟨3, 1, 0, 6⟩ = y2 ∧ y2.live = [0] :=
  ⟨⟨50, 100, [⟨1, 10, 0, 0, 2, 0, false⟩, ⟨2, 20, 0, 0, 2, 0, false⟩], ses [⟨2, L, 0, 3, [], []⟩, ⟨3, K, 0, 4, [], []⟩, tx0, tx0, tx0, tx0, tx0, tx0], 4, 3⟩,
    ⟨50, 100, [⟨1, 10, 0, 2, 2, 0, false⟩, ⟨2, 20, 0, 0, 2, 0, false⟩], ses [⟨2, L, 1, 3, [1], []⟩, ⟨3, K, 0, 4, [], []⟩, tx0, tx0, tx0, tx0, tx0, tx0], 4, 3⟩,
    ⟨50, 100, [⟨1, 10, 0, 2, 2, 0, false⟩, ⟨2, 20, 0, 0, 2, 0, false⟩], ses [⟨2, L, 1, 3, [1], []⟩, tx0, tx0, tx0, tx0, tx0, tx0, tx0], 4, 3⟩, pair_lit hL hK, (chain01_0 L K hL hK).1, (chain01_0 L K hL hK).2.1, (chain01_0 L K hL hK).2.2, (chain01_1 L K hL hK).1, (chain01_1 L K hL hK).2.1, (chain01_1 L K hL hK).2.2, (chain01_2 L K hL hK)⟩
set_option maxRecDepth 100000 in
set_option maxHeartbeats 16000000 in
theorem way_0_1 (a0 a1 a2 a3 : Int) (w : World) (hm2 : a2 % 256 % 3 = 0) (hm3 : a3 % 256 % 4 = 1) (m0 : Int) (hm0 : a0 % 256 % 3 = m0) (m1 : Int) (hm1 : a1 % 256 % 3 = m1) :
    Calls Try.prog 5 #[.int .i64 a0, .int .i64 a1, .int .i64 a2, .int .i64 a3] w fun e w' => e = .returned (.bool true) ∧ Below w.heap.size w w' := by
  obtain ⟨q2, h2, e2, f2, l2, l2', p2, p2', w20, w21⟩ := levN a2 3 0 (by decide) (by decide) hm2
  obtain ⟨q3, h3, e3, f3, l3, l3', p3, p3', w30, w31⟩ := levN a3 4 1 (by decide) (by decide) hm3
  obtain ⟨q0, h0, e0, f0, l0, l0', p0, p0', w00, w01⟩ := levN a0 3 m0 (by decide) (by decide) hm0
  obtain ⟨q1, h1, e1, f1, l1, l1', p1, p1', w10, w11⟩ := levN a1 3 m1 (by decide) (by decide) hm1
  have hL : 1 ≤ m0 + 1 ∧ m0 + 1 ≤ 3 := by omega
  have hK : 1 ≤ m1 + 1 ∧ m1 + 1 ≤ 3 := by omega
  have PA := pair_any (m0 + 1) (m1 + 1) hL hK w
  clear w20 w21 w30 w31
  obtain ⟨y0, y1, y2, f0, f0_0, f0_1, f0_2, f1_0, f1_1, f1_2, f2_0⟩ := chain01 (m0 + 1) (m1 + 1) hL hK
  have F0_0 := Lib.hid f0_0; have F0_1 := Lib.hid f0_1; have F0_2 := Lib.hid f0_2; have F1_0 := Lib.hid f1_0; have F1_1 := Lib.hid f1_1; have F1_2 := Lib.hid f1_2; have F2_0 := Lib.hid f2_0
  have F0 := Lib.hid f0
  clear f0 f0_0 f0_1 f0_2 f1_0 f1_1 f1_2 f2_0
  go_enter Try.func5, Try.ntmps5
  go_wp2_with fail
  refine PA.mono ?_
  rintro e w1 ⟨m, S1, rfl, M1⟩
  rw [F0.out] at M1
  clear PA
  go_wp2_with fail; refine (md_res (M1.quiet (by repeat (first | exact Keep.refl _ _ | refine Keep.alloc ?_ _))) 0 4 1 0 0 (i64_n (by omega)) (i64_n (by omega)) (i64_n (by omega)) (i64_n (by omega)) (i64_n (by omega)) 0 0 0 [] 0 0 y1 F0_0.out F0_1.out F0_2.out).mono ?_; rintro e w2 ⟨A2, q2, c2, S2, rfl, o2, n2, M2, k2⟩; have bo := md_op M1.lt k2; clear o2 n2 k2 M1
  obtain ⟨pa, pb, pc, pd, pz, ps⟩ := bo
  go_wp2_with fail; refine (md_res (M2.quiet (by repeat (first | exact Keep.refl _ _ | refine Keep.alloc ?_ _))) 1 3 1 0 6 (i64_n (by omega)) (i64_n (by omega)) (i64_n (by omega)) (i64_n (by omega)) (i64_n (by omega)) 0 14 0 [] 4 2 y2 F1_0.out F1_1.out F1_2.out).mono ?_; rintro e w3 ⟨A3, q3, c3, S3, rfl, o3, n3, M3, k3⟩; clear o3 n3 k3 M2
  go_wp2_with fail; refine (md_live (M3.quiet (by repeat (first | exact Keep.refl _ _ | refine Keep.alloc ?_ _))) [0] F2_0.out).mono ?_; rintro e w4 ⟨u4, S4, rfl, o4, n4, M4, k4⟩; obtain ⟨A4, c4, rfl, _, _⟩ := OwnN.shapeN o4; clear M3
  go_wp2_with fail
  refine (awake19_any _).mono ?_
  rintro e wz ⟨rfl, bz⟩
  go_wp2
  go_ret
  exact ⟨rfl, M4.fin bz⟩
theorem chain11_0 (L K : Int) (hL : 1 ≤ L ∧ L ≤ 3) (hK : 1 ≤ K ∧ K ≤ 3) : (⟨50, 100, [⟨1, 10, 0, 0, 2, 0, false⟩, ⟨2, 20, 0, 0, 2, 0, false⟩], ses [⟨2, L, 0, 3, [], []⟩, ⟨3, K, 0, 4, [], []⟩, tx0, tx0, tx0, tx0, tx0, tx0], 4, 3⟩ : MoI).doE 0 ⟨4, 1, 0, 0⟩ = 0 ∧ (⟨50, 100, [⟨1, 10, 0, 0, 2, 0, false⟩, ⟨2, 20, 0, 0, 2, 0, false⟩], ses [⟨2, L, 0, 3, [], []⟩, ⟨3, K, 0, 4, [], []⟩, tx0, tx0, tx0, tx0, tx0, tx0], 4, 3⟩ : MoI).doR 0 ⟨4, 1, 0, 0⟩ = ⟨0, 0, [], 0, 0⟩ ∧ (⟨50, 100, [⟨1, 10, 0, 0, 2, 0, false⟩, ⟨2, 20, 0, 0, 2, 0, false⟩], ses [⟨2, L, 0, 3, [], []⟩, ⟨3, K, 0, 4, [], []⟩, tx0, tx0, tx0, tx0, tx0, tx0], 4, 3⟩ : MoI).doM 0 ⟨4, 1, 0, 0⟩ = (⟨50, 100, [⟨1, 10, 0, 2, 2, 0, false⟩, ⟨2, 20, 0, 0, 2, 0, false⟩], ses [⟨2, L, 1, 3, [1], []⟩, ⟨3, K, 0, 4, [], []⟩, tx0, tx0, tx0, tx0, tx0, tx0], 4, 3⟩ : MoI) :=
  ⟨by rfl, by rfl, by exact MoI.ext rfl rfl rfl (ses_eq rfl rfl rfl rfl rfl rfl rfl rfl (fun _ => rfl)) rfl rfl⟩
theorem chain11_1 (L K : Int) (hL : 1 ≤ L ∧ L ≤ 3) (hK : 1 ≤ K ∧ K ≤ 3) : (⟨50, 100, [⟨1, 10, 0, 2, 2, 0, false⟩, ⟨2, 20, 0, 0, 2, 0, false⟩], ses [⟨2, L, 1, 3, [1], []⟩, ⟨3, K, 0, 4, [], []⟩, tx0, tx0, tx0, tx0, tx0, tx0], 4, 3⟩ : MoI).doE 0 ⟨6, 0, 0, 0⟩ = 0 ∧ (⟨50, 100, [⟨1, 10, 0, 2, 2, 0, false⟩, ⟨2, 20, 0, 0, 2, 0, false⟩], ses [⟨2, L, 1, 3, [1], []⟩, ⟨3, K, 0, 4, [], []⟩, tx0, tx0, tx0, tx0, tx0, tx0], 4, 3⟩ : MoI).doR 0 ⟨6, 0, 0, 0⟩ = ⟨0, 0, [], 3, 0⟩ ∧ (⟨50, 100, [⟨1, 10, 0, 2, 2, 0, false⟩, ⟨2, 20, 0, 0, 2, 0, false⟩], ses [⟨2, L, 1, 3, [1], []⟩, ⟨3, K, 0, 4, [], []⟩, tx0, tx0, tx0, tx0, tx0, tx0], 4, 3⟩ : MoI).doM 0 ⟨6, 0, 0, 0⟩ = (⟨50, 100, [⟨1, 10, 0, 0, 2, 5, false⟩, ⟨2, 20, 0, 0, 2, 0, false⟩], ses [tx0, ⟨3, K, 0, 4, [], []⟩, tx0, tx0, tx0, tx0, tx0, tx0], 5, 3⟩ : MoI) :=
  ⟨by rcases level_cases hL with rfl | rfl | rfl <;> rfl, by rcases level_cases hL with rfl | rfl | rfl <;> rfl, by rcases level_cases hL with rfl | rfl | rfl <;> exact MoI.ext rfl rfl rfl (ses_eq rfl rfl rfl rfl rfl rfl rfl rfl (fun _ => rfl)) rfl rfl⟩
theorem chain11_2 (L K : Int) (hL : 1 ≤ L ∧ L ≤ 3) (hK : 1 ≤ K ∧ K ≤ 3) : (⟨50, 100, [⟨1, 10, 0, 0, 2, 5, false⟩, ⟨2, 20, 0, 0, 2, 0, false⟩], ses [tx0, ⟨3, K, 0, 4, [], []⟩, tx0, tx0, tx0, tx0, tx0, tx0], 5, 3⟩ : MoI).doE 1 ⟨3, 1, 0, 6⟩ = 0 ∧ (⟨50, 100, [⟨1, 10, 0, 0, 2, 5, false⟩, ⟨2, 20, 0, 0, 2, 0, false⟩], ses [tx0, ⟨3, K, 0, 4, [], []⟩, tx0, tx0, tx0, tx0, tx0, tx0], 5, 3⟩ : MoI).doR 1 ⟨3, 1, 0, 6⟩ = ⟨14, 0, [], 4, 2⟩ ∧ (⟨50, 100, [⟨1, 10, 0, 0, 2, 5, false⟩, ⟨2, 20, 0, 0, 2, 0, false⟩], ses [tx0, ⟨3, K, 0, 4, [], []⟩, tx0, tx0, tx0, tx0, tx0, tx0], 5, 3⟩ : MoI).doM 1 ⟨3, 1, 0, 6⟩ = (⟨50, 100, [⟨1, 10, 0, 0, 2, 5, false⟩, ⟨2, 20, 0, 0, 2, 0, false⟩], ses [tx0, tx0, tx0, tx0, tx0, tx0, tx0, tx0], 5, 3⟩ : MoI) :=
  ⟨by rfl, by rfl, by exact MoI.ext rfl rfl rfl (ses_eq rfl rfl rfl rfl rfl rfl rfl rfl (fun _ => rfl)) rfl rfl⟩
theorem chain11_3 (L K : Int) (hL : 1 ≤ L ∧ L ≤ 3) (hK : 1 ≤ K ∧ K ≤ 3) : (⟨50, 100, [⟨1, 10, 0, 0, 2, 5, false⟩, ⟨2, 20, 0, 0, 2, 0, false⟩], ses [tx0, tx0, tx0, tx0, tx0, tx0, tx0, tx0], 5, 3⟩ : MoI).live = [] :=
  by rfl
theorem chain11 (L K : Int) (hL : 1 ≤ L ∧ L ≤ 3) (hK : 1 ≤ K ∧ K ≤ 3) : ∃ y0 y1 y2 y3 : MoI, pairM L K = y0 ∧ y0.doE 0 ⟨4, 1, 0, 0⟩ = 0 ∧ y0.doR 0 ⟨4, 1, 0, 0⟩ = ⟨0, 0, [], 0, 0⟩ ∧ y0.doM 0 ⟨4, 1, 0, 0⟩ = y1 ∧ y1.doE 0 ⟨6, 0, 0, 0⟩ = 0 ∧ y1.doR 0 ⟨6, 0, 0, 0⟩ = ⟨0, 0, [], 3, 0⟩ ∧ y1.doM 0 ⟨6, 0, 0, 0⟩ = y2 ∧ y2.doE 1 ⟨3, 1, 0, 6⟩ = 0 ∧ y2.doR 1 ⟨3, 1, 0, 6⟩ = ⟨14, 0, [], 4, 2⟩ ∧ y2.doM 1 ⟨3, 1, 0, 6⟩ = y3 ∧ y3.live = [] :=
  ⟨⟨50, 100, [⟨1, 10, 0, 0, 2, 0, false⟩, ⟨2, 20, 0, 0, 2, 0, false⟩], ses [⟨2, L, 0, 3, [], []⟩, ⟨3, K, 0, 4, [], []⟩, tx0, tx0, tx0, tx0, tx0, tx0], 4, 3⟩,
    ⟨50, 100, [⟨1, 10, 0, 2, 2, 0, false⟩, ⟨2, 20, 0, 0, 2, 0, false⟩], ses [⟨2, L, 1, 3, [1], []⟩, ⟨3, K, 0, 4, [], []⟩, tx0, tx0, tx0, tx0, tx0, tx0], 4, 3⟩,
    ⟨50, 100, [⟨1, 10, 0, 0, 2, 5, false⟩, ⟨2, 20, 0, 0, 2, 0, false⟩], ses [tx0, ⟨3, K, 0, 4, [], []⟩, tx0, tx0, tx0, tx0, tx0, tx0], 5, 3⟩,
    ⟨50, 100, [⟨1, 10, 0, 0, 2, 5, false⟩, ⟨2, 20, 0, 0, 2, 0, false⟩], ses [tx0, tx0, tx0, tx0, tx0, tx0, tx0, tx0], 5, 3⟩, pair_lit hL hK, (chain11_0 L K hL hK).1, (chain11_0 L K hL hK).2.1, (chain11_0 L K hL hK).2.2, (chain11_1 L K hL hK).1, (chain11_1 L K hL hK).2.1, (chain11_1 L K hL hK).2.2, (chain11_2 L K hL hK).1, (chain11_2 L K hL hK).2.1, (chain11_2 L K hL hK).2.2, (chain11_3 L K hL hK)⟩
set_option maxRecDepth 100000 in
set_option maxHeartbeats 16000000 in
theorem way_1_1 (a0 a1 a2 a3 : Int) (w : World) (hm2 : a2 % 256 % 3 = 1) (hm3 : a3 % 256 % 4 = 1) (m0 : Int) (hm0 : a0 % 256 % 3 = m0) (m1 : Int) (hm1 : a1 % 256 % 3 = m1) :
    Calls Try.prog 5 #[.int .i64 a0, .int .i64 a1, .int .i64 a2, .int .i64 a3] w fun e w' => e = .returned (.bool true) ∧ Below w.heap.size w w' := by
  obtain ⟨q2, h2, e2, f2, l2, l2', p2, p2', w20, w21⟩ := levN a2 3 1 (by decide) (by decide) hm2
  obtain ⟨q3, h3, e3, f3, l3, l3', p3, p3', w30, w31⟩ := levN a3 4 1 (by decide) (by decide) hm3
  obtain ⟨q0, h0, e0, f0, l0, l0', p0, p0', w00, w01⟩ := levN a0 3 m0 (by decide) (by decide) hm0
  obtain ⟨q1, h1, e1, f1, l1, l1', p1, p1', w10, w11⟩ := levN a1 3 m1 (by decide) (by decide) hm1
  have hL : 1 ≤ m0 + 1 ∧ m0 + 1 ≤ 3 := by omega
  have hK : 1 ≤ m1 + 1 ∧ m1 + 1 ≤ 3 := by omega
  have PA := pair_any (m0 + 1) (m1 + 1) hL hK w
  clear w20 w21 w30 w31
  obtain ⟨y0, y1, y2, y3, f0, f0_0, f0_1, f0_2, f1_0, f1_1, f1_2, f2_0, f2_1, f2_2, f3_0⟩ := chain11 (m0 + 1) (m1 + 1) hL hK
  have F0_0 := Lib.hid f0_0; have F0_1 := Lib.hid f0_1; have F0_2 := Lib.hid f0_2; have F1_0 := Lib.hid f1_0; have F1_1 := Lib.hid f1_1; have F1_2 := Lib.hid f1_2; have F2_0 := Lib.hid f2_0; have F2_1 := Lib.hid f2_1; have F2_2 := Lib.hid f2_2; have F3_0 := Lib.hid f3_0
  have F0 := Lib.hid f0
  clear f0 f0_0 f0_1 f0_2 f1_0 f1_1 f1_2 f2_0 f2_1 f2_2 f3_0
  go_enter Try.func5, Try.ntmps5
  go_wp2_with fail
  refine PA.mono ?_
  rintro e w1 ⟨m, S1, rfl, M1⟩
  rw [F0.out] at M1
  clear PA
  go_wp2_with fail; refine (md_res (M1.quiet (by repeat (first | exact Keep.refl _ _ | refine Keep.alloc ?_ _))) 0 4 1 0 0 (i64_n (by omega)) (i64_n (by omega)) (i64_n (by omega)) (i64_n (by omega)) (i64_n (by omega)) 0 0 0 [] 0 0 y1 F0_0.out F0_1.out F0_2.out).mono ?_; rintro e w2 ⟨A2, q2, c2, S2, rfl, o2, n2, M2, k2⟩; have bo := md_op M1.lt k2; clear o2 n2 k2 M1
  go_wp2_with fail; refine (md_res (M2.quiet (by repeat (first | exact Keep.refl _ _ | refine Keep.alloc ?_ _))) 0 6 0 0 0 (i64_n (by omega)) (i64_n (by omega)) (i64_n (by omega)) (i64_n (by omega)) (i64_n (by omega)) 0 0 0 [] 3 0 y2 F1_0.out F1_1.out F1_2.out).mono ?_; rintro e w3 ⟨A3, q3, c3, S3, rfl, o3, n3, M3, k3⟩; have bp := bo.next k3; clear bo; have bo := bp; clear bp; clear o3 n3 k3 M2
  obtain ⟨pa, pb, pc, pd, pz, ps⟩ := bo
  go_wp2_with fail; refine (md_res (M3.quiet (by repeat (first | exact Keep.refl _ _ | refine Keep.alloc ?_ _))) 1 3 1 0 6 (i64_n (by omega)) (i64_n (by omega)) (i64_n (by omega)) (i64_n (by omega)) (i64_n (by omega)) 0 14 0 [] 4 2 y3 F2_0.out F2_1.out F2_2.out).mono ?_; rintro e w4 ⟨A4, q4, c4, S4, rfl, o4, n4, M4, k4⟩; clear o4 n4 k4 M3
  go_wp2_with fail; refine (md_live (M4.quiet (by repeat (first | exact Keep.refl _ _ | refine Keep.alloc ?_ _))) [] F3_0.out).mono ?_; rintro e w5 ⟨u5, S5, rfl, o5, n5, M5, k5⟩; obtain ⟨A5, c5, rfl, _, _⟩ := OwnN.shapeN o5; clear M4
  go_wp2_with fail
  refine (awake19_any _).mono ?_
  rintro e wz ⟨rfl, bz⟩
  go_wp2
  go_ret
  exact ⟨rfl, M5.fin bz⟩
theorem chain21_0 (L K : Int) (hL : 1 ≤ L ∧ L ≤ 3) (hK : 1 ≤ K ∧ K ≤ 3) : (⟨50, 100, [⟨1, 10, 0, 0, 2, 0, false⟩, ⟨2, 20, 0, 0, 2, 0, false⟩], ses [⟨2, L, 0, 3, [], []⟩, ⟨3, K, 0, 4, [], []⟩, tx0, tx0, tx0, tx0, tx0, tx0], 4, 3⟩ : MoI).doE 0 ⟨4, 1, 0, 0⟩ = 0 ∧ (⟨50, 100, [⟨1, 10, 0, 0, 2, 0, false⟩, ⟨2, 20, 0, 0, 2, 0, false⟩], ses [⟨2, L, 0, 3, [], []⟩, ⟨3, K, 0, 4, [], []⟩, tx0, tx0, tx0, tx0, tx0, tx0], 4, 3⟩ : MoI).doR 0 ⟨4, 1, 0, 0⟩ = ⟨0, 0, [], 0, 0⟩ ∧ (⟨50, 100, [⟨1, 10, 0, 0, 2, 0, false⟩, ⟨2, 20, 0, 0, 2, 0, false⟩], ses [⟨2, L, 0, 3, [], []⟩, ⟨3, K, 0, 4, [], []⟩, tx0, tx0, tx0, tx0, tx0, tx0], 4, 3⟩ : MoI).doM 0 ⟨4, 1, 0, 0⟩ = (⟨50, 100, [⟨1, 10, 0, 2, 2, 0, false⟩, ⟨2, 20, 0, 0, 2, 0, false⟩], ses [⟨2, L, 1, 3, [1], []⟩, ⟨3, K, 0, 4, [], []⟩, tx0, tx0, tx0, tx0, tx0, tx0], 4, 3⟩ : MoI) :=
  ⟨by rfl, by rfl, by exact MoI.ext rfl rfl rfl (ses_eq rfl rfl rfl rfl rfl rfl rfl rfl (fun _ => rfl)) rfl rfl⟩
theorem chain21_1 (L K : Int) (hL : 1 ≤ L ∧ L ≤ 3) (hK : 1 ≤ K ∧ K ≤ 3) : (⟨50, 100, [⟨1, 10, 0, 2, 2, 0, false⟩, ⟨2, 20, 0, 0, 2, 0, false⟩], ses [⟨2, L, 1, 3, [1], []⟩, ⟨3, K, 0, 4, [], []⟩, tx0, tx0, tx0, tx0, tx0, tx0], 4, 3⟩ : MoI).doE 0 ⟨7, 0, 0, 0⟩ = 0 ∧ (⟨50, 100, [⟨1, 10, 0, 2, 2, 0, false⟩, ⟨2, 20, 0, 0, 2, 0, false⟩], ses [⟨2, L, 1, 3, [1], []⟩, ⟨3, K, 0, 4, [], []⟩, tx0, tx0, tx0, tx0, tx0, tx0], 4, 3⟩ : MoI).doR 0 ⟨7, 0, 0, 0⟩ = ⟨0, 0, [], 4, 1⟩ ∧ (⟨50, 100, [⟨1, 10, 0, 2, 2, 0, false⟩, ⟨2, 20, 0, 0, 2, 0, false⟩], ses [⟨2, L, 1, 3, [1], []⟩, ⟨3, K, 0, 4, [], []⟩, tx0, tx0, tx0, tx0, tx0, tx0], 4, 3⟩ : MoI).doM 0 ⟨7, 0, 0, 0⟩ = (⟨50, 100, [⟨1, 10, 0, 0, 2, 0, false⟩, ⟨2, 20, 0, 0, 2, 0, false⟩], ses [tx0, ⟨3, K, 0, 4, [], []⟩, tx0, tx0, tx0, tx0, tx0, tx0], 4, 3⟩ : MoI) :=
  ⟨by rfl, by rfl, by exact MoI.ext rfl rfl rfl (ses_eq rfl rfl rfl rfl rfl rfl rfl rfl (fun _ => rfl)) rfl rfl⟩
theorem chain21_2 (L K : Int) (hL : 1 ≤ L ∧ L ≤ 3) (hK : 1 ≤ K ∧ K ≤ 3) : (⟨50, 100, [⟨1, 10, 0, 0, 2, 0, false⟩, ⟨2, 20, 0, 0, 2, 0, false⟩], ses [tx0, ⟨3, K, 0, 4, [], []⟩, tx0, tx0, tx0, tx0, tx0, tx0], 4, 3⟩ : MoI).doE 1 ⟨3, 1, 0, 6⟩ = 0 ∧ (⟨50, 100, [⟨1, 10, 0, 0, 2, 0, false⟩, ⟨2, 20, 0, 0, 2, 0, false⟩], ses [tx0, ⟨3, K, 0, 4, [], []⟩, tx0, tx0, tx0, tx0, tx0, tx0], 4, 3⟩ : MoI).doR 1 ⟨3, 1, 0, 6⟩ = ⟨0, 0, [], 0, 0⟩ ∧ (⟨50, 100, [⟨1, 10, 0, 0, 2, 0, false⟩, ⟨2, 20, 0, 0, 2, 0, false⟩], ses [tx0, ⟨3, K, 0, 4, [], []⟩, tx0, tx0, tx0, tx0, tx0, tx0], 4, 3⟩ : MoI).doM 1 ⟨3, 1, 0, 6⟩ = (⟨50, 100, [⟨1, 10, 0, 3, 2, 0, false⟩, ⟨2, 20, 0, 0, 2, 0, false⟩, ⟨1, 6, 3, 0, 0, 0, false⟩], ses [tx0, ⟨3, K, 1, 4, [1], []⟩, tx0, tx0, tx0, tx0, tx0, tx0], 4, 3⟩ : MoI) :=
  ⟨by rfl, by rfl, by exact MoI.ext rfl rfl rfl (ses_eq rfl rfl rfl rfl rfl rfl rfl rfl (fun _ => rfl)) rfl rfl⟩
theorem chain21_3 (L K : Int) (hL : 1 ≤ L ∧ L ≤ 3) (hK : 1 ≤ K ∧ K ≤ 3) : (⟨50, 100, [⟨1, 10, 0, 3, 2, 0, false⟩, ⟨2, 20, 0, 0, 2, 0, false⟩, ⟨1, 6, 3, 0, 0, 0, false⟩], ses [tx0, ⟨3, K, 1, 4, [1], []⟩, tx0, tx0, tx0, tx0, tx0, tx0], 4, 3⟩ : MoI).doE 1 ⟨6, 0, 0, 0⟩ = 0 ∧ (⟨50, 100, [⟨1, 10, 0, 3, 2, 0, false⟩, ⟨2, 20, 0, 0, 2, 0, false⟩, ⟨1, 6, 3, 0, 0, 0, false⟩], ses [tx0, ⟨3, K, 1, 4, [1], []⟩, tx0, tx0, tx0, tx0, tx0, tx0], 4, 3⟩ : MoI).doR 1 ⟨6, 0, 0, 0⟩ = ⟨0, 0, [], 3, 0⟩ ∧ (⟨50, 100, [⟨1, 10, 0, 3, 2, 0, false⟩, ⟨2, 20, 0, 0, 2, 0, false⟩, ⟨1, 6, 3, 0, 0, 0, false⟩], ses [tx0, ⟨3, K, 1, 4, [1], []⟩, tx0, tx0, tx0, tx0, tx0, tx0], 4, 3⟩ : MoI).doM 1 ⟨6, 0, 0, 0⟩ = (⟨50, 100, [⟨1, 10, 0, 0, 2, 5, false⟩, ⟨2, 20, 0, 0, 2, 0, false⟩, ⟨1, 6, 0, 0, 5, 0, false⟩], ses [tx0, tx0, tx0, tx0, tx0, tx0, tx0, tx0], 5, 3⟩ : MoI) :=
  ⟨by rcases level_cases hK with rfl | rfl | rfl <;> rfl, by rcases level_cases hK with rfl | rfl | rfl <;> rfl, by rcases level_cases hK with rfl | rfl | rfl <;> exact MoI.ext rfl rfl rfl (ses_eq rfl rfl rfl rfl rfl rfl rfl rfl (fun _ => rfl)) rfl rfl⟩
theorem chain21 (L K : Int) (hL : 1 ≤ L ∧ L ≤ 3) (hK : 1 ≤ K ∧ K ≤ 3) : ∃ y0 y1 y2 y3 y4 : MoI, pairM L K = y0 ∧ y0.doE 0 ⟨4, 1, 0, 0⟩ = 0 ∧ y0.doR 0 ⟨4, 1, 0, 0⟩ = ⟨0, 0, [], 0, 0⟩ ∧ y0.doM 0 ⟨4, 1, 0, 0⟩ = y1 ∧ y1.doE 0 ⟨7, 0, 0, 0⟩ = 0 ∧ y1.doR 0 ⟨7, 0, 0, 0⟩ = ⟨0, 0, [], 4, 1⟩ ∧ y1.doM 0 ⟨7, 0, 0, 0⟩ = y2 ∧ y2.doE 1 ⟨3, 1, 0, 6⟩ = 0 ∧ y2.doR 1 ⟨3, 1, 0, 6⟩ = ⟨0, 0, [], 0, 0⟩ ∧ y2.doM 1 ⟨3, 1, 0, 6⟩ = y3 ∧ y3.doE 1 ⟨6, 0, 0, 0⟩ = 0 ∧ y3.doR 1 ⟨6, 0, 0, 0⟩ = ⟨0, 0, [], 3, 0⟩ ∧ y3.doM 1 ⟨6, 0, 0, 0⟩ = y4 :=
  ⟨⟨50, 100, [⟨1, 10, 0, 0, 2, 0, false⟩, ⟨2, 20, 0, 0, 2, 0, false⟩], ses [⟨2, L, 0, 3, [], []⟩, ⟨3, K, 0, 4, [], []⟩, tx0, tx0, tx0, tx0, tx0, tx0], 4, 3⟩,
    ⟨50, 100, [⟨1, 10, 0, 2, 2, 0, false⟩, ⟨2, 20, 0, 0, 2, 0, false⟩], ses [⟨2, L, 1, 3, [1], []⟩, ⟨3, K, 0, 4, [], []⟩, tx0, tx0, tx0, tx0, tx0, tx0], 4, 3⟩,
    ⟨50, 100, [⟨1, 10, 0, 0, 2, 0, false⟩, ⟨2, 20, 0, 0, 2, 0, false⟩], ses [tx0, ⟨3, K, 0, 4, [], []⟩, tx0, tx0, tx0, tx0, tx0, tx0], 4, 3⟩,
    ⟨50, 100, [⟨1, 10, 0, 3, 2, 0, false⟩, ⟨2, 20, 0, 0, 2, 0, false⟩, ⟨1, 6, 3, 0, 0, 0, false⟩], ses [tx0, ⟨3, K, 1, 4, [1], []⟩, tx0, tx0, tx0, tx0, tx0, tx0], 4, 3⟩,
    ⟨50, 100, [⟨1, 10, 0, 0, 2, 5, false⟩, ⟨2, 20, 0, 0, 2, 0, false⟩, ⟨1, 6, 0, 0, 5, 0, false⟩], ses [tx0, tx0, tx0, tx0, tx0, tx0, tx0, tx0], 5, 3⟩, pair_lit hL hK, (chain21_0 L K hL hK).1, (chain21_0 L K hL hK).2.1, (chain21_0 L K hL hK).2.2, (chain21_1 L K hL hK).1, (chain21_1 L K hL hK).2.1, (chain21_1 L K hL hK).2.2, (chain21_2 L K hL hK).1, (chain21_2 L K hL hK).2.1, (chain21_2 L K hL hK).2.2, (chain21_3 L K hL hK).1, (chain21_3 L K hL hK).2.1, (chain21_3 L K hL hK).2.2⟩
set_option maxRecDepth 100000 in
set_option maxHeartbeats 16000000 in
theorem way_2_1 (a0 a1 a2 a3 : Int) (w : World) (hm2 : a2 % 256 % 3 = 2) (hm3 : a3 % 256 % 4 = 1) (m0 : Int) (hm0 : a0 % 256 % 3 = m0) (m1 : Int) (hm1 : a1 % 256 % 3 = m1) :
    Calls Try.prog 5 #[.int .i64 a0, .int .i64 a1, .int .i64 a2, .int .i64 a3] w fun e w' => e = .returned (.bool true) ∧ Below w.heap.size w w' := by
  obtain ⟨q2, h2, e2, f2, l2, l2', p2, p2', w20, w21⟩ := levN a2 3 2 (by decide) (by decide) hm2
  obtain ⟨q3, h3, e3, f3, l3, l3', p3, p3', w30, w31⟩ := levN a3 4 1 (by decide) (by decide) hm3
  obtain ⟨q0, h0, e0, f0, l0, l0', p0, p0', w00, w01⟩ := levN a0 3 m0 (by decide) (by decide) hm0
  obtain ⟨q1, h1, e1, f1, l1, l1', p1, p1', w10, w11⟩ := levN a1 3 m1 (by decide) (by decide) hm1
  have hL : 1 ≤ m0 + 1 ∧ m0 + 1 ≤ 3 := by omega
  have hK : 1 ≤ m1 + 1 ∧ m1 + 1 ≤ 3 := by omega
  have PA := pair_any (m0 + 1) (m1 + 1) hL hK w
  clear w20 w21 w30 w31
  obtain ⟨y0, y1, y2, y3, y4, f0, f0_0, f0_1, f0_2, f1_0, f1_1, f1_2, f2_0, f2_1, f2_2, f3_0, f3_1, f3_2⟩ := chain21 (m0 + 1) (m1 + 1) hL hK
  have F0_0 := Lib.hid f0_0; have F0_1 := Lib.hid f0_1; have F0_2 := Lib.hid f0_2; have F1_0 := Lib.hid f1_0; have F1_1 := Lib.hid f1_1; have F1_2 := Lib.hid f1_2; have F2_0 := Lib.hid f2_0; have F2_1 := Lib.hid f2_1; have F2_2 := Lib.hid f2_2; have F3_0 := Lib.hid f3_0; have F3_1 := Lib.hid f3_1; have F3_2 := Lib.hid f3_2
  have F0 := Lib.hid f0
  clear f0 f0_0 f0_1 f0_2 f1_0 f1_1 f1_2 f2_0 f2_1 f2_2 f3_0 f3_1 f3_2
  go_enter Try.func5, Try.ntmps5
  go_wp2_with fail
  refine PA.mono ?_
  rintro e w1 ⟨m, S1, rfl, M1⟩
  rw [F0.out] at M1
  clear PA
  go_wp2_with fail; refine (md_res (M1.quiet (by repeat (first | exact Keep.refl _ _ | refine Keep.alloc ?_ _))) 0 4 1 0 0 (i64_n (by omega)) (i64_n (by omega)) (i64_n (by omega)) (i64_n (by omega)) (i64_n (by omega)) 0 0 0 [] 0 0 y1 F0_0.out F0_1.out F0_2.out).mono ?_; rintro e w2 ⟨A2, q2, c2, S2, rfl, o2, n2, M2, k2⟩; have bo := md_op M1.lt k2; clear o2 n2 k2 M1
  go_wp2_with fail; refine (md_res (M2.quiet (by repeat (first | exact Keep.refl _ _ | refine Keep.alloc ?_ _))) 0 7 0 0 0 (i64_n (by omega)) (i64_n (by omega)) (i64_n (by omega)) (i64_n (by omega)) (i64_n (by omega)) 0 0 0 [] 4 1 y2 F1_0.out F1_1.out F1_2.out).mono ?_; rintro e w3 ⟨A3, q3, c3, S3, rfl, o3, n3, M3, k3⟩; have bp := bo.next k3; clear bo; have bo := bp; clear bp; clear o3 n3 k3 M2
  obtain ⟨pa, pb, pc, pd, pz, ps⟩ := bo
  go_wp2_with fail; refine (md_res (M3.quiet (by repeat (first | exact Keep.refl _ _ | refine Keep.alloc ?_ _))) 1 3 1 0 6 (i64_n (by omega)) (i64_n (by omega)) (i64_n (by omega)) (i64_n (by omega)) (i64_n (by omega)) 0 0 0 [] 0 0 y3 F2_0.out F2_1.out F2_2.out).mono ?_; rintro e w4 ⟨A4, q4, c4, S4, rfl, o4, n4, M4, k4⟩; clear o4 n4 k4 M3
  go_wp2_with fail; refine (md_res (M4.quiet (by repeat (first | exact Keep.refl _ _ | refine Keep.alloc ?_ _))) 1 6 0 0 0 (i64_n (by omega)) (i64_n (by omega)) (i64_n (by omega)) (i64_n (by omega)) (i64_n (by omega)) 0 0 0 [] 3 0 y4 F3_0.out F3_1.out F3_2.out).mono ?_; rintro e w5 ⟨A5, q5, c5, S5, rfl, o5, n5, M5, k5⟩; have bx4 := md_box M4.lt k5; clear o5 n5 k5 M4
  obtain ⟨ba4, bb4, bc4, bd4, bz4, bs4⟩ := bx4
  go_wp2_with fail
  refine (awake19_any _).mono ?_
  rintro e wz ⟨rfl, bz⟩
  go_wp2
  go_ret
  exact ⟨rfl, M5.fin bz⟩
theorem chain00_0 (L K : Int) (hL : 1 ≤ L ∧ L ≤ 3) (hK : 1 ≤ K ∧ K ≤ 3) : (⟨50, 100, [⟨1, 10, 0, 0, 2, 0, false⟩, ⟨2, 20, 0, 0, 2, 0, false⟩], ses [⟨2, L, 0, 3, [], []⟩, ⟨3, K, 0, 4, [], []⟩, tx0, tx0, tx0, tx0, tx0, tx0], 4, 3⟩ : MoI).doE 0 ⟨3, 1, 0, 5⟩ = 0 ∧ (⟨50, 100, [⟨1, 10, 0, 0, 2, 0, false⟩, ⟨2, 20, 0, 0, 2, 0, false⟩], ses [⟨2, L, 0, 3, [], []⟩, ⟨3, K, 0, 4, [], []⟩, tx0, tx0, tx0, tx0, tx0, tx0], 4, 3⟩ : MoI).doR 0 ⟨3, 1, 0, 5⟩ = ⟨0, 0, [], 0, 0⟩ ∧ (⟨50, 100, [⟨1, 10, 0, 0, 2, 0, false⟩, ⟨2, 20, 0, 0, 2, 0, false⟩], ses [⟨2, L, 0, 3, [], []⟩, ⟨3, K, 0, 4, [], []⟩, tx0, tx0, tx0, tx0, tx0, tx0], 4, 3⟩ : MoI).doM 0 ⟨3, 1, 0, 5⟩ = (⟨50, 100, [⟨1, 10, 0, 2, 2, 0, false⟩, ⟨2, 20, 0, 0, 2, 0, false⟩, ⟨1, 5, 2, 0, 0, 0, false⟩], ses [⟨2, L, 1, 3, [1], []⟩, ⟨3, K, 0, 4, [], []⟩, tx0, tx0, tx0, tx0, tx0, tx0], 4, 3⟩ : MoI) :=
  ⟨by rfl, by rfl, by exact MoI.ext rfl rfl rfl (ses_eq rfl rfl rfl rfl rfl rfl rfl rfl (fun _ => rfl)) rfl rfl⟩
theorem chain00_1 (L K : Int) (hL : 1 ≤ L ∧ L ≤ 3) (hK : 1 ≤ K ∧ K ≤ 3) : (⟨50, 100, [⟨1, 10, 0, 2, 2, 0, false⟩, ⟨2, 20, 0, 0, 2, 0, false⟩, ⟨1, 5, 2, 0, 0, 0, false⟩], ses [⟨2, L, 1, 3, [1], []⟩, ⟨3, K, 0, 4, [], []⟩, tx0, tx0, tx0, tx0, tx0, tx0], 4, 3⟩ : MoI).doE 1 ⟨3, 1, 0, 6⟩ = 0 ∧ (⟨50, 100, [⟨1, 10, 0, 2, 2, 0, false⟩, ⟨2, 20, 0, 0, 2, 0, false⟩, ⟨1, 5, 2, 0, 0, 0, false⟩], ses [⟨2, L, 1, 3, [1], []⟩, ⟨3, K, 0, 4, [], []⟩, tx0, tx0, tx0, tx0, tx0, tx0], 4, 3⟩ : MoI).doR 1 ⟨3, 1, 0, 6⟩ = ⟨14, 0, [], 4, 2⟩ ∧ (⟨50, 100, [⟨1, 10, 0, 2, 2, 0, false⟩, ⟨2, 20, 0, 0, 2, 0, false⟩, ⟨1, 5, 2, 0, 0, 0, false⟩], ses [⟨2, L, 1, 3, [1], []⟩, ⟨3, K, 0, 4, [], []⟩, tx0, tx0, tx0, tx0, tx0, tx0], 4, 3⟩ : MoI).doM 1 ⟨3, 1, 0, 6⟩ = (⟨50, 100, [⟨1, 10, 0, 2, 2, 0, false⟩, ⟨2, 20, 0, 0, 2, 0, false⟩, ⟨1, 5, 2, 0, 0, 0, false⟩], ses [⟨2, L, 1, 3, [1], []⟩, tx0, tx0, tx0, tx0, tx0, tx0, tx0], 4, 3⟩ : MoI) :=
  ⟨by rfl, by rfl, by exact MoI.ext rfl rfl rfl (ses_eq rfl rfl rfl rfl rfl rfl rfl rfl (fun _ => rfl)) rfl rfl⟩
theorem chain00_2 (L K : Int) (hL : 1 ≤ L ∧ L ≤ 3) (hK : 1 ≤ K ∧ K ≤ 3) : (⟨50, 100, [⟨1, 10, 0, 2, 2, 0, false⟩, ⟨2, 20, 0, 0, 2, 0, false⟩, ⟨1, 5, 2, 0, 0, 0, false⟩], ses [⟨2, L, 1, 3, [1], []⟩, tx0, tx0, tx0, tx0, tx0, tx0, tx0], 4, 3⟩ : MoI).live = [0] :=
  by rfl
theorem chain00 (L K : Int) (hL : 1 ≤ L ∧ L ≤ 3) (hK : 1 ≤ K ∧ K ≤ 3) : ∃ y0 y1 y2 : MoI, pairM L K = y0 ∧ y0.doE 0 ⟨3, 1, 0, 5⟩ = 0 ∧ y0.doR 0 ⟨3, 1, 0, 5⟩ = ⟨0, 0, [], 0, 0⟩ ∧ y0.doM 0 ⟨3, 1, 0, 5⟩ = y1 ∧ y1.doE 1 ⟨3, 1, 0, 6⟩ = 0 ∧ y1.doR 1 ⟨3, 1, 0, 6⟩ = ⟨14, 0, [], 4, 2⟩ ∧ y1.doM 1 ⟨3, 1, 0, 6⟩ = y2 ∧ y2.live = [0] :=
  ⟨⟨50, 100, [⟨1, 10, 0, 0, 2, 0, false⟩, ⟨2, 20, 0, 0, 2, 0, false⟩], ses [⟨2, L, 0, 3, [], []⟩, ⟨3, K, 0, 4, [], []⟩, tx0, tx0, tx0, tx0, tx0, tx0], 4, 3⟩,
    ⟨50, 100, [⟨1, 10, 0, 2, 2, 0, false⟩, ⟨2, 20, 0, 0, 2, 0, false⟩, ⟨1, 5, 2, 0, 0, 0, false⟩], ses [⟨2, L, 1, 3, [1], []⟩, ⟨3, K, 0, 4, [], []⟩, tx0, tx0, tx0, tx0, tx0, tx0], 4, 3⟩,
    ⟨50, 100, [⟨1, 10, 0, 2, 2, 0, false⟩, ⟨2, 20, 0, 0, 2, 0, false⟩, ⟨1, 5, 2, 0, 0, 0, false⟩], ses [⟨2, L, 1, 3, [1], []⟩, tx0, tx0, tx0, tx0, tx0, tx0, tx0], 4, 3⟩, pair_lit hL hK, (chain00_0 L K hL hK).1, (chain00_0 L K hL hK).2.1, (chain00_0 L K hL hK).2.2, (chain00_1 L K hL hK).1, (chain00_1 L K hL hK).2.1, (chain00_1 L K hL hK).2.2, (chain00_2 L K hL hK)⟩
set_option maxRecDepth 100000 in
set_option maxHeartbeats 16000000 in
theorem way_0_0 (a0 a1 a2 a3 : Int) (w : World) (hm2 : a2 % 256 % 3 = 0) (hm3 : a3 % 256 % 4 = 0) (m0 : Int) (hm0 : a0 % 256 % 3 = m0) (m1 : Int) (hm1 : a1 % 256 % 3 = m1) :
    Calls Try.prog 5 #[.int .i64 a0, .int .i64 a1, .int .i64 a2, .int .i64 a3] w fun e w' => e = .returned (.bool true) ∧ Below w.heap.size w w' := by
  obtain ⟨q2, h2, e2, f2, l2, l2', p2, p2', w20, w21⟩ := levN a2 3 0 (by decide) (by decide) hm2
  obtain ⟨q3, h3, e3, f3, l3, l3', p3, p3', w30, w31⟩ := levN a3 4 0 (by decide) (by decide) hm3
  obtain ⟨q0, h0, e0, f0, l0, l0', p0, p0', w00, w01⟩ := levN a0 3 m0 (by decide) (by decide) hm0
  obtain ⟨q1, h1, e1, f1, l1, l1', p1, p1', w10, w11⟩ := levN a1 3 m1 (by decide) (by decide) hm1
  have hL : 1 ≤ m0 + 1 ∧ m0 + 1 ≤ 3 := by omega
  have hK : 1 ≤ m1 + 1 ∧ m1 + 1 ≤ 3 := by omega
  have PA := pair_any (m0 + 1) (m1 + 1) hL hK w
  clear w20 w21 w30 w31
  obtain ⟨y0, y1, y2, f0, f0_0, f0_1, f0_2, f1_0, f1_1, f1_2, f2_0⟩ := chain00 (m0 + 1) (m1 + 1) hL hK
  have F0_0 := Lib.hid f0_0; have F0_1 := Lib.hid f0_1; have F0_2 := Lib.hid f0_2; have F1_0 := Lib.hid f1_0; have F1_1 := Lib.hid f1_1; have F1_2 := Lib.hid f1_2; have F2_0 := Lib.hid f2_0
  have F0 := Lib.hid f0
  clear f0 f0_0 f0_1 f0_2 f1_0 f1_1 f1_2 f2_0
  go_enter Try.func5, Try.ntmps5
  go_wp2_with fail
  refine PA.mono ?_
  rintro e w1 ⟨m, S1, rfl, M1⟩
  rw [F0.out] at M1
  clear PA
  go_wp2_with fail; refine (md_res (M1.quiet (by repeat (first | exact Keep.refl _ _ | refine Keep.alloc ?_ _))) 0 3 1 0 5 (i64_n (by omega)) (i64_n (by omega)) (i64_n (by omega)) (i64_n (by omega)) (i64_n (by omega)) 0 0 0 [] 0 0 y1 F0_0.out F0_1.out F0_2.out).mono ?_; rintro e w2 ⟨A2, q2, c2, S2, rfl, o2, n2, M2, k2⟩; have bo := md_op M1.lt k2; clear o2 n2 k2 M1
  obtain ⟨pa, pb, pc, pd, pz, ps⟩ := bo
  go_wp2_with fail; refine (md_res (M2.quiet (by repeat (first | exact Keep.refl _ _ | refine Keep.alloc ?_ _))) 1 3 1 0 6 (i64_n (by omega)) (i64_n (by omega)) (i64_n (by omega)) (i64_n (by omega)) (i64_n (by omega)) 0 14 0 [] 4 2 y2 F1_0.out F1_1.out F1_2.out).mono ?_; rintro e w3 ⟨A3, q3, c3, S3, rfl, o3, n3, M3, k3⟩; clear o3 n3 k3 M2
  go_wp2_with fail; refine (md_live (M3.quiet (by repeat (first | exact Keep.refl _ _ | refine Keep.alloc ?_ _))) [0] F2_0.out).mono ?_; rintro e w4 ⟨u4, S4, rfl, o4, n4, M4, k4⟩; obtain ⟨A4, c4, rfl, _, _⟩ := OwnN.shapeN o4; clear M3
  go_wp2_with fail
  refine (awake19_any _).mono ?_
  rintro e wz ⟨rfl, bz⟩
  go_wp2
  go_ret
  exact ⟨rfl, M4.fin bz⟩
theorem chain10_0 (L K : Int) (hL : 1 ≤ L ∧ L ≤ 3) (hK : 1 ≤ K ∧ K ≤ 3) : (⟨50, 100, [⟨1, 10, 0, 0, 2, 0, false⟩, ⟨2, 20, 0, 0, 2, 0, false⟩], ses [⟨2, L, 0, 3, [], []⟩, ⟨3, K, 0, 4, [], []⟩, tx0, tx0, tx0, tx0, tx0, tx0], 4, 3⟩ : MoI).doE 0 ⟨3, 1, 0, 5⟩ = 0 ∧ (⟨50, 100, [⟨1, 10, 0, 0, 2, 0, false⟩, ⟨2, 20, 0, 0, 2, 0, false⟩], ses [⟨2, L, 0, 3, [], []⟩, ⟨3, K, 0, 4, [], []⟩, tx0, tx0, tx0, tx0, tx0, tx0], 4, 3⟩ : MoI).doR 0 ⟨3, 1, 0, 5⟩ = ⟨0, 0, [], 0, 0⟩ ∧ (⟨50, 100, [⟨1, 10, 0, 0, 2, 0, false⟩, ⟨2, 20, 0, 0, 2, 0, false⟩], ses [⟨2, L, 0, 3, [], []⟩, ⟨3, K, 0, 4, [], []⟩, tx0, tx0, tx0, tx0, tx0, tx0], 4, 3⟩ : MoI).doM 0 ⟨3, 1, 0, 5⟩ = (⟨50, 100, [⟨1, 10, 0, 2, 2, 0, false⟩, ⟨2, 20, 0, 0, 2, 0, false⟩, ⟨1, 5, 2, 0, 0, 0, false⟩], ses [⟨2, L, 1, 3, [1], []⟩, ⟨3, K, 0, 4, [], []⟩, tx0, tx0, tx0, tx0, tx0, tx0], 4, 3⟩ : MoI) :=
  ⟨by rfl, by rfl, by exact MoI.ext rfl rfl rfl (ses_eq rfl rfl rfl rfl rfl rfl rfl rfl (fun _ => rfl)) rfl rfl⟩
theorem chain10_1 (L K : Int) (hL : 1 ≤ L ∧ L ≤ 3) (hK : 1 ≤ K ∧ K ≤ 3) : (⟨50, 100, [⟨1, 10, 0, 2, 2, 0, false⟩, ⟨2, 20, 0, 0, 2, 0, false⟩, ⟨1, 5, 2, 0, 0, 0, false⟩], ses [⟨2, L, 1, 3, [1], []⟩, ⟨3, K, 0, 4, [], []⟩, tx0, tx0, tx0, tx0, tx0, tx0], 4, 3⟩ : MoI).doE 0 ⟨6, 0, 0, 0⟩ = 0 ∧ (⟨50, 100, [⟨1, 10, 0, 2, 2, 0, false⟩, ⟨2, 20, 0, 0, 2, 0, false⟩, ⟨1, 5, 2, 0, 0, 0, false⟩], ses [⟨2, L, 1, 3, [1], []⟩, ⟨3, K, 0, 4, [], []⟩, tx0, tx0, tx0, tx0, tx0, tx0], 4, 3⟩ : MoI).doR 0 ⟨6, 0, 0, 0⟩ = ⟨0, 0, [], 3, 0⟩ ∧ (⟨50, 100, [⟨1, 10, 0, 2, 2, 0, false⟩, ⟨2, 20, 0, 0, 2, 0, false⟩, ⟨1, 5, 2, 0, 0, 0, false⟩], ses [⟨2, L, 1, 3, [1], []⟩, ⟨3, K, 0, 4, [], []⟩, tx0, tx0, tx0, tx0, tx0, tx0], 4, 3⟩ : MoI).doM 0 ⟨6, 0, 0, 0⟩ = (⟨50, 100, [⟨1, 10, 0, 0, 2, 5, false⟩, ⟨2, 20, 0, 0, 2, 0, false⟩, ⟨1, 5, 0, 0, 5, 0, false⟩], ses [tx0, ⟨3, K, 0, 4, [], []⟩, tx0, tx0, tx0, tx0, tx0, tx0], 5, 3⟩ : MoI) :=
  ⟨by rcases level_cases hL with rfl | rfl | rfl <;> rfl, by rcases level_cases hL with rfl | rfl | rfl <;> rfl, by rcases level_cases hL with rfl | rfl | rfl <;> exact MoI.ext rfl rfl rfl (ses_eq rfl rfl rfl rfl rfl rfl rfl rfl (fun _ => rfl)) rfl rfl⟩
theorem chain10_2 (L K : Int) (hL : 1 ≤ L ∧ L ≤ 3) (hK : 1 ≤ K ∧ K ≤ 3) : (⟨50, 100, [⟨1, 10, 0, 0, 2, 5, false⟩, ⟨2, 20, 0, 0, 2, 0, false⟩, ⟨1, 5, 0, 0, 5, 0, false⟩], ses [tx0, ⟨3, K, 0, 4, [], []⟩, tx0, tx0, tx0, tx0, tx0, tx0], 5, 3⟩ : MoI).doE 1 ⟨3, 1, 0, 6⟩ = 0 ∧ (⟨50, 100, [⟨1, 10, 0, 0, 2, 5, false⟩, ⟨2, 20, 0, 0, 2, 0, false⟩, ⟨1, 5, 0, 0, 5, 0, false⟩], ses [tx0, ⟨3, K, 0, 4, [], []⟩, tx0, tx0, tx0, tx0, tx0, tx0], 5, 3⟩ : MoI).doR 1 ⟨3, 1, 0, 6⟩ = ⟨14, 0, [], 4, 2⟩ ∧ (⟨50, 100, [⟨1, 10, 0, 0, 2, 5, false⟩, ⟨2, 20, 0, 0, 2, 0, false⟩, ⟨1, 5, 0, 0, 5, 0, false⟩], ses [tx0, ⟨3, K, 0, 4, [], []⟩, tx0, tx0, tx0, tx0, tx0, tx0], 5, 3⟩ : MoI).doM 1 ⟨3, 1, 0, 6⟩ = (⟨50, 100, [⟨1, 10, 0, 0, 2, 5, false⟩, ⟨2, 20, 0, 0, 2, 0, false⟩, ⟨1, 5, 0, 0, 5, 0, false⟩], ses [tx0, tx0, tx0, tx0, tx0, tx0, tx0, tx0], 5, 3⟩ : MoI) :=
  ⟨by rfl, by rfl, by exact MoI.ext rfl rfl rfl (ses_eq rfl rfl rfl rfl rfl rfl rfl rfl (fun _ => rfl)) rfl rfl⟩
theorem chain10_3 (L K : Int) (hL : 1 ≤ L ∧ L ≤ 3) (hK : 1 ≤ K ∧ K ≤ 3) : (⟨50, 100, [⟨1, 10, 0, 0, 2, 5, false⟩, ⟨2, 20, 0, 0, 2, 0, false⟩, ⟨1, 5, 0, 0, 5, 0, false⟩], ses [tx0, tx0, tx0, tx0, tx0, tx0, tx0, tx0], 5, 3⟩ : MoI).live = [] :=
  by rfl
theorem chain10 (L K : Int) (hL : 1 ≤ L ∧ L ≤ 3) (hK : 1 ≤ K ∧ K ≤ 3) : ∃ y0 y1 y2 y3 : MoI, pairM L K = y0 ∧ y0.doE 0 ⟨3, 1, 0, 5⟩ = 0 ∧ y0.doR 0 ⟨3, 1, 0, 5⟩ = ⟨0, 0, [], 0, 0⟩ ∧ y0.doM 0 ⟨3, 1, 0, 5⟩ = y1 ∧ y1.doE 0 ⟨6, 0, 0, 0⟩ = 0 ∧ y1.doR 0 ⟨6, 0, 0, 0⟩ = ⟨0, 0, [], 3, 0⟩ ∧ y1.doM 0 ⟨6, 0, 0, 0⟩ = y2 ∧ y2.doE 1 ⟨3, 1, 0, 6⟩ = 0 ∧ y2.doR 1 ⟨3, 1, 0, 6⟩ = ⟨14, 0, [], 4, 2⟩ ∧ y2.doM 1 ⟨3, 1, 0, 6⟩ = y3 ∧ y3.live = [] :=
  ⟨⟨50, 100, [⟨1, 10, 0, 0, 2, 0, false⟩, ⟨2, 20, 0, 0, 2, 0, false⟩], ses [⟨2, L, 0, 3, [], []⟩, ⟨3, K, 0, 4, [], []⟩, tx0, tx0, tx0, tx0, tx0, tx0], 4, 3⟩,
    ⟨50, 100, [⟨1, 10, 0, 2, 2, 0, false⟩, ⟨2, 20, 0, 0, 2, 0, false⟩, ⟨1, 5, 2, 0, 0, 0, false⟩], ses [⟨2, L, 1, 3, [1], []⟩, ⟨3, K, 0, 4, [], []⟩, tx0, tx0, tx0, tx0, tx0, tx0], 4, 3⟩,
    ⟨50, 100, [⟨1, 10, 0, 0, 2, 5, false⟩, ⟨2, 20, 0, 0, 2, 0, false⟩, ⟨1, 5, 0, 0, 5, 0, false⟩], ses [tx0, ⟨3, K, 0, 4, [], []⟩, tx0, tx0, tx0, tx0, tx0, tx0], 5, 3⟩,
    ⟨50, 100, [⟨1, 10, 0, 0, 2, 5, false⟩, ⟨2, 20, 0, 0, 2, 0, false⟩, ⟨1, 5, 0, 0, 5, 0, false⟩], ses [tx0, tx0, tx0, tx0, tx0, tx0, tx0, tx0], 5, 3⟩, pair_lit hL hK, (chain10_0 L K hL hK).1, (chain10_0 L K hL hK).2.1, (chain10_0 L K hL hK).2.2, (chain10_1 L K hL hK).1, (chain10_1 L K hL hK).2.1, (chain10_1 L K hL hK).2.2, (chain10_2 L K hL hK).1, (chain10_2 L K hL hK).2.1, (chain10_2 L K hL hK).2.2, (chain10_3 L K hL hK)⟩
set_option maxRecDepth 100000 in
set_option maxHeartbeats 16000000 in
theorem way_1_0 (a0 a1 a2 a3 : Int) (w : World) (hm2 : a2 % 256 % 3 = 1) (hm3 : a3 % 256 % 4 = 0) (m0 : Int) (hm0 : a0 % 256 % 3 = m0) (m1 : Int) (hm1 : a1 % 256 % 3 = m1) :
    Calls Try.prog 5 #[.int .i64 a0, .int .i64 a1, .int .i64 a2, .int .i64 a3] w fun e w' => e = .returned (.bool true) ∧ Below w.heap.size w w' := by
  obtain ⟨q2, h2, e2, f2, l2, l2', p2, p2', w20, w21⟩ := levN a2 3 1 (by decide) (by decide) hm2
  obtain ⟨q3, h3, e3, f3, l3, l3', p3, p3', w30, w31⟩ := levN a3 4 0 (by decide) (by decide) hm3
  obtain ⟨q0, h0, e0, f0, l0, l0', p0, p0', w00, w01⟩ := levN a0 3 m0 (by decide) (by decide) hm0
  obtain ⟨q1, h1, e1, f1, l1, l1', p1, p1', w10, w11⟩ := levN a1 3 m1 (by decide) (by decide) hm1
  have hL : 1 ≤ m0 + 1 ∧ m0 + 1 ≤ 3 := by omega
  have hK : 1 ≤ m1 + 1 ∧ m1 + 1 ≤ 3 := by omega
  have PA := pair_any (m0 + 1) (m1 + 1) hL hK w
  clear w20 w21 w30 w31
  obtain ⟨y0, y1, y2, y3, f0, f0_0, f0_1, f0_2, f1_0, f1_1, f1_2, f2_0, f2_1, f2_2, f3_0⟩ := chain10 (m0 + 1) (m1 + 1) hL hK
  have F0_0 := Lib.hid f0_0; have F0_1 := Lib.hid f0_1; have F0_2 := Lib.hid f0_2; have F1_0 := Lib.hid f1_0; have F1_1 := Lib.hid f1_1; have F1_2 := Lib.hid f1_2; have F2_0 := Lib.hid f2_0; have F2_1 := Lib.hid f2_1; have F2_2 := Lib.hid f2_2; have F3_0 := Lib.hid f3_0
  have F0 := Lib.hid f0
  clear f0 f0_0 f0_1 f0_2 f1_0 f1_1 f1_2 f2_0 f2_1 f2_2 f3_0
  go_enter Try.func5, Try.ntmps5
  go_wp2_with fail
  refine PA.mono ?_
  rintro e w1 ⟨m, S1, rfl, M1⟩
  rw [F0.out] at M1
  clear PA
  go_wp2_with fail; refine (md_res (M1.quiet (by repeat (first | exact Keep.refl _ _ | refine Keep.alloc ?_ _))) 0 3 1 0 5 (i64_n (by omega)) (i64_n (by omega)) (i64_n (by omega)) (i64_n (by omega)) (i64_n (by omega)) 0 0 0 [] 0 0 y1 F0_0.out F0_1.out F0_2.out).mono ?_; rintro e w2 ⟨A2, q2, c2, S2, rfl, o2, n2, M2, k2⟩; have bo := md_op M1.lt k2; clear o2 n2 k2 M1
  go_wp2_with fail; refine (md_res (M2.quiet (by repeat (first | exact Keep.refl _ _ | refine Keep.alloc ?_ _))) 0 6 0 0 0 (i64_n (by omega)) (i64_n (by omega)) (i64_n (by omega)) (i64_n (by omega)) (i64_n (by omega)) 0 0 0 [] 3 0 y2 F1_0.out F1_1.out F1_2.out).mono ?_; rintro e w3 ⟨A3, q3, c3, S3, rfl, o3, n3, M3, k3⟩; have bp := bo.next k3; clear bo; have bo := bp; clear bp; clear o3 n3 k3 M2
  obtain ⟨pa, pb, pc, pd, pz, ps⟩ := bo
  go_wp2_with fail; refine (md_res (M3.quiet (by repeat (first | exact Keep.refl _ _ | refine Keep.alloc ?_ _))) 1 3 1 0 6 (i64_n (by omega)) (i64_n (by omega)) (i64_n (by omega)) (i64_n (by omega)) (i64_n (by omega)) 0 14 0 [] 4 2 y3 F2_0.out F2_1.out F2_2.out).mono ?_; rintro e w4 ⟨A4, q4, c4, S4, rfl, o4, n4, M4, k4⟩; clear o4 n4 k4 M3
  go_wp2_with fail; refine (md_live (M4.quiet (by repeat (first | exact Keep.refl _ _ | refine Keep.alloc ?_ _))) [] F3_0.out).mono ?_; rintro e w5 ⟨u5, S5, rfl, o5, n5, M5, k5⟩; obtain ⟨A5, c5, rfl, _, _⟩ := OwnN.shapeN o5; clear M4
  go_wp2_with fail
  refine (awake19_any _).mono ?_
  rintro e wz ⟨rfl, bz⟩
  go_wp2
  go_ret
  exact ⟨rfl, M5.fin bz⟩
theorem chain20_0 (L K : Int) (hL : 1 ≤ L ∧ L ≤ 3) (hK : 1 ≤ K ∧ K ≤ 3) : (⟨50, 100, [⟨1, 10, 0, 0, 2, 0, false⟩, ⟨2, 20, 0, 0, 2, 0, false⟩], ses [⟨2, L, 0, 3, [], []⟩, ⟨3, K, 0, 4, [], []⟩, tx0, tx0, tx0, tx0, tx0, tx0], 4, 3⟩ : MoI).doE 0 ⟨3, 1, 0, 5⟩ = 0 ∧ (⟨50, 100, [⟨1, 10, 0, 0, 2, 0, false⟩, ⟨2, 20, 0, 0, 2, 0, false⟩], ses [⟨2, L, 0, 3, [], []⟩, ⟨3, K, 0, 4, [], []⟩, tx0, tx0, tx0, tx0, tx0, tx0], 4, 3⟩ : MoI).doR 0 ⟨3, 1, 0, 5⟩ = ⟨0, 0, [], 0, 0⟩ ∧ (⟨50, 100, [⟨1, 10, 0, 0, 2, 0, false⟩, ⟨2, 20, 0, 0, 2, 0, false⟩], ses [⟨2, L, 0, 3, [], []⟩, ⟨3, K, 0, 4, [], []⟩, tx0, tx0, tx0, tx0, tx0, tx0], 4, 3⟩ : MoI).doM 0 ⟨3, 1, 0, 5⟩ = (⟨50, 100, [⟨1, 10, 0, 2, 2, 0, false⟩, ⟨2, 20, 0, 0, 2, 0, false⟩, ⟨1, 5, 2, 0, 0, 0, false⟩], ses [⟨2, L, 1, 3, [1], []⟩, ⟨3, K, 0, 4, [], []⟩, tx0, tx0, tx0, tx0, tx0, tx0], 4, 3⟩ : MoI) :=
  ⟨by rfl, by rfl, by exact MoI.ext rfl rfl rfl (ses_eq rfl rfl rfl rfl rfl rfl rfl rfl (fun _ => rfl)) rfl rfl⟩
theorem chain20_1 (L K : Int) (hL : 1 ≤ L ∧ L ≤ 3) (hK : 1 ≤ K ∧ K ≤ 3) : (⟨50, 100, [⟨1, 10, 0, 2, 2, 0, false⟩, ⟨2, 20, 0, 0, 2, 0, false⟩, ⟨1, 5, 2, 0, 0, 0, false⟩], ses [⟨2, L, 1, 3, [1], []⟩, ⟨3, K, 0, 4, [], []⟩, tx0, tx0, tx0, tx0, tx0, tx0], 4, 3⟩ : MoI).doE 0 ⟨7, 0, 0, 0⟩ = 0 ∧ (⟨50, 100, [⟨1, 10, 0, 2, 2, 0, false⟩, ⟨2, 20, 0, 0, 2, 0, false⟩, ⟨1, 5, 2, 0, 0, 0, false⟩], ses [⟨2, L, 1, 3, [1], []⟩, ⟨3, K, 0, 4, [], []⟩, tx0, tx0, tx0, tx0, tx0, tx0], 4, 3⟩ : MoI).doR 0 ⟨7, 0, 0, 0⟩ = ⟨0, 0, [], 4, 1⟩ ∧ (⟨50, 100, [⟨1, 10, 0, 2, 2, 0, false⟩, ⟨2, 20, 0, 0, 2, 0, false⟩, ⟨1, 5, 2, 0, 0, 0, false⟩], ses [⟨2, L, 1, 3, [1], []⟩, ⟨3, K, 0, 4, [], []⟩, tx0, tx0, tx0, tx0, tx0, tx0], 4, 3⟩ : MoI).doM 0 ⟨7, 0, 0, 0⟩ = (⟨50, 100, [⟨1, 10, 0, 0, 2, 0, false⟩, ⟨2, 20, 0, 0, 2, 0, false⟩, ⟨1, 5, 2, 0, 0, 0, true⟩], ses [tx0, ⟨3, K, 0, 4, [], []⟩, tx0, tx0, tx0, tx0, tx0, tx0], 4, 3⟩ : MoI) :=
  ⟨by rfl, by rfl, by exact MoI.ext rfl rfl rfl (ses_eq rfl rfl rfl rfl rfl rfl rfl rfl (fun _ => rfl)) rfl rfl⟩
theorem chain20_2 (L K : Int) (hL : 1 ≤ L ∧ L ≤ 3) (hK : 1 ≤ K ∧ K ≤ 3) : (⟨50, 100, [⟨1, 10, 0, 0, 2, 0, false⟩, ⟨2, 20, 0, 0, 2, 0, false⟩, ⟨1, 5, 2, 0, 0, 0, true⟩], ses [tx0, ⟨3, K, 0, 4, [], []⟩, tx0, tx0, tx0, tx0, tx0, tx0], 4, 3⟩ : MoI).doE 1 ⟨3, 1, 0, 6⟩ = 0 ∧ (⟨50, 100, [⟨1, 10, 0, 0, 2, 0, false⟩, ⟨2, 20, 0, 0, 2, 0, false⟩, ⟨1, 5, 2, 0, 0, 0, true⟩], ses [tx0, ⟨3, K, 0, 4, [], []⟩, tx0, tx0, tx0, tx0, tx0, tx0], 4, 3⟩ : MoI).doR 1 ⟨3, 1, 0, 6⟩ = ⟨0, 0, [], 0, 0⟩ ∧ (⟨50, 100, [⟨1, 10, 0, 0, 2, 0, false⟩, ⟨2, 20, 0, 0, 2, 0, false⟩, ⟨1, 5, 2, 0, 0, 0, true⟩], ses [tx0, ⟨3, K, 0, 4, [], []⟩, tx0, tx0, tx0, tx0, tx0, tx0], 4, 3⟩ : MoI).doM 1 ⟨3, 1, 0, 6⟩ = (⟨50, 100, [⟨1, 10, 0, 3, 2, 0, false⟩, ⟨2, 20, 0, 0, 2, 0, false⟩, ⟨1, 5, 2, 0, 0, 0, true⟩, ⟨1, 6, 3, 0, 0, 0, false⟩], ses [tx0, ⟨3, K, 1, 4, [1], []⟩, tx0, tx0, tx0, tx0, tx0, tx0], 4, 3⟩ : MoI) :=
  ⟨by rfl, by rfl, by exact MoI.ext rfl rfl rfl (ses_eq rfl rfl rfl rfl rfl rfl rfl rfl (fun _ => rfl)) rfl rfl⟩
theorem chain20_3 (L K : Int) (hL : 1 ≤ L ∧ L ≤ 3) (hK : 1 ≤ K ∧ K ≤ 3) : (⟨50, 100, [⟨1, 10, 0, 3, 2, 0, false⟩, ⟨2, 20, 0, 0, 2, 0, false⟩, ⟨1, 5, 2, 0, 0, 0, true⟩, ⟨1, 6, 3, 0, 0, 0, false⟩], ses [tx0, ⟨3, K, 1, 4, [1], []⟩, tx0, tx0, tx0, tx0, tx0, tx0], 4, 3⟩ : MoI).doE 1 ⟨6, 0, 0, 0⟩ = 0 ∧ (⟨50, 100, [⟨1, 10, 0, 3, 2, 0, false⟩, ⟨2, 20, 0, 0, 2, 0, false⟩, ⟨1, 5, 2, 0, 0, 0, true⟩, ⟨1, 6, 3, 0, 0, 0, false⟩], ses [tx0, ⟨3, K, 1, 4, [1], []⟩, tx0, tx0, tx0, tx0, tx0, tx0], 4, 3⟩ : MoI).doR 1 ⟨6, 0, 0, 0⟩ = ⟨0, 0, [], 3, 0⟩ ∧ (⟨50, 100, [⟨1, 10, 0, 3, 2, 0, false⟩, ⟨2, 20, 0, 0, 2, 0, false⟩, ⟨1, 5, 2, 0, 0, 0, true⟩, ⟨1, 6, 3, 0, 0, 0, false⟩], ses [tx0, ⟨3, K, 1, 4, [1], []⟩, tx0, tx0, tx0, tx0, tx0, tx0], 4, 3⟩ : MoI).doM 1 ⟨6, 0, 0, 0⟩ = (⟨50, 100, [⟨1, 10, 0, 0, 2, 5, false⟩, ⟨2, 20, 0, 0, 2, 0, false⟩, ⟨1, 5, 2, 0, 0, 0, true⟩, ⟨1, 6, 0, 0, 5, 0, false⟩], ses [tx0, tx0, tx0, tx0, tx0, tx0, tx0, tx0], 5, 3⟩ : MoI) :=
  ⟨by rcases level_cases hK with rfl | rfl | rfl <;> rfl, by rcases level_cases hK with rfl | rfl | rfl <;> rfl, by rcases level_cases hK with rfl | rfl | rfl <;> exact MoI.ext rfl rfl rfl (ses_eq rfl rfl rfl rfl rfl rfl rfl rfl (fun _ => rfl)) rfl rfl⟩
theorem chain20 (L K : Int) (hL : 1 ≤ L ∧ L ≤ 3) (hK : 1 ≤ K ∧ K ≤ 3) : ∃ y0 y1 y2 y3 y4 : MoI, pairM L K = y0 ∧ y0.doE 0 ⟨3, 1, 0, 5⟩ = 0 ∧ y0.doR 0 ⟨3, 1, 0, 5⟩ = ⟨0, 0, [], 0, 0⟩ ∧ y0.doM 0 ⟨3, 1, 0, 5⟩ = y1 ∧ y1.doE 0 ⟨7, 0, 0, 0⟩ = 0 ∧ y1.doR 0 ⟨7, 0, 0, 0⟩ = ⟨0, 0, [], 4, 1⟩ ∧ y1.doM 0 ⟨7, 0, 0, 0⟩ = y2 ∧ y2.doE 1 ⟨3, 1, 0, 6⟩ = 0 ∧ y2.doR 1 ⟨3, 1, 0, 6⟩ = ⟨0, 0, [], 0, 0⟩ ∧ y2.doM 1 ⟨3, 1, 0, 6⟩ = y3 ∧ y3.doE 1 ⟨6, 0, 0, 0⟩ = 0 ∧ y3.doR 1 ⟨6, 0, 0, 0⟩ = ⟨0, 0, [], 3, 0⟩ ∧ y3.doM 1 ⟨6, 0, 0, 0⟩ = y4 :=
  ⟨⟨50, 100, [⟨1, 10, 0, 0, 2, 0, false⟩, ⟨2, 20, 0, 0, 2, 0, false⟩], ses [⟨2, L, 0, 3, [], []⟩, ⟨3, K, 0, 4, [], []⟩, tx0, tx0, tx0, tx0, tx0, tx0], 4, 3⟩,
    ⟨50, 100, [⟨1, 10, 0, 2, 2, 0, false⟩, ⟨2, 20, 0, 0, 2, 0, false⟩, ⟨1, 5, 2, 0, 0, 0, false⟩], ses [⟨2, L, 1, 3, [1], []⟩, ⟨3, K, 0, 4, [], []⟩, tx0, tx0, tx0, tx0, tx0, tx0], 4, 3⟩,
    ⟨50, 100, [⟨1, 10, 0, 0, 2, 0, false⟩, ⟨2, 20, 0, 0, 2, 0, false⟩, ⟨1, 5, 2, 0, 0, 0, true⟩], ses [tx0, ⟨3, K, 0, 4, [], []⟩, tx0, tx0, tx0, tx0, tx0, tx0], 4, 3⟩,
    ⟨50, 100, [⟨1, 10, 0, 3, 2, 0, false⟩, ⟨2, 20, 0, 0, 2, 0, false⟩, ⟨1, 5, 2, 0, 0, 0, true⟩, ⟨1, 6, 3, 0, 0, 0, false⟩], ses [tx0, ⟨3, K, 1, 4, [1], []⟩, tx0, tx0, tx0, tx0, tx0, tx0], 4, 3⟩,
    ⟨50, 100, [⟨1, 10, 0, 0, 2, 5, false⟩, ⟨2, 20, 0, 0, 2, 0, false⟩, ⟨1, 5, 2, 0, 0, 0, true⟩, ⟨1, 6, 0, 0, 5, 0, false⟩], ses [tx0, tx0, tx0, tx0, tx0, tx0, tx0, tx0], 5, 3⟩, pair_lit hL hK, (chain20_0 L K hL hK).1, (chain20_0 L K hL hK).2.1, (chain20_0 L K hL hK).2.2, (chain20_1 L K hL hK).1, (chain20_1 L K hL hK).2.1, (chain20_1 L K hL hK).2.2, (chain20_2 L K hL hK).1, (chain20_2 L K hL hK).2.1, (chain20_2 L K hL hK).2.2, (chain20_3 L K hL hK).1, (chain20_3 L K hL hK).2.1, (chain20_3 L K hL hK).2.2⟩
set_option maxRecDepth 100000 in
set_option maxHeartbeats 16000000 in
theorem way_2_0 (a0 a1 a2 a3 : Int) (w : World) (hm2 : a2 % 256 % 3 = 2) (hm3 : a3 % 256 % 4 = 0) (m0 : Int) (hm0 : a0 % 256 % 3 = m0) (m1 : Int) (hm1 : a1 % 256 % 3 = m1) :
    Calls Try.prog 5 #[.int .i64 a0, .int .i64 a1, .int .i64 a2, .int .i64 a3] w fun e w' => e = .returned (.bool true) ∧ Below w.heap.size w w' := by
  obtain ⟨q2, h2, e2, f2, l2, l2', p2, p2', w20, w21⟩ := levN a2 3 2 (by decide) (by decide) hm2
  obtain ⟨q3, h3, e3, f3, l3, l3', p3, p3', w30, w31⟩ := levN a3 4 0 (by decide) (by decide) hm3
  obtain ⟨q0, h0, e0, f0, l0, l0', p0, p0', w00, w01⟩ := levN a0 3 m0 (by decide) (by decide) hm0
  obtain ⟨q1, h1, e1, f1, l1, l1', p1, p1', w10, w11⟩ := levN a1 3 m1 (by decide) (by decide) hm1
  have hL : 1 ≤ m0 + 1 ∧ m0 + 1 ≤ 3 := by omega
  have hK : 1 ≤ m1 + 1 ∧ m1 + 1 ≤ 3 := by omega
  have PA := pair_any (m0 + 1) (m1 + 1) hL hK w
  clear w20 w21 w30 w31
  obtain ⟨y0, y1, y2, y3, y4, f0, f0_0, f0_1, f0_2, f1_0, f1_1, f1_2, f2_0, f2_1, f2_2, f3_0, f3_1, f3_2⟩ := chain20 (m0 + 1) (m1 + 1) hL hK
  have F0_0 := Lib.hid f0_0; have F0_1 := Lib.hid f0_1; have F0_2 := Lib.hid f0_2; have F1_0 := Lib.hid f1_0; have F1_1 := Lib.hid f1_1; have F1_2 := Lib.hid f1_2; have F2_0 := Lib.hid f2_0; have F2_1 := Lib.hid f2_1; have F2_2 := Lib.hid f2_2; have F3_0 := Lib.hid f3_0; have F3_1 := Lib.hid f3_1; have F3_2 := Lib.hid f3_2
  have F0 := Lib.hid f0
  clear f0 f0_0 f0_1 f0_2 f1_0 f1_1 f1_2 f2_0 f2_1 f2_2 f3_0 f3_1 f3_2
  go_enter Try.func5, Try.ntmps5
  go_wp2_with fail
  refine PA.mono ?_
  rintro e w1 ⟨m, S1, rfl, M1⟩
  rw [F0.out] at M1
  clear PA
  go_wp2_with fail; refine (md_res (M1.quiet (by repeat (first | exact Keep.refl _ _ | refine Keep.alloc ?_ _))) 0 3 1 0 5 (i64_n (by omega)) (i64_n (by omega)) (i64_n (by omega)) (i64_n (by omega)) (i64_n (by omega)) 0 0 0 [] 0 0 y1 F0_0.out F0_1.out F0_2.out).mono ?_; rintro e w2 ⟨A2, q2, c2, S2, rfl, o2, n2, M2, k2⟩; have bo := md_op M1.lt k2; clear o2 n2 k2 M1
  go_wp2_with fail; refine (md_res (M2.quiet (by repeat (first | exact Keep.refl _ _ | refine Keep.alloc ?_ _))) 0 7 0 0 0 (i64_n (by omega)) (i64_n (by omega)) (i64_n (by omega)) (i64_n (by omega)) (i64_n (by omega)) 0 0 0 [] 4 1 y2 F1_0.out F1_1.out F1_2.out).mono ?_; rintro e w3 ⟨A3, q3, c3, S3, rfl, o3, n3, M3, k3⟩; have bp := bo.next k3; clear bo; have bo := bp; clear bp; clear o3 n3 k3 M2
  obtain ⟨pa, pb, pc, pd, pz, ps⟩ := bo
  go_wp2_with fail; refine (md_res (M3.quiet (by repeat (first | exact Keep.refl _ _ | refine Keep.alloc ?_ _))) 1 3 1 0 6 (i64_n (by omega)) (i64_n (by omega)) (i64_n (by omega)) (i64_n (by omega)) (i64_n (by omega)) 0 0 0 [] 0 0 y3 F2_0.out F2_1.out F2_2.out).mono ?_; rintro e w4 ⟨A4, q4, c4, S4, rfl, o4, n4, M4, k4⟩; clear o4 n4 k4 M3
  go_wp2_with fail; refine (md_res (M4.quiet (by repeat (first | exact Keep.refl _ _ | refine Keep.alloc ?_ _))) 1 6 0 0 0 (i64_n (by omega)) (i64_n (by omega)) (i64_n (by omega)) (i64_n (by omega)) (i64_n (by omega)) 0 0 0 [] 3 0 y4 F3_0.out F3_1.out F3_2.out).mono ?_; rintro e w5 ⟨A5, q5, c5, S5, rfl, o5, n5, M5, k5⟩; have bx4 := md_box M4.lt k5; clear o5 n5 k5 M4
  obtain ⟨ba4, bb4, bc4, bd4, bz4, bs4⟩ := bx4
  go_wp2_with fail
  refine (awake19_any _).mono ?_
  rintro e wz ⟨rfl, bz⟩
  go_wp2
  go_ret
  exact ⟨rfl, M5.fin bz⟩
theorem walk (a0 a1 a2 a3 : Int) (w : World) (w0 : (Lit.int .i64 a0).wf = true) (w1 : (Lit.int .i64 a1).wf = true) (w2 : (Lit.int .i64 a2).wf = true) (w3 : (Lit.int .i64 a3).wf = true) :
    Calls Try.prog 5 #[.int .i64 a0, .int .i64 a1, .int .i64 a2, .int .i64 a3] w fun e w' => e = .returned (.bool true) ∧ Below w.heap.size w w' := by
  have h2 : a2 % 256 % 3 = 0 ∨ a2 % 256 % 3 = 1 ∨ a2 % 256 % 3 = 2 := by omega
  have h3 : a3 % 256 % 4 = 0 ∨ a3 % 256 % 4 = 1 ∨ a3 % 256 % 4 = 2 ∨ a3 % 256 % 4 = 3 := by omega
  have h0 : a0 % 256 % 3 = 0 ∨ a0 % 256 % 3 = 1 ∨ a0 % 256 % 3 = 2 := by omega
  have h1 : a1 % 256 % 3 = 0 ∨ a1 % 256 % 3 = 1 ∨ a1 % 256 % 3 = 2 := by omega
  rcases h2 with h2 | h2 | h2
  · skip
    rcases h3 with h3 | h3 | h3 | h3
    · skip
      exact way_0_0 a0 a1 a2 a3 w h2 h3 _ rfl _ rfl
    · skip
      exact way_0_1 a0 a1 a2 a3 w h2 h3 _ rfl _ rfl
    · skip
      exact way_0_2 a0 a1 a2 a3 w h2 h3 _ rfl _ rfl
    · skip
      exact way_0_3 a0 a1 a2 a3 w h2 h3 _ rfl _ rfl
  · skip
    rcases h3 with h3 | h3 | h3 | h3
    · skip
      exact way_1_0 a0 a1 a2 a3 w h2 h3 _ rfl _ rfl
    · skip
      exact way_1_1 a0 a1 a2 a3 w h2 h3 _ rfl _ rfl
    · skip
      exact way_1_2 a0 a1 a2 a3 w h2 h3 _ rfl _ rfl
    · skip
      exact way_1_3 a0 a1 a2 a3 w h2 h3 _ rfl _ rfl
  · skip
    rcases h3 with h3 | h3 | h3 | h3
    · skip
      exact way_2_0 a0 a1 a2 a3 w h2 h3 _ rfl _ rfl
    · skip
      exact way_2_1 a0 a1 a2 a3 w h2 h3 _ rfl _ rfl
    · skip
      exact way_2_2 a0 a1 a2 a3 w h2 h3 _ rfl _ rfl
    · skip
      exact way_2_3 a0 a1 a2 a3 w h2 h3 _ rfl _ rfl
theorem own : ownKnob Try.prog.godebug = none := by kernel_rfl
theorem laidOut : laidOutB Try.prog = true := by kernel_rfl
set_option maxRecDepth 100000 in
theorem lifted (os : Os) (started : os.Started) (H : Type) (enc : TypeId × Value → H) :
    ReturnsInHanded {} Try.checked os 5 .any (Rows.modelFirstSpec.pre6 enc Try.prog Try.f5 Rows.modelFirstRow.domain false) (Rows.modelFirstSpec.post enc Try.prog Try.f5 false true false false) := by
  refine returnsInHanded_of_change (C := Try.checked) own started (by kernel_rfl) Try.func5
    (ChangeSpec.witness6 (enc := enc) (C := Try.checked) false ⟨#[], #[.int .i64 0, .int .i64 0, .int .i64 0, .int .i64 0], []⟩ 8 (by kernel_rfl) (by kernel_rfl) (by kernel_rfl) (by kernel_rfl)) ?_
  intro W base args ds gs before hval0 hW hcnd _
  have hval : ∀ (j : Nat) t v, Try.f5.params[j]? = some t → args[j]? = some v → Value.okWide Try.prog W .any base t v := hval0
  have hW' := hW
  obtain ⟨p, q, hA0, hV, rfl, hfz, hnd⟩ := hW
  have hA : DataW.TrodAll enc Try.prog W 0 (fun _ => true) true Try.f5.params.toList args.toList ds p := hA0
  rw [Try.params5] at hA hval
  obtain ⟨v0, vs0, d0, ds0, p0, q0, hargs, rfl, rfl, h0, r0⟩ := trodAll_cons hA
  obtain ⟨v1, vs1, d1, ds1, p1, q1, rfl, rfl, rfl, h1, r1⟩ := trodAll_cons r0
  obtain ⟨v2, vs2, d2, ds2, p2, q2, rfl, rfl, rfl, h2, r2⟩ := trodAll_cons r1
  obtain ⟨v3, vs3, d3, ds3, p3, q3, rfl, rfl, rfl, h3, r3⟩ := trodAll_cons r2
  obtain ⟨rfl, rfl, rfl⟩ := trodAll_nil r3
  obtain rfl : args = #[v0, v1, v2, v3] := by cases args; simp_all
  obtain ⟨rfl, rfl⟩ := trodVars_none hV
  obtain ⟨a0, rfl, rfl, rfl, w0⟩ := open_int Try.underlying3 (hval 0 3 v0 rfl rfl) h0
  obtain ⟨a1, rfl, rfl, rfl, w1⟩ := open_int Try.underlying3 (hval 1 3 v1 rfl rfl) h1
  obtain ⟨a2, rfl, rfl, rfl, w2⟩ := open_int Try.underlying3 (hval 2 3 v2 rfl rfl) h2
  obtain ⟨a3, rfl, rfl, rfl, w3⟩ := open_int Try.underlying3 (hval 3 3 v3 rfl rfl) h3
  clear hA0 hval0
  refine (walk a0 a1 a2 a3 W w0 w1 w2 w3).mono fun e W' ⟨he, bel⟩ => ?_
  subst he
  exact ⟨_, rfl, _, _, _, [], _, [], hW', trodAll_mk1 (shut_bool Try.underlying4 _), (trodAll_cons_mk (shut_int Try.underlying3 w0) (trodAll_cons_mk (shut_int Try.underlying3 w1) (trodAll_cons_mk (shut_int Try.underlying3 w2) (trodAll_cons_mk (shut_int Try.underlying3 w3) trodAll_mk0)))), rfl, bel.frame _, fun h => by cases h⟩
theorem over : Rows.modelFirstRow.holds Try.pinned (OpenSpec.ofChange Rows.modelFirstSpec) :=
  OpenClaim.holds_of_wide 5 Try.f5 rfl rfl rfl rfl rfl rfl rfl ⟨rfl, rfl, rfl, rfl, rfl⟩ rfl rfl rfl rfl rfl (by kernel_rfl) Try.func5 (by kernel_rfl)
    (of_decide_eq_true (by kernel_rfl)) (by unfold Func.isWrapper; first | (rw [if_pos (by decide +kernel)]; kernel_rfl) | (rw [if_neg (by decide +kernel)]; exact ⟨rfl, rfl⟩))
    (fun os started H enc _ => lifted os started H enc)
theorem proved : Rows.ModelFirstSaid := over
end Go.Proofs.Ytkkjofefjepodaa.modelFirst
