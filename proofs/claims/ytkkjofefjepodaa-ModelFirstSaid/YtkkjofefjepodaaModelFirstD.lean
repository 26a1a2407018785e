/- Ways through vinculumlaw19.ModelFirst. Conditions: those of the way. -/
import Derived.Test.YtkkjofefjepodaaMdA
namespace Go.Proofs.Ytkkjofefjepodaa.modelFirst
open Go.ChangeShapes Go.WideShapes Go.ChangeAt Go.RowKit
set_option linter.unusedVariables false
theorem chain03_0 (L K : Int) (hL : 1 ≤ L ∧ L ≤ 3) (hK : 1 ≤ K ∧ K ≤ 3) : (⟨50, 100, [⟨1, 10, 0, 0, 2, 0, false⟩, ⟨2, 20, 0, 0, 2, 0, false⟩], ses [⟨2, L, 0, 3, [], []⟩, ⟨3, K, 0, 4, [], []⟩, tx0, tx0, tx0, tx0, tx0, tx0], 4, 3⟩ : MoI).doE 0 ⟨2, 3, 0, 5⟩ = 0 ∧ (⟨50, 100, [⟨1, 10, 0, 0, 2, 0, false⟩, ⟨2, 20, 0, 0, 2, 0, false⟩], ses [⟨2, L, 0, 3, [], []⟩, ⟨3, K, 0, 4, [], []⟩, tx0, tx0, tx0, tx0, tx0, tx0], 4, 3⟩ : MoI).doR 0 ⟨2, 3, 0, 5⟩ = ⟨0, 0, [], 0, 0⟩ ∧ (⟨50, 100, [⟨1, 10, 0, 0, 2, 0, false⟩, ⟨2, 20, 0, 0, 2, 0, false⟩], ses [⟨2, L, 0, 3, [], []⟩, ⟨3, K, 0, 4, [], []⟩, tx0, tx0, tx0, tx0, tx0, tx0], 4, 3⟩ : MoI).doM 0 ⟨2, 3, 0, 5⟩ = (⟨50, 100, [⟨1, 10, 0, 0, 2, 0, false⟩, ⟨2, 20, 0, 0, 2, 0, false⟩, ⟨3, 5, 2, 0, 0, 0, false⟩], ses [⟨2, L, 1, 3, [3], []⟩, ⟨3, K, 0, 4, [], []⟩, tx0, tx0, tx0, tx0, tx0, tx0], 4, 3⟩ : MoI) :=
  ⟨by rfl, by rfl, by exact MoI.ext rfl rfl rfl (ses_eq rfl rfl rfl rfl rfl rfl rfl rfl (fun _ => rfl)) rfl rfl⟩
theorem chain03_1 (L K : Int) (hL : 1 ≤ L ∧ L ≤ 3) (hK : 1 ≤ K ∧ K ≤ 3) : (⟨50, 100, [⟨1, 10, 0, 0, 2, 0, false⟩, ⟨2, 20, 0, 0, 2, 0, false⟩, ⟨3, 5, 2, 0, 0, 0, false⟩], ses [⟨2, L, 1, 3, [3], []⟩, ⟨3, K, 0, 4, [], []⟩, tx0, tx0, tx0, tx0, tx0, tx0], 4, 3⟩ : MoI).doE 1 ⟨2, 3, 0, 6⟩ = 0 ∧ (⟨50, 100, [⟨1, 10, 0, 0, 2, 0, false⟩, ⟨2, 20, 0, 0, 2, 0, false⟩, ⟨3, 5, 2, 0, 0, 0, false⟩], ses [⟨2, L, 1, 3, [3], []⟩, ⟨3, K, 0, 4, [], []⟩, tx0, tx0, tx0, tx0, tx0, tx0], 4, 3⟩ : MoI).doR 1 ⟨2, 3, 0, 6⟩ = ⟨14, 0, [], 4, 2⟩ ∧ (⟨50, 100, [⟨1, 10, 0, 0, 2, 0, false⟩, ⟨2, 20, 0, 0, 2, 0, false⟩, ⟨3, 5, 2, 0, 0, 0, false⟩], ses [⟨2, L, 1, 3, [3], []⟩, ⟨3, K, 0, 4, [], []⟩, tx0, tx0, tx0, tx0, tx0, tx0], 4, 3⟩ : MoI).doM 1 ⟨2, 3, 0, 6⟩ = (⟨50, 100, [⟨1, 10, 0, 0, 2, 0, false⟩, ⟨2, 20, 0, 0, 2, 0, false⟩, ⟨3, 5, 2, 0, 0, 0, false⟩], ses [⟨2, L, 1, 3, [3], []⟩, tx0, tx0, tx0, tx0, tx0, tx0, tx0], 4, 3⟩ : MoI) :=
  ⟨by rfl, by rfl, by exact MoI.ext rfl rfl rfl (ses_eq rfl rfl rfl rfl rfl rfl rfl rfl (fun _ => rfl)) rfl rfl⟩
theorem chain03_2 (L K : Int) (hL : 1 ≤ L ∧ L ≤ 3) (hK : 1 ≤ K ∧ K ≤ 3) : (⟨50, 100, [⟨1, 10, 0, 0, 2, 0, false⟩, ⟨2, 20, 0, 0, 2, 0, false⟩, ⟨3, 5, 2, 0, 0, 0, false⟩], ses [⟨2, L, 1, 3, [3], []⟩, tx0, tx0, tx0, tx0, tx0, tx0, tx0], 4, 3⟩ : MoI).live = [0] :=
  by rfl
theorem chain03 (L K : Int) (hL : 1 ≤ L ∧ L ≤ 3) (hK : 1 ≤ K ∧ K ≤ 3) : ∃ y0 y1 y2 : MoI, pairM L K = y0 ∧ y0.doE 0 ⟨2, 3, 0, 5⟩ = 0 ∧ y0.doR 0 ⟨2, 3, 0, 5⟩ = ⟨0, 0, [], 0, 0⟩ ∧ y0.doM 0 ⟨2, 3, 0, 5⟩ = y1 ∧ y1.doE 1 ⟨2, 3, 0, 6⟩ = 0 ∧ y1.doR 1 ⟨2, 3, 0, 6⟩ = ⟨14, 0, [], 4, 2⟩ ∧ y1.doM 1 ⟨2, 3, 0, 6⟩ = y2 ∧ y2.live = [0] :=
  ⟨⟨50, 100, [⟨1, 10, 0, 0, 2, 0, false⟩, ⟨2, 20, 0, 0, 2, 0, false⟩], ses [⟨2, L, 0, 3, [], []⟩, ⟨3, K, 0, 4, [], []⟩, tx0, tx0, tx0, tx0, tx0, tx0], 4, 3⟩,
    ⟨50, 100, [⟨1, 10, 0, 0, 2, 0, false⟩, ⟨2, 20, 0, 0, 2, 0, false⟩, ⟨3, 5, 2, 0, 0, 0, false⟩], ses [⟨2, L, 1, 3, [3], []⟩, ⟨3, K, 0, 4, [], []⟩, tx0, tx0, tx0, tx0, tx0, tx0], 4, 3⟩,
    ⟨50, 100, [⟨1, 10, 0, 0, 2, 0, false⟩, ⟨2, 20, 0, 0, 2, 0, false⟩, ⟨3, 5, 2, 0, 0, 0, false⟩], ses [⟨2, L, 1, 3, [3], []⟩, tx0, tx0, tx0, tx0, tx0, tx0, tx0], 4, 3⟩, pair_lit hL hK, (chain03_0 L K hL hK).1, (chain03_0 L K hL hK).2.1, (chain03_0 L K hL hK).2.2, (chain03_1 L K hL hK).1, (chain03_1 L K hL hK).2.1, (chain03_1 L K hL hK).2.2, (chain03_2 L K hL hK)⟩
set_option maxRecDepth 100000 in
set_option maxHeartbeats 16000000 in
theorem way_0_3 (a0 a1 a2 a3 : Int) (w : World) (hm2 : a2 % 256 % 3 = 0) (hm3 : a3 % 256 % 4 = 3) (m0 : Int) (hm0 : a0 % 256 % 3 = m0) (m1 : Int) (hm1 : a1 % 256 % 3 = m1) :
    Calls Try.prog 5 #[.int .i64 a0, .int .i64 a1, .int .i64 a2, .int .i64 a3] w fun e w' => e = .returned (.bool true) ∧ Below w.heap.size w w' := by
  obtain ⟨q2, h2, e2, f2, l2, l2', p2, p2', w20, w21⟩ := levN a2 3 0 (by decide) (by decide) hm2
  obtain ⟨q3, h3, e3, f3, l3, l3', p3, p3', w30, w31⟩ := levN a3 4 3 (by decide) (by decide) hm3
  obtain ⟨q0, h0, e0, f0, l0, l0', p0, p0', w00, w01⟩ := levN a0 3 m0 (by decide) (by decide) hm0
  obtain ⟨q1, h1, e1, f1, l1, l1', p1, p1', w10, w11⟩ := levN a1 3 m1 (by decide) (by decide) hm1
  have hL : 1 ≤ m0 + 1 ∧ m0 + 1 ≤ 3 := by omega
  have hK : 1 ≤ m1 + 1 ∧ m1 + 1 ≤ 3 := by omega
  have PA := pair_any (m0 + 1) (m1 + 1) hL hK w
  clear w20 w21 w30 w31
  obtain ⟨y0, y1, y2, f0, f0_0, f0_1, f0_2, f1_0, f1_1, f1_2, f2_0⟩ := chain03 (m0 + 1) (m1 + 1) hL hK
  have F0_0 := Lib.hid f0_0; have F0_1 := Lib.hid f0_1; have F0_2 := Lib.hid f0_2; have F1_0 := Lib.hid f1_0; have F1_1 := Lib.hid f1_1; have F1_2 := Lib.hid f1_2; have F2_0 := Lib.hid f2_0
  have F0 := Lib.hid f0
  clear f0 f0_0 f0_1 f0_2 f1_0 f1_1 f1_2 f2_0
  go_enter Try.func5, Try.ntmps5
  go_wp2_with fail
  refine PA.mono ?_
  rintro e w1 ⟨m, S1, rfl, M1⟩
  rw [F0.out] at M1
  clear PA
  go_wp2_with fail; refine (md_res (M1.quiet (by repeat (first | exact Keep.refl _ _ | refine Keep.alloc ?_ _))) 0 2 3 0 5 (i64_n (by omega)) (i64_n (by omega)) (i64_n (by omega)) (i64_n (by omega)) (i64_n (by omega)) 0 0 0 [] 0 0 y1 F0_0.out F0_1.out F0_2.out).mono ?_; rintro e w2 ⟨A2, q2, c2, S2, rfl, o2, n2, M2, k2⟩; have bo := md_op M1.lt k2; clear o2 n2 k2 M1
  obtain ⟨pa, pb, pc, pd, pz, ps⟩ := bo
  go_wp2_with fail; refine (md_res (M2.quiet (by repeat (first | exact Keep.refl _ _ | refine Keep.alloc ?_ _))) 1 2 3 0 6 (i64_n (by omega)) (i64_n (by omega)) (i64_n (by omega)) (i64_n (by omega)) (i64_n (by omega)) 0 14 0 [] 4 2 y2 F1_0.out F1_1.out F1_2.out).mono ?_; rintro e w3 ⟨A3, q3, c3, S3, rfl, o3, n3, M3, k3⟩; clear o3 n3 k3 M2
  go_wp2_with fail; refine (md_live (M3.quiet (by repeat (first | exact Keep.refl _ _ | refine Keep.alloc ?_ _))) [0] F2_0.out).mono ?_; rintro e w4 ⟨u4, S4, rfl, o4, n4, M4, k4⟩; obtain ⟨A4, c4, rfl, _, _⟩ := OwnN.shapeN o4; clear M3
  go_wp2_with fail
  refine (awake19_any _).mono ?_
  rintro e wz ⟨rfl, bz⟩
  go_wp2
  go_ret
  exact ⟨rfl, M4.fin bz⟩
theorem chain13_0 (L K : Int) (hL : 1 ≤ L ∧ L ≤ 3) (hK : 1 ≤ K ∧ K ≤ 3) : (⟨50, 100, [⟨1, 10, 0, 0, 2, 0, false⟩, ⟨2, 20, 0, 0, 2, 0, false⟩], ses [⟨2, L, 0, 3, [], []⟩, ⟨3, K, 0, 4, [], []⟩, tx0, tx0, tx0, tx0, tx0, tx0], 4, 3⟩ : MoI).doE 0 ⟨2, 3, 0, 5⟩ = 0 ∧ (⟨50, 100, [⟨1, 10, 0, 0, 2, 0, false⟩, ⟨2, 20, 0, 0, 2, 0, false⟩], ses [⟨2, L, 0, 3, [], []⟩, ⟨3, K, 0, 4, [], []⟩, tx0, tx0, tx0, tx0, tx0, tx0], 4, 3⟩ : MoI).doR 0 ⟨2, 3, 0, 5⟩ = ⟨0, 0, [], 0, 0⟩ ∧ (⟨50, 100, [⟨1, 10, 0, 0, 2, 0, false⟩, ⟨2, 20, 0, 0, 2, 0, false⟩], ses [⟨2, L, 0, 3, [], []⟩, ⟨3, K, 0, 4, [], []⟩, tx0, tx0, tx0, tx0, tx0, tx0], 4, 3⟩ : MoI).doM 0 ⟨2, 3, 0, 5⟩ = (⟨50, 100, [⟨1, 10, 0, 0, 2, 0, false⟩, ⟨2, 20, 0, 0, 2, 0, false⟩, ⟨3, 5, 2, 0, 0, 0, false⟩], ses [⟨2, L, 1, 3, [3], []⟩, ⟨3, K, 0, 4, [], []⟩, tx0, tx0, tx0, tx0, tx0, tx0], 4, 3⟩ : MoI) :=
  ⟨by rfl, by rfl, by exact MoI.ext rfl rfl rfl (ses_eq rfl rfl rfl rfl rfl rfl rfl rfl (fun _ => rfl)) rfl rfl⟩
theorem chain13_1 (L K : Int) (hL : 1 ≤ L ∧ L ≤ 3) (hK : 1 ≤ K ∧ K ≤ 3) : (⟨50, 100, [⟨1, 10, 0, 0, 2, 0, false⟩, ⟨2, 20, 0, 0, 2, 0, false⟩, ⟨3, 5, 2, 0, 0, 0, false⟩], ses [⟨2, L, 1, 3, [3], []⟩, ⟨3, K, 0, 4, [], []⟩, tx0, tx0, tx0, tx0, tx0, tx0], 4, 3⟩ : MoI).doE 0 ⟨6, 0, 0, 0⟩ = 0 ∧ (⟨50, 100, [⟨1, 10, 0, 0, 2, 0, false⟩, ⟨2, 20, 0, 0, 2, 0, false⟩, ⟨3, 5, 2, 0, 0, 0, false⟩], ses [⟨2, L, 1, 3, [3], []⟩, ⟨3, K, 0, 4, [], []⟩, tx0, tx0, tx0, tx0, tx0, tx0], 4, 3⟩ : MoI).doR 0 ⟨6, 0, 0, 0⟩ = ⟨0, 0, [], 3, 0⟩ ∧ (⟨50, 100, [⟨1, 10, 0, 0, 2, 0, false⟩, ⟨2, 20, 0, 0, 2, 0, false⟩, ⟨3, 5, 2, 0, 0, 0, false⟩], ses [⟨2, L, 1, 3, [3], []⟩, ⟨3, K, 0, 4, [], []⟩, tx0, tx0, tx0, tx0, tx0, tx0], 4, 3⟩ : MoI).doM 0 ⟨6, 0, 0, 0⟩ = (⟨50, 100, [⟨1, 10, 0, 0, 2, 0, false⟩, ⟨2, 20, 0, 0, 2, 0, false⟩, ⟨3, 5, 0, 0, 5, 0, false⟩], ses [tx0, ⟨3, K, 0, 4, [], []⟩, tx0, tx0, tx0, tx0, tx0, tx0], 5, 3⟩ : MoI) :=
  ⟨by rcases level_cases hL with rfl | rfl | rfl <;> rfl, by rcases level_cases hL with rfl | rfl | rfl <;> rfl, by rcases level_cases hL with rfl | rfl | rfl <;> exact MoI.ext rfl rfl rfl (ses_eq rfl rfl rfl rfl rfl rfl rfl rfl (fun _ => rfl)) rfl rfl⟩
theorem chain13_2 (L K : Int) (hL : 1 ≤ L ∧ L ≤ 3) (hK : 1 ≤ K ∧ K ≤ 3) : (⟨50, 100, [⟨1, 10, 0, 0, 2, 0, false⟩, ⟨2, 20, 0, 0, 2, 0, false⟩, ⟨3, 5, 0, 0, 5, 0, false⟩], ses [tx0, ⟨3, K, 0, 4, [], []⟩, tx0, tx0, tx0, tx0, tx0, tx0], 5, 3⟩ : MoI).doE 1 ⟨2, 3, 0, 6⟩ = 0 ∧ (⟨50, 100, [⟨1, 10, 0, 0, 2, 0, false⟩, ⟨2, 20, 0, 0, 2, 0, false⟩, ⟨3, 5, 0, 0, 5, 0, false⟩], ses [tx0, ⟨3, K, 0, 4, [], []⟩, tx0, tx0, tx0, tx0, tx0, tx0], 5, 3⟩ : MoI).doR 1 ⟨2, 3, 0, 6⟩ = ⟨14, 0, [], 4, 2⟩ ∧ (⟨50, 100, [⟨1, 10, 0, 0, 2, 0, false⟩, ⟨2, 20, 0, 0, 2, 0, false⟩, ⟨3, 5, 0, 0, 5, 0, false⟩], ses [tx0, ⟨3, K, 0, 4, [], []⟩, tx0, tx0, tx0, tx0, tx0, tx0], 5, 3⟩ : MoI).doM 1 ⟨2, 3, 0, 6⟩ = (⟨50, 100, [⟨1, 10, 0, 0, 2, 0, false⟩, ⟨2, 20, 0, 0, 2, 0, false⟩, ⟨3, 5, 0, 0, 5, 0, false⟩], ses [tx0, tx0, tx0, tx0, tx0, tx0, tx0, tx0], 5, 3⟩ : MoI) :=
  ⟨by rfl, by rfl, by exact MoI.ext rfl rfl rfl (ses_eq rfl rfl rfl rfl rfl rfl rfl rfl (fun _ => rfl)) rfl rfl⟩
theorem chain13_3 (L K : Int) (hL : 1 ≤ L ∧ L ≤ 3) (hK : 1 ≤ K ∧ K ≤ 3) : (⟨50, 100, [⟨1, 10, 0, 0, 2, 0, false⟩, ⟨2, 20, 0, 0, 2, 0, false⟩, ⟨3, 5, 0, 0, 5, 0, false⟩], ses [tx0, tx0, tx0, tx0, tx0, tx0, tx0, tx0], 5, 3⟩ : MoI).live = [] :=
  by rfl
theorem chain13 (L K : Int) (hL : 1 ≤ L ∧ L ≤ 3) (hK : 1 ≤ K ∧ K ≤ 3) : ∃ y0 y1 y2 y3 : MoI, pairM L K = y0 ∧ y0.doE 0 ⟨2, 3, 0, 5⟩ = 0 ∧ y0.doR 0 ⟨2, 3, 0, 5⟩ = ⟨0, 0, [], 0, 0⟩ ∧ y0.doM 0 ⟨2, 3, 0, 5⟩ = y1 ∧ y1.doE 0 ⟨6, 0, 0, 0⟩ = 0 ∧ y1.doR 0 ⟨6, 0, 0, 0⟩ = ⟨0, 0, [], 3, 0⟩ ∧ y1.doM 0 ⟨6, 0, 0, 0⟩ = y2 ∧ y2.doE 1 ⟨2, 3, 0, 6⟩ = 0 ∧ y2.doR 1 ⟨2, 3, 0, 6⟩ = ⟨14, 0, [], 4, 2⟩ ∧ y2.doM 1 ⟨2, 3, 0, 6⟩ = y3 ∧ y3.live = [] :=
  ⟨⟨50, 100, [⟨1, 10, 0, 0, 2, 0, false⟩, ⟨2, 20, 0, 0, 2, 0, false⟩], ses [⟨2, L, 0, 3, [], []⟩, ⟨3, K, 0, 4, [], []⟩, tx0, tx0, tx0, tx0, tx0, tx0], 4, 3⟩,
    ⟨50, 100, [⟨1, 10, 0, 0, 2, 0, false⟩, ⟨2, 20, 0, 0, 2, 0, false⟩, ⟨3, 5, 2, 0, 0, 0, false⟩], ses [⟨2, L, 1, 3, [3], []⟩, ⟨3, K, 0, 4, [], []⟩, tx0, tx0, tx0, tx0, tx0, tx0], 4, 3⟩,
    ⟨50, 100, [⟨1, 10, 0, 0, 2, 0, false⟩, ⟨2, 20, 0, 0, 2, 0, false⟩, ⟨3, 5, 0, 0, 5, 0, false⟩], ses [tx0, ⟨3, K, 0, 4, [], []⟩, tx0, tx0, tx0, tx0, tx0, tx0], 5, 3⟩,
    ⟨50, 100, [⟨1, 10, 0, 0, 2, 0, false⟩, ⟨2, 20, 0, 0, 2, 0, false⟩, ⟨3, 5, 0, 0, 5, 0, false⟩], ses [tx0, tx0, tx0, tx0, tx0, tx0, tx0, tx0], 5, 3⟩, pair_lit hL hK, (chain13_0 L K hL hK).1, (chain13_0 L K hL hK).2.1, (chain13_0 L K hL hK).2.2, (chain13_1 L K hL hK).1, (chain13_1 L K hL hK).2.1, (chain13_1 L K hL hK).2.2, (chain13_2 L K hL hK).1, (chain13_2 L K hL hK).2.1, (chain13_2 L K hL hK).2.2, (chain13_3 L K hL hK)⟩
set_option maxRecDepth 100000 in
set_option maxHeartbeats 16000000 in
theorem way_1_3 (a0 a1 a2 a3 : Int) (w : World) (hm2 : a2 % 256 % 3 = 1) (hm3 : a3 % 256 % 4 = 3) (m0 : Int) (hm0 : a0 % 256 % 3 = m0) (m1 : Int) (hm1 : a1 % 256 % 3 = m1) :
    Calls Try.prog 5 #[.int .i64 a0, .int .i64 a1, .int .i64 a2, .int .i64 a3] w fun e w' => e = .returned (.bool true) ∧ Below w.heap.size w w' := by
  obtain ⟨q2, h2, e2, f2, l2, l2', p2, p2', w20, w21⟩ := levN a2 3 1 (by decide) (by decide) hm2
  obtain ⟨q3, h3, e3, f3, l3, l3', p3, p3', w30, w31⟩ := levN a3 4 3 (by decide) (by decide) hm3
  obtain ⟨q0, h0, e0, f0, l0, l0', p0, p0', w00, w01⟩ := levN a0 3 m0 (by decide) (by decide) hm0
  obtain ⟨q1, h1, e1, f1, l1, l1', p1, p1', w10, w11⟩ := levN a1 3 m1 (by decide) (by decide) hm1
  have hL : 1 ≤ m0 + 1 ∧ m0 + 1 ≤ 3 := by omega
  have hK : 1 ≤ m1 + 1 ∧ m1 + 1 ≤ 3 := by omega
  have PA := pair_any (m0 + 1) (m1 + 1) hL hK w
  clear w20 w21 w30 w31
  obtain ⟨y0, y1, y2, y3, f0, f0_0, f0_1, f0_2, f1_0, f1_1, f1_2, f2_0, f2_1, f2_2, f3_0⟩ := chain13 (m0 + 1) (m1 + 1) hL hK
  have F0_0 := Lib.hid f0_0; have F0_1 := Lib.hid f0_1; have F0_2 := Lib.hid f0_2; have F1_0 := Lib.hid f1_0; have F1_1 := Lib.hid f1_1; have F1_2 := Lib.hid f1_2; have F2_0 := Lib.hid f2_0; have F2_1 := Lib.hid f2_1; have F2_2 := Lib.hid f2_2; have F3_0 := Lib.hid f3_0
  have F0 := Lib.hid f0
  clear f0 f0_0 f0_1 f0_2 f1_0 f1_1 f1_2 f2_0 f2_1 f2_2 f3_0
  go_enter Try.func5, Try.ntmps5
  go_wp2_with fail
  refine PA.mono ?_
  rintro e w1 ⟨m, S1, rfl, M1⟩
  rw [F0.out] at M1
  clear PA
  go_wp2_with fail; refine (md_res (M1.quiet (by repeat (first | exact Keep.refl _ _ | refine Keep.alloc ?_ _))) 0 2 3 0 5 (i64_n (by omega)) (i64_n (by omega)) (i64_n (by omega)) (i64_n (by omega)) (i64_n (by omega)) 0 0 0 [] 0 0 y1 F0_0.out F0_1.out F0_2.out).mono ?_; rintro e w2 ⟨A2, q2, c2, S2, rfl, o2, n2, M2, k2⟩; have bo := md_op M1.lt k2; clear o2 n2 k2 M1
  go_wp2_with fail; refine (md_res (M2.quiet (by repeat (first | exact Keep.refl _ _ | refine Keep.alloc ?_ _))) 0 6 0 0 0 (i64_n (by omega)) (i64_n (by omega)) (i64_n (by omega)) (i64_n (by omega)) (i64_n (by omega)) 0 0 0 [] 3 0 y2 F1_0.out F1_1.out F1_2.out).mono ?_; rintro e w3 ⟨A3, q3, c3, S3, rfl, o3, n3, M3, k3⟩; have bp := bo.next k3; clear bo; have bo := bp; clear bp; clear o3 n3 k3 M2
  obtain ⟨pa, pb, pc, pd, pz, ps⟩ := bo
  go_wp2_with fail; refine (md_res (M3.quiet (by repeat (first | exact Keep.refl _ _ | refine Keep.alloc ?_ _))) 1 2 3 0 6 (i64_n (by omega)) (i64_n (by omega)) (i64_n (by omega)) (i64_n (by omega)) (i64_n (by omega)) 0 14 0 [] 4 2 y3 F2_0.out F2_1.out F2_2.out).mono ?_; rintro e w4 ⟨A4, q4, c4, S4, rfl, o4, n4, M4, k4⟩; clear o4 n4 k4 M3
  go_wp2_with fail; refine (md_live (M4.quiet (by repeat (first | exact Keep.refl _ _ | refine Keep.alloc ?_ _))) [] F3_0.out).mono ?_; rintro e w5 ⟨u5, S5, rfl, o5, n5, M5, k5⟩; obtain ⟨A5, c5, rfl, _, _⟩ := OwnN.shapeN o5; clear M4
  go_wp2_with fail
  refine (awake19_any _).mono ?_
  rintro e wz ⟨rfl, bz⟩
  go_wp2
  go_ret
  exact ⟨rfl, M5.fin bz⟩
theorem chain23_0 (L K : Int) (hL : 1 ≤ L ∧ L ≤ 3) (hK : 1 ≤ K ∧ K ≤ 3) : (⟨50, 100, [⟨1, 10, 0, 0, 2, 0, false⟩, ⟨2, 20, 0, 0, 2, 0, false⟩], ses [⟨2, L, 0, 3, [], []⟩, ⟨3, K, 0, 4, [], []⟩, tx0, tx0, tx0, tx0, tx0, tx0], 4, 3⟩ : MoI).doE 0 ⟨2, 3, 0, 5⟩ = 0 ∧ (⟨50, 100, [⟨1, 10, 0, 0, 2, 0, false⟩, ⟨2, 20, 0, 0, 2, 0, false⟩], ses [⟨2, L, 0, 3, [], []⟩, ⟨3, K, 0, 4, [], []⟩, tx0, tx0, tx0, tx0, tx0, tx0], 4, 3⟩ : MoI).doR 0 ⟨2, 3, 0, 5⟩ = ⟨0, 0, [], 0, 0⟩ ∧ (⟨50, 100, [⟨1, 10, 0, 0, 2, 0, false⟩, ⟨2, 20, 0, 0, 2, 0, false⟩], ses [⟨2, L, 0, 3, [], []⟩, ⟨3, K, 0, 4, [], []⟩, tx0, tx0, tx0, tx0, tx0, tx0], 4, 3⟩ : MoI).doM 0 ⟨2, 3, 0, 5⟩ = (⟨50, 100, [⟨1, 10, 0, 0, 2, 0, false⟩, ⟨2, 20, 0, 0, 2, 0, false⟩, ⟨3, 5, 2, 0, 0, 0, false⟩], ses [⟨2, L, 1, 3, [3], []⟩, ⟨3, K, 0, 4, [], []⟩, tx0, tx0, tx0, tx0, tx0, tx0], 4, 3⟩ : MoI) :=
  ⟨by rfl, by rfl, by exact MoI.ext rfl rfl rfl (ses_eq rfl rfl rfl rfl rfl rfl rfl rfl (fun _ => rfl)) rfl rfl⟩
theorem chain23_1 (L K : Int) (hL : 1 ≤ L ∧ L ≤ 3) (hK : 1 ≤ K ∧ K ≤ 3) : (⟨50, 100, [⟨1, 10, 0, 0, 2, 0, false⟩, ⟨2, 20, 0, 0, 2, 0, false⟩, ⟨3, 5, 2, 0, 0, 0, false⟩], ses [⟨2, L, 1, 3, [3], []⟩, ⟨3, K, 0, 4, [], []⟩, tx0, tx0, tx0, tx0, tx0, tx0], 4, 3⟩ : MoI).doE 0 ⟨7, 0, 0, 0⟩ = 0 ∧ (⟨50, 100, [⟨1, 10, 0, 0, 2, 0, false⟩, ⟨2, 20, 0, 0, 2, 0, false⟩, ⟨3, 5, 2, 0, 0, 0, false⟩], ses [⟨2, L, 1, 3, [3], []⟩, ⟨3, K, 0, 4, [], []⟩, tx0, tx0, tx0, tx0, tx0, tx0], 4, 3⟩ : MoI).doR 0 ⟨7, 0, 0, 0⟩ = ⟨0, 0, [], 4, 1⟩ ∧ (⟨50, 100, [⟨1, 10, 0, 0, 2, 0, false⟩, ⟨2, 20, 0, 0, 2, 0, false⟩, ⟨3, 5, 2, 0, 0, 0, false⟩], ses [⟨2, L, 1, 3, [3], []⟩, ⟨3, K, 0, 4, [], []⟩, tx0, tx0, tx0, tx0, tx0, tx0], 4, 3⟩ : MoI).doM 0 ⟨7, 0, 0, 0⟩ = (⟨50, 100, [⟨1, 10, 0, 0, 2, 0, false⟩, ⟨2, 20, 0, 0, 2, 0, false⟩, ⟨3, 5, 2, 0, 0, 0, true⟩], ses [tx0, ⟨3, K, 0, 4, [], []⟩, tx0, tx0, tx0, tx0, tx0, tx0], 4, 3⟩ : MoI) :=
  ⟨by rfl, by rfl, by exact MoI.ext rfl rfl rfl (ses_eq rfl rfl rfl rfl rfl rfl rfl rfl (fun _ => rfl)) rfl rfl⟩
theorem chain23_2 (L K : Int) (hL : 1 ≤ L ∧ L ≤ 3) (hK : 1 ≤ K ∧ K ≤ 3) : (⟨50, 100, [⟨1, 10, 0, 0, 2, 0, false⟩, ⟨2, 20, 0, 0, 2, 0, false⟩, ⟨3, 5, 2, 0, 0, 0, true⟩], ses [tx0, ⟨3, K, 0, 4, [], []⟩, tx0, tx0, tx0, tx0, tx0, tx0], 4, 3⟩ : MoI).doE 1 ⟨2, 3, 0, 6⟩ = 0 ∧ (⟨50, 100, [⟨1, 10, 0, 0, 2, 0, false⟩, ⟨2, 20, 0, 0, 2, 0, false⟩, ⟨3, 5, 2, 0, 0, 0, true⟩], ses [tx0, ⟨3, K, 0, 4, [], []⟩, tx0, tx0, tx0, tx0, tx0, tx0], 4, 3⟩ : MoI).doR 1 ⟨2, 3, 0, 6⟩ = ⟨0, 0, [], 0, 0⟩ ∧ (⟨50, 100, [⟨1, 10, 0, 0, 2, 0, false⟩, ⟨2, 20, 0, 0, 2, 0, false⟩, ⟨3, 5, 2, 0, 0, 0, true⟩], ses [tx0, ⟨3, K, 0, 4, [], []⟩, tx0, tx0, tx0, tx0, tx0, tx0], 4, 3⟩ : MoI).doM 1 ⟨2, 3, 0, 6⟩ = (⟨50, 100, [⟨1, 10, 0, 0, 2, 0, false⟩, ⟨2, 20, 0, 0, 2, 0, false⟩, ⟨3, 5, 2, 0, 0, 0, true⟩, ⟨3, 6, 3, 0, 0, 0, false⟩], ses [tx0, ⟨3, K, 1, 4, [3], []⟩, tx0, tx0, tx0, tx0, tx0, tx0], 4, 3⟩ : MoI) :=
  ⟨by rfl, by rfl, by exact MoI.ext rfl rfl rfl (ses_eq rfl rfl rfl rfl rfl rfl rfl rfl (fun _ => rfl)) rfl rfl⟩
theorem chain23_3 (L K : Int) (hL : 1 ≤ L ∧ L ≤ 3) (hK : 1 ≤ K ∧ K ≤ 3) : (⟨50, 100, [⟨1, 10, 0, 0, 2, 0, false⟩, ⟨2, 20, 0, 0, 2, 0, false⟩, ⟨3, 5, 2, 0, 0, 0, true⟩, ⟨3, 6, 3, 0, 0, 0, false⟩], ses [tx0, ⟨3, K, 1, 4, [3], []⟩, tx0, tx0, tx0, tx0, tx0, tx0], 4, 3⟩ : MoI).doE 1 ⟨6, 0, 0, 0⟩ = 0 ∧ (⟨50, 100, [⟨1, 10, 0, 0, 2, 0, false⟩, ⟨2, 20, 0, 0, 2, 0, false⟩, ⟨3, 5, 2, 0, 0, 0, true⟩, ⟨3, 6, 3, 0, 0, 0, false⟩], ses [tx0, ⟨3, K, 1, 4, [3], []⟩, tx0, tx0, tx0, tx0, tx0, tx0], 4, 3⟩ : MoI).doR 1 ⟨6, 0, 0, 0⟩ = ⟨0, 0, [], 3, 0⟩ ∧ (⟨50, 100, [⟨1, 10, 0, 0, 2, 0, false⟩, ⟨2, 20, 0, 0, 2, 0, false⟩, ⟨3, 5, 2, 0, 0, 0, true⟩, ⟨3, 6, 3, 0, 0, 0, false⟩], ses [tx0, ⟨3, K, 1, 4, [3], []⟩, tx0, tx0, tx0, tx0, tx0, tx0], 4, 3⟩ : MoI).doM 1 ⟨6, 0, 0, 0⟩ = (⟨50, 100, [⟨1, 10, 0, 0, 2, 0, false⟩, ⟨2, 20, 0, 0, 2, 0, false⟩, ⟨3, 5, 2, 0, 0, 0, true⟩, ⟨3, 6, 0, 0, 5, 0, false⟩], ses [tx0, tx0, tx0, tx0, tx0, tx0, tx0, tx0], 5, 3⟩ : MoI) :=
  ⟨by rcases level_cases hK with rfl | rfl | rfl <;> rfl, by rcases level_cases hK with rfl | rfl | rfl <;> rfl, by rcases level_cases hK with rfl | rfl | rfl <;> exact MoI.ext rfl rfl rfl (ses_eq rfl rfl rfl rfl rfl rfl rfl rfl (fun _ => rfl)) rfl rfl⟩
theorem chain23 (L K : Int) (hL : 1 ≤ L ∧ L ≤ 3) (hK : 1 ≤ K ∧ K ≤ 3) : ∃ y0 y1 y2 y3 y4 : MoI, pairM L K = y0 ∧ y0.doE 0 ⟨2, 3, 0, 5⟩ = 0 ∧ y0.doR 0 ⟨2, 3, 0, 5⟩ = ⟨0, 0, [], 0, 0⟩ ∧ y0.doM 0 ⟨2, 3, 0, 5⟩ = y1 ∧ y1.doE 0 ⟨7, 0, 0, 0⟩ = 0 ∧ y1.doR 0 ⟨7, 0, 0, 0⟩ = ⟨0, 0, [], 4, 1⟩ ∧ y1.doM 0 ⟨7, 0, 0, 0⟩ = y2 ∧ y2.doE 1 ⟨2, 3, 0, 6⟩ = 0 ∧ y2.doR 1 ⟨2, 3, 0, 6⟩ = ⟨0, 0, [], 0, 0⟩ ∧ y2.doM 1 ⟨2, 3, 0, 6⟩ = y3 ∧ y3.doE 1 ⟨6, 0, 0, 0⟩ = 0 ∧ y3.doR 1 ⟨6, 0, 0, 0⟩ = ⟨0, 0, [], 3, 0⟩ ∧ y3.doM 1 ⟨6, 0, 0, 0⟩ = y4 :=
  ⟨⟨50, 100, [⟨1, 10, 0, 0, 2, 0, false⟩, ⟨2, 20, 0, 0, 2, 0, false⟩], ses [⟨2, L, 0, 3, [], []⟩, ⟨3, K, 0, 4, [], []⟩, tx0, tx0, tx0, tx0, tx0, tx0], 4, 3⟩,
    ⟨50, 100, [⟨1, 10, 0, 0, 2, 0, false⟩, ⟨2, 20, 0, 0, 2, 0, false⟩, ⟨3, 5, 2, 0, 0, 0, false⟩], ses [⟨2, L, 1, 3, [3], []⟩, ⟨3, K, 0, 4, [], []⟩, tx0, tx0, tx0, tx0, tx0, tx0], 4, 3⟩,
    ⟨50, 100, [⟨1, 10, 0, 0, 2, 0, false⟩, ⟨2, 20, 0, 0, 2, 0, false⟩, ⟨3, 5, 2, 0, 0, 0, true⟩], ses [tx0, ⟨3, K, 0, 4, [], []⟩, tx0, tx0, tx0, tx0, tx0, tx0], 4, 3⟩,
    ⟨50, 100, [⟨1, 10, 0, 0, 2, 0, false⟩, ⟨2, 20, 0, 0, 2, 0, false⟩, ⟨3, 5, 2, 0, 0, 0, true⟩, ⟨3, 6, 3, 0, 0, 0, false⟩], ses [tx0, ⟨3, K, 1, 4, [3], []⟩, tx0, tx0, tx0, tx0, tx0, tx0], 4, 3⟩,
    ⟨50, 100, [⟨1, 10, 0, 0, 2, 0, false⟩, ⟨2, 20, 0, 0, 2, 0, false⟩, ⟨3, 5, 2, 0, 0, 0, true⟩, ⟨3, 6, 0, 0, 5, 0, false⟩], ses [tx0, tx0, tx0, tx0, tx0, tx0, tx0, tx0], 5, 3⟩, pair_lit hL hK, (chain23_0 L K hL hK).1, (chain23_0 L K hL hK).2.1, (chain23_0 L K hL hK).2.2, (chain23_1 L K hL hK).1, (chain23_1 L K hL hK).2.1, (chain23_1 L K hL hK).2.2, (chain23_2 L K hL hK).1, (chain23_2 L K hL hK).2.1, (chain23_2 L K hL hK).2.2, (chain23_3 L K hL hK).1, (chain23_3 L K hL hK).2.1, (chain23_3 L K hL hK).2.2⟩
set_option maxRecDepth 100000 in
set_option maxHeartbeats 16000000 in
theorem way_2_3 (a0 a1 a2 a3 : Int) (w : World) (hm2 : a2 % 256 % 3 = 2) (hm3 : a3 % 256 % 4 = 3) (m0 : Int) (hm0 : a0 % 256 % 3 = m0) (m1 : Int) (hm1 : a1 % 256 % 3 = m1) :
    Calls Try.prog 5 #[.int .i64 a0, .int .i64 a1, .int .i64 a2, .int .i64 a3] w fun e w' => e = .returned (.bool true) ∧ Below w.heap.size w w' := by
  obtain ⟨q2, h2, e2, f2, l2, l2', p2, p2', w20, w21⟩ := levN a2 3 2 (by decide) (by decide) hm2
  obtain ⟨q3, h3, e3, f3, l3, l3', p3, p3', w30, w31⟩ := levN a3 4 3 (by decide) (by decide) hm3
  obtain ⟨q0, h0, e0, f0, l0, l0', p0, p0', w00, w01⟩ := levN a0 3 m0 (by decide) (by decide) hm0
  obtain ⟨q1, h1, e1, f1, l1, l1', p1, p1', w10, w11⟩ := levN a1 3 m1 (by decide) (by decide) hm1
  have hL : 1 ≤ m0 + 1 ∧ m0 + 1 ≤ 3 := by omega
  have hK : 1 ≤ m1 + 1 ∧ m1 + 1 ≤ 3 := by omega
  have PA := pair_any (m0 + 1) (m1 + 1) hL hK w
  clear w20 w21 w30 w31
  obtain ⟨y0, y1, y2, y3, y4, f0, f0_0, f0_1, f0_2, f1_0, f1_1, f1_2, f2_0, f2_1, f2_2, f3_0, f3_1, f3_2⟩ := chain23 (m0 + 1) (m1 + 1) hL hK
  have F0_0 := Lib.hid f0_0; have F0_1 := Lib.hid f0_1; have F0_2 := Lib.hid f0_2; have F1_0 := Lib.hid f1_0; have F1_1 := Lib.hid f1_1; have F1_2 := Lib.hid f1_2; have F2_0 := Lib.hid f2_0; have F2_1 := Lib.hid f2_1; have F2_2 := Lib.hid f2_2; have F3_0 := Lib.hid f3_0; have F3_1 := Lib.hid f3_1; have F3_2 := Lib.hid f3_2
  have F0 := Lib.hid f0
  clear f0 f0_0 f0_1 f0_2 f1_0 f1_1 f1_2 f2_0 f2_1 f2_2 f3_0 f3_1 f3_2
  go_enter Try.func5, Try.ntmps5
  go_wp2_with fail
  refine PA.mono ?_
  rintro e w1 ⟨m, S1, rfl, M1⟩
  rw [F0.out] at M1
  clear PA
  go_wp2_with fail; refine (md_res (M1.quiet (by repeat (first | exact Keep.refl _ _ | refine Keep.alloc ?_ _))) 0 2 3 0 5 (i64_n (by omega)) (i64_n (by omega)) (i64_n (by omega)) (i64_n (by omega)) (i64_n (by omega)) 0 0 0 [] 0 0 y1 F0_0.out F0_1.out F0_2.out).mono ?_; rintro e w2 ⟨A2, q2, c2, S2, rfl, o2, n2, M2, k2⟩; have bo := md_op M1.lt k2; clear o2 n2 k2 M1
  go_wp2_with fail; refine (md_res (M2.quiet (by repeat (first | exact Keep.refl _ _ | refine Keep.alloc ?_ _))) 0 7 0 0 0 (i64_n (by omega)) (i64_n (by omega)) (i64_n (by omega)) (i64_n (by omega)) (i64_n (by omega)) 0 0 0 [] 4 1 y2 F1_0.out F1_1.out F1_2.out).mono ?_; rintro e w3 ⟨A3, q3, c3, S3, rfl, o3, n3, M3, k3⟩; have bp := bo.next k3; clear bo; have bo := bp; clear bp; clear o3 n3 k3 M2
  obtain ⟨pa, pb, pc, pd, pz, ps⟩ := bo
  go_wp2_with fail; refine (md_res (M3.quiet (by repeat (first | exact Keep.refl _ _ | refine Keep.alloc ?_ _))) 1 2 3 0 6 (i64_n (by omega)) (i64_n (by omega)) (i64_n (by omega)) (i64_n (by omega)) (i64_n (by omega)) 0 0 0 [] 0 0 y3 F2_0.out F2_1.out F2_2.out).mono ?_; rintro e w4 ⟨A4, q4, c4, S4, rfl, o4, n4, M4, k4⟩; clear o4 n4 k4 M3
  go_wp2_with fail; refine (md_res (M4.quiet (by repeat (first | exact Keep.refl _ _ | refine Keep.alloc ?_ _))) 1 6 0 0 0 (i64_n (by omega)) (i64_n (by omega)) (i64_n (by omega)) (i64_n (by omega)) (i64_n (by omega)) 0 0 0 [] 3 0 y4 F3_0.out F3_1.out F3_2.out).mono ?_; rintro e w5 ⟨A5, q5, c5, S5, rfl, o5, n5, M5, k5⟩; have bx4 := md_box M4.lt k5; clear o5 n5 k5 M4
  obtain ⟨ba4, bb4, bc4, bd4, bz4, bs4⟩ := bx4
  go_wp2_with fail
  refine (awake19_any _).mono ?_
  rintro e wz ⟨rfl, bz⟩
  go_wp2
  go_ret
  exact ⟨rfl, M5.fin bz⟩
end Go.Proofs.Ytkkjofefjepodaa.modelFirst
