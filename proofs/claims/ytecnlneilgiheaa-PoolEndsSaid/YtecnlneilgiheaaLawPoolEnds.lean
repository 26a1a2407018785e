/- Proved here: vinculumlaw3.PoolEnds returns true and leaves its arguments as they were, for every two ints and every word; no further condition. -/
import Derived.Test.YtecnlneilgiheaaPoolL
import Derived.ChangeOld
namespace Go.Proofs.Ytecnlneilgiheaa.poolEnds
open Go.ChangeShapes Go.WideShapes Go.ChangeAt Go.RowKit
set_option linter.unusedVariables false

theorem s0_no (l : Int) : (⟨0, [0, 0], [false, false], [], 0, 0⟩ : St).live l = false := by
  cases h : (⟨0, [0, 0], [false, false], [], 0, 0⟩ : St).live l with
  | false => rfl
  | true =>
    obtain ⟨i, hi, ht, _⟩ := (live_iff _ _).1 h
    match i, hi with
    | 0, _ => simp [St.tk] at ht
    | 1, _ => simp [St.tk] at ht
theorem s1_no (l : Int) (hl : l ≠ 1) : (⟨0, [0, 0], [true, false], [], 1, 0⟩ : St).live l = false := by
  cases h : (⟨0, [0, 0], [true, false], [], 1, 0⟩ : St).live l with
  | false => rfl
  | true =>
    obtain ⟨i, hi, ht, e, _⟩ := (live_iff _ _).1 h
    match i, hi with
    | 0, _ => exact absurd (e.trans (by rfl)) hl
    | 1, _ => simp [St.tk] at ht
set_option maxHeartbeats 4000000 in
theorem walk (a0 a1 a2 : Int) (w : World) (w0 : (Lit.int .i64 a0).wf = true) (w1 : (Lit.int .i64 a1).wf = true) (w2 : (Lit.int .u64 a2).wf = true) :
    Calls Try.prog 4 #[.int .i64 a0, .int .i64 a1, .int .u64 a2] w fun e w' => e = .returned (.bool true) ∧ Below w.heap.size w w' := by
  obtain ⟨p0, p1⟩ := bounds_i64 w0
  obtain ⟨q0, q1⟩ := bounds_i64 w1
  obtain ⟨r0, r1⟩ := bounds_u64 w2
  have hm := i64_mask3 a0
  have hm2 := i64_mask3 a1
  obtain ⟨n, en⟩ : ∃ n : Nat, 4093 + a0 % 8 = n := ⟨(4093 + a0 % 8).toNat, by omega⟩
  obtain ⟨m, em⟩ : ∃ m : Int, 65532 + a1 % 8 = m := ⟨_, rfl⟩
  have n1 : 4093 ≤ n := by omega
  have n2 : n ≤ 4100 := by omega
  have m1 : 65532 ≤ m := by omega
  have m2 : m ≤ 65539 := by omega
  have ok1 : Ok ⟨0, [0, 0], [false, false], [], 0, 0⟩ := ok_new 2 0 (by omega) (by omega) (by omega) (by omega)
  have ok2 : Ok ⟨0, [0, 0], [true, false], [], 1, 0⟩ := (ok_takeFresh ok1 (i := 0) rfl (by simp)).2
  have ok3 : Ok ⟨0, [0, 0], [false, false], [], 1, 1⟩ := ok_wear ok2 (i := 0) (by simp) rfl
  rcases (by omega : (n ≤ 4096 ∧ m ≤ 65535) ∨ (n ≤ 4096 ∧ 65535 < m) ∨ 4096 < n) with ⟨hn, hx⟩ | ⟨hn, hx⟩ | hn
  · by_cases hl : a2 = 1
    · subst hl
      go_enter Try.func4, Try.ntmps4
      go_wp2_with fail
      refine (pnew_ok n m _ (by omega) hn (by omega) hx).mono ?_
      rintro e x1 ⟨p5, S5, rfl, h5, g5, b0⟩
      go_wp2_with fail; refine (pnew_ok 2 0 _ (by omega) (by omega) (by omega) (by omega)).mono ?_; rintro e w1 ⟨p, S1, rfl, h1, g1, b1⟩; have h1 : PoolAt w1 p S1 ⟨0, [0, 0], [false, false], [], 0, 0⟩ := h1; have b1 := b0.trans (b1.mono b0.size); have g1 : ∀ k, S1 k → w.heap.size ≤ k := fun k hk => Nat.le_trans b0.size (g1 k hk); go_wp2_with fail; refine (plive_no h1 ok1 1 (by omega) (by omega) (s0_no _)).mono ?_; rintro e w2 ⟨rfl, S2, h2, k2, g2⟩; obtain ⟨b2, g2⟩ := pkeep_ge k2 g1 b1.size g2; have b2 := b1.trans b2; clear k2 h1 g1 b1; go_wp2_with fail; refine (pgive_no h2 ok1 1 (by omega) (by omega) (s0_no _)).mono ?_; rintro e w3 ⟨rfl, S3, h3, k3, g3⟩; obtain ⟨b3, g3⟩ := pkeep_ge k3 g2 b2.size g3; have b3 := b2.trans b3; clear k3 h2 g2 b2; go_wp2_with fail; refine (pt_fresh h3 ok1 rfl 0 rfl (by simp) 1 (by rfl) ⟨0, [0, 0], [true, false], [], 1, 0⟩ rfl).mono ?_; rintro e w4 ⟨rfl, S4, h4, k4, g4⟩; obtain ⟨b4, g4⟩ := pkeep_ge k4 g3 b3.size g4; have b4 := b3.trans b4; clear k4 h3 g3 b3
      go_wp2_with fail
      refine (pl_yes h4 ok2 0 (by simp) rfl 1 (by rfl)).mono ?_
      rintro e w5 ⟨rfl, S5, h5, k5, g5⟩; obtain ⟨b5, g5⟩ := pkeep_ge k5 g4 b4.size g5; have b5 := b4.trans b5; clear k5 h4 g4 b4
      go_wp2_with fail; refine (pg_wear h5 ok2 0 (by simp) rfl rfl 1 (by rfl) ⟨0, [0, 0], [false, false], [], 1, 1⟩ rfl).mono ?_; rintro e w6 ⟨rfl, S6, h6, k6, g6⟩; obtain ⟨b6, g6⟩ := pkeep_ge k6 g5 b5.size g6; have b6 := b5.trans b6; clear k6 h5 g5 b5; go_wp2_with fail; refine (pw_to h6 ok3 1 rfl).mono ?_; rintro e w7 ⟨rfl, S7, h7, k7, g7⟩; obtain ⟨b7, g7⟩ := pkeep_ge k7 g6 b6.size g7; have b7 := b6.trans b7; clear k7 h6 g6 b6; go_wp2_with fail; refine (pf_to h7 ok3 1 rfl).mono ?_; rintro e w8 ⟨rfl, S8, h8, k8, g8⟩; obtain ⟨b8, g8⟩ := pkeep_ge k8 g7 b7.size g8; have b8 := b7.trans b8; clear k8 h7 g7 b7; go_wp2_with fail; refine (awake3_any _).mono ?_; rintro e w9 ⟨rfl, b9⟩; go_wp2; go_ret; exact ⟨rfl, b8.trans (b9.mono b8.size)⟩
    · have hl' : (a2 == 1) = false := by simpa using hl
      go_enter Try.func4, Try.ntmps4
      go_wp2_with fail
      refine (pnew_ok n m _ (by omega) hn (by omega) hx).mono ?_
      rintro e x1 ⟨p5, S5, rfl, h5, g5, b0⟩
      go_wp2_with fail; refine (pnew_ok 2 0 _ (by omega) (by omega) (by omega) (by omega)).mono ?_; rintro e w1 ⟨p, S1, rfl, h1, g1, b1⟩; have h1 : PoolAt w1 p S1 ⟨0, [0, 0], [false, false], [], 0, 0⟩ := h1; have b1 := b0.trans (b1.mono b0.size); have g1 : ∀ k, S1 k → w.heap.size ≤ k := fun k hk => Nat.le_trans b0.size (g1 k hk); go_wp2_with fail; refine (plive_no h1 ok1 a2 r0 r1 (s0_no _)).mono ?_; rintro e w2 ⟨rfl, S2, h2, k2, g2⟩; obtain ⟨b2, g2⟩ := pkeep_ge k2 g1 b1.size g2; have b2 := b1.trans b2; clear k2 h1 g1 b1; go_wp2_with fail; refine (pgive_no h2 ok1 a2 r0 r1 (s0_no _)).mono ?_; rintro e w3 ⟨rfl, S3, h3, k3, g3⟩; obtain ⟨b3, g3⟩ := pkeep_ge k3 g2 b2.size g3; have b3 := b2.trans b3; clear k3 h2 g2 b2; go_wp2_with fail; refine (pt_fresh h3 ok1 rfl 0 rfl (by simp) 1 (by rfl) ⟨0, [0, 0], [true, false], [], 1, 0⟩ rfl).mono ?_; rintro e w4 ⟨rfl, S4, h4, k4, g4⟩; obtain ⟨b4, g4⟩ := pkeep_ge k4 g3 b3.size g4; have b4 := b3.trans b4; clear k4 h3 g3 b3
      go_wp2_with fail
      refine (plive_no h4 ok2 a2 r0 r1 (s1_no _ hl)).mono ?_
      rintro e w5 ⟨rfl, S5, h5, k5, g5⟩; obtain ⟨b5, g5⟩ := pkeep_ge k5 g4 b4.size g5; have b5 := b4.trans b5; clear k5 h4 g4 b4
      go_wp2_with fail; refine (pg_wear h5 ok2 0 (by simp) rfl rfl 1 (by rfl) ⟨0, [0, 0], [false, false], [], 1, 1⟩ rfl).mono ?_; rintro e w6 ⟨rfl, S6, h6, k6, g6⟩; obtain ⟨b6, g6⟩ := pkeep_ge k6 g5 b5.size g6; have b6 := b5.trans b6; clear k6 h5 g5 b5; go_wp2_with fail; refine (pw_to h6 ok3 1 rfl).mono ?_; rintro e w7 ⟨rfl, S7, h7, k7, g7⟩; obtain ⟨b7, g7⟩ := pkeep_ge k7 g6 b6.size g7; have b7 := b6.trans b7; clear k7 h6 g6 b6; go_wp2_with fail; refine (pf_to h7 ok3 1 rfl).mono ?_; rintro e w8 ⟨rfl, S8, h8, k8, g8⟩; obtain ⟨b8, g8⟩ := pkeep_ge k8 g7 b7.size g8; have b8 := b7.trans b8; clear k8 h7 g7 b7; go_wp2_with fail; refine (awake3_any _).mono ?_; rintro e w9 ⟨rfl, b9⟩; go_wp2; go_ret; exact ⟨rfl, b8.trans (b9.mono b8.size)⟩
  · by_cases hl : a2 = 1
    · subst hl
      go_enter Try.func4, Try.ntmps4
      go_wp2_with fail
      refine (pnew_no n m _ (by omega)).mono ?_
      rintro e x1 ⟨rfl, rfl⟩
      have b0 := Below.refl w.heap.size w
      go_wp2_with fail; refine (pnew_ok 2 0 _ (by omega) (by omega) (by omega) (by omega)).mono ?_; rintro e w1 ⟨p, S1, rfl, h1, g1, b1⟩; have h1 : PoolAt w1 p S1 ⟨0, [0, 0], [false, false], [], 0, 0⟩ := h1; have b1 := b0.trans (b1.mono b0.size); have g1 : ∀ k, S1 k → w.heap.size ≤ k := fun k hk => Nat.le_trans b0.size (g1 k hk); go_wp2_with fail; refine (plive_no h1 ok1 1 (by omega) (by omega) (s0_no _)).mono ?_; rintro e w2 ⟨rfl, S2, h2, k2, g2⟩; obtain ⟨b2, g2⟩ := pkeep_ge k2 g1 b1.size g2; have b2 := b1.trans b2; clear k2 h1 g1 b1; go_wp2_with fail; refine (pgive_no h2 ok1 1 (by omega) (by omega) (s0_no _)).mono ?_; rintro e w3 ⟨rfl, S3, h3, k3, g3⟩; obtain ⟨b3, g3⟩ := pkeep_ge k3 g2 b2.size g3; have b3 := b2.trans b3; clear k3 h2 g2 b2; go_wp2_with fail; refine (pt_fresh h3 ok1 rfl 0 rfl (by simp) 1 (by rfl) ⟨0, [0, 0], [true, false], [], 1, 0⟩ rfl).mono ?_; rintro e w4 ⟨rfl, S4, h4, k4, g4⟩; obtain ⟨b4, g4⟩ := pkeep_ge k4 g3 b3.size g4; have b4 := b3.trans b4; clear k4 h3 g3 b3
      go_wp2_with fail
      refine (pl_yes h4 ok2 0 (by simp) rfl 1 (by rfl)).mono ?_
      rintro e w5 ⟨rfl, S5, h5, k5, g5⟩; obtain ⟨b5, g5⟩ := pkeep_ge k5 g4 b4.size g5; have b5 := b4.trans b5; clear k5 h4 g4 b4
      go_wp2_with fail; refine (pg_wear h5 ok2 0 (by simp) rfl rfl 1 (by rfl) ⟨0, [0, 0], [false, false], [], 1, 1⟩ rfl).mono ?_; rintro e w6 ⟨rfl, S6, h6, k6, g6⟩; obtain ⟨b6, g6⟩ := pkeep_ge k6 g5 b5.size g6; have b6 := b5.trans b6; clear k6 h5 g5 b5; go_wp2_with fail; refine (pw_to h6 ok3 1 rfl).mono ?_; rintro e w7 ⟨rfl, S7, h7, k7, g7⟩; obtain ⟨b7, g7⟩ := pkeep_ge k7 g6 b6.size g7; have b7 := b6.trans b7; clear k7 h6 g6 b6; go_wp2_with fail; refine (pf_to h7 ok3 1 rfl).mono ?_; rintro e w8 ⟨rfl, S8, h8, k8, g8⟩; obtain ⟨b8, g8⟩ := pkeep_ge k8 g7 b7.size g8; have b8 := b7.trans b8; clear k8 h7 g7 b7; go_wp2_with fail; refine (awake3_any _).mono ?_; rintro e w9 ⟨rfl, b9⟩; go_wp2; go_ret; exact ⟨rfl, b8.trans (b9.mono b8.size)⟩
    · have hl' : (a2 == 1) = false := by simpa using hl
      go_enter Try.func4, Try.ntmps4
      go_wp2_with fail
      refine (pnew_no n m _ (by omega)).mono ?_
      rintro e x1 ⟨rfl, rfl⟩
      have b0 := Below.refl w.heap.size w
      go_wp2_with fail; refine (pnew_ok 2 0 _ (by omega) (by omega) (by omega) (by omega)).mono ?_; rintro e w1 ⟨p, S1, rfl, h1, g1, b1⟩; have h1 : PoolAt w1 p S1 ⟨0, [0, 0], [false, false], [], 0, 0⟩ := h1; have b1 := b0.trans (b1.mono b0.size); have g1 : ∀ k, S1 k → w.heap.size ≤ k := fun k hk => Nat.le_trans b0.size (g1 k hk); go_wp2_with fail; refine (plive_no h1 ok1 a2 r0 r1 (s0_no _)).mono ?_; rintro e w2 ⟨rfl, S2, h2, k2, g2⟩; obtain ⟨b2, g2⟩ := pkeep_ge k2 g1 b1.size g2; have b2 := b1.trans b2; clear k2 h1 g1 b1; go_wp2_with fail; refine (pgive_no h2 ok1 a2 r0 r1 (s0_no _)).mono ?_; rintro e w3 ⟨rfl, S3, h3, k3, g3⟩; obtain ⟨b3, g3⟩ := pkeep_ge k3 g2 b2.size g3; have b3 := b2.trans b3; clear k3 h2 g2 b2; go_wp2_with fail; refine (pt_fresh h3 ok1 rfl 0 rfl (by simp) 1 (by rfl) ⟨0, [0, 0], [true, false], [], 1, 0⟩ rfl).mono ?_; rintro e w4 ⟨rfl, S4, h4, k4, g4⟩; obtain ⟨b4, g4⟩ := pkeep_ge k4 g3 b3.size g4; have b4 := b3.trans b4; clear k4 h3 g3 b3
      go_wp2_with fail
      refine (plive_no h4 ok2 a2 r0 r1 (s1_no _ hl)).mono ?_
      rintro e w5 ⟨rfl, S5, h5, k5, g5⟩; obtain ⟨b5, g5⟩ := pkeep_ge k5 g4 b4.size g5; have b5 := b4.trans b5; clear k5 h4 g4 b4
      go_wp2_with fail; refine (pg_wear h5 ok2 0 (by simp) rfl rfl 1 (by rfl) ⟨0, [0, 0], [false, false], [], 1, 1⟩ rfl).mono ?_; rintro e w6 ⟨rfl, S6, h6, k6, g6⟩; obtain ⟨b6, g6⟩ := pkeep_ge k6 g5 b5.size g6; have b6 := b5.trans b6; clear k6 h5 g5 b5; go_wp2_with fail; refine (pw_to h6 ok3 1 rfl).mono ?_; rintro e w7 ⟨rfl, S7, h7, k7, g7⟩; obtain ⟨b7, g7⟩ := pkeep_ge k7 g6 b6.size g7; have b7 := b6.trans b7; clear k7 h6 g6 b6; go_wp2_with fail; refine (pf_to h7 ok3 1 rfl).mono ?_; rintro e w8 ⟨rfl, S8, h8, k8, g8⟩; obtain ⟨b8, g8⟩ := pkeep_ge k8 g7 b7.size g8; have b8 := b7.trans b8; clear k8 h7 g7 b7; go_wp2_with fail; refine (awake3_any _).mono ?_; rintro e w9 ⟨rfl, b9⟩; go_wp2; go_ret; exact ⟨rfl, b8.trans (b9.mono b8.size)⟩
  · by_cases hl : a2 = 1
    · subst hl
      go_enter Try.func4, Try.ntmps4
      go_wp2_with fail
      refine (pnew_no n m _ (by omega)).mono ?_
      rintro e x1 ⟨rfl, rfl⟩
      have b0 := Below.refl w.heap.size w
      go_wp2_with fail; refine (pnew_ok 2 0 _ (by omega) (by omega) (by omega) (by omega)).mono ?_; rintro e w1 ⟨p, S1, rfl, h1, g1, b1⟩; have h1 : PoolAt w1 p S1 ⟨0, [0, 0], [false, false], [], 0, 0⟩ := h1; have b1 := b0.trans (b1.mono b0.size); have g1 : ∀ k, S1 k → w.heap.size ≤ k := fun k hk => Nat.le_trans b0.size (g1 k hk); go_wp2_with fail; refine (plive_no h1 ok1 1 (by omega) (by omega) (s0_no _)).mono ?_; rintro e w2 ⟨rfl, S2, h2, k2, g2⟩; obtain ⟨b2, g2⟩ := pkeep_ge k2 g1 b1.size g2; have b2 := b1.trans b2; clear k2 h1 g1 b1; go_wp2_with fail; refine (pgive_no h2 ok1 1 (by omega) (by omega) (s0_no _)).mono ?_; rintro e w3 ⟨rfl, S3, h3, k3, g3⟩; obtain ⟨b3, g3⟩ := pkeep_ge k3 g2 b2.size g3; have b3 := b2.trans b3; clear k3 h2 g2 b2; go_wp2_with fail; refine (pt_fresh h3 ok1 rfl 0 rfl (by simp) 1 (by rfl) ⟨0, [0, 0], [true, false], [], 1, 0⟩ rfl).mono ?_; rintro e w4 ⟨rfl, S4, h4, k4, g4⟩; obtain ⟨b4, g4⟩ := pkeep_ge k4 g3 b3.size g4; have b4 := b3.trans b4; clear k4 h3 g3 b3
      go_wp2_with fail
      refine (pl_yes h4 ok2 0 (by simp) rfl 1 (by rfl)).mono ?_
      rintro e w5 ⟨rfl, S5, h5, k5, g5⟩; obtain ⟨b5, g5⟩ := pkeep_ge k5 g4 b4.size g5; have b5 := b4.trans b5; clear k5 h4 g4 b4
      go_wp2_with fail; refine (pg_wear h5 ok2 0 (by simp) rfl rfl 1 (by rfl) ⟨0, [0, 0], [false, false], [], 1, 1⟩ rfl).mono ?_; rintro e w6 ⟨rfl, S6, h6, k6, g6⟩; obtain ⟨b6, g6⟩ := pkeep_ge k6 g5 b5.size g6; have b6 := b5.trans b6; clear k6 h5 g5 b5; go_wp2_with fail; refine (pw_to h6 ok3 1 rfl).mono ?_; rintro e w7 ⟨rfl, S7, h7, k7, g7⟩; obtain ⟨b7, g7⟩ := pkeep_ge k7 g6 b6.size g7; have b7 := b6.trans b7; clear k7 h6 g6 b6; go_wp2_with fail; refine (pf_to h7 ok3 1 rfl).mono ?_; rintro e w8 ⟨rfl, S8, h8, k8, g8⟩; obtain ⟨b8, g8⟩ := pkeep_ge k8 g7 b7.size g8; have b8 := b7.trans b8; clear k8 h7 g7 b7; go_wp2_with fail; refine (awake3_any _).mono ?_; rintro e w9 ⟨rfl, b9⟩; go_wp2; go_ret; exact ⟨rfl, b8.trans (b9.mono b8.size)⟩
    · have hl' : (a2 == 1) = false := by simpa using hl
      go_enter Try.func4, Try.ntmps4
      go_wp2_with fail
      refine (pnew_no n m _ (by omega)).mono ?_
      rintro e x1 ⟨rfl, rfl⟩
      have b0 := Below.refl w.heap.size w
      go_wp2_with fail; refine (pnew_ok 2 0 _ (by omega) (by omega) (by omega) (by omega)).mono ?_; rintro e w1 ⟨p, S1, rfl, h1, g1, b1⟩; have h1 : PoolAt w1 p S1 ⟨0, [0, 0], [false, false], [], 0, 0⟩ := h1; have b1 := b0.trans (b1.mono b0.size); have g1 : ∀ k, S1 k → w.heap.size ≤ k := fun k hk => Nat.le_trans b0.size (g1 k hk); go_wp2_with fail; refine (plive_no h1 ok1 a2 r0 r1 (s0_no _)).mono ?_; rintro e w2 ⟨rfl, S2, h2, k2, g2⟩; obtain ⟨b2, g2⟩ := pkeep_ge k2 g1 b1.size g2; have b2 := b1.trans b2; clear k2 h1 g1 b1; go_wp2_with fail; refine (pgive_no h2 ok1 a2 r0 r1 (s0_no _)).mono ?_; rintro e w3 ⟨rfl, S3, h3, k3, g3⟩; obtain ⟨b3, g3⟩ := pkeep_ge k3 g2 b2.size g3; have b3 := b2.trans b3; clear k3 h2 g2 b2; go_wp2_with fail; refine (pt_fresh h3 ok1 rfl 0 rfl (by simp) 1 (by rfl) ⟨0, [0, 0], [true, false], [], 1, 0⟩ rfl).mono ?_; rintro e w4 ⟨rfl, S4, h4, k4, g4⟩; obtain ⟨b4, g4⟩ := pkeep_ge k4 g3 b3.size g4; have b4 := b3.trans b4; clear k4 h3 g3 b3
      go_wp2_with fail
      refine (plive_no h4 ok2 a2 r0 r1 (s1_no _ hl)).mono ?_
      rintro e w5 ⟨rfl, S5, h5, k5, g5⟩; obtain ⟨b5, g5⟩ := pkeep_ge k5 g4 b4.size g5; have b5 := b4.trans b5; clear k5 h4 g4 b4
      go_wp2_with fail; refine (pg_wear h5 ok2 0 (by simp) rfl rfl 1 (by rfl) ⟨0, [0, 0], [false, false], [], 1, 1⟩ rfl).mono ?_; rintro e w6 ⟨rfl, S6, h6, k6, g6⟩; obtain ⟨b6, g6⟩ := pkeep_ge k6 g5 b5.size g6; have b6 := b5.trans b6; clear k6 h5 g5 b5; go_wp2_with fail; refine (pw_to h6 ok3 1 rfl).mono ?_; rintro e w7 ⟨rfl, S7, h7, k7, g7⟩; obtain ⟨b7, g7⟩ := pkeep_ge k7 g6 b6.size g7; have b7 := b6.trans b7; clear k7 h6 g6 b6; go_wp2_with fail; refine (pf_to h7 ok3 1 rfl).mono ?_; rintro e w8 ⟨rfl, S8, h8, k8, g8⟩; obtain ⟨b8, g8⟩ := pkeep_ge k8 g7 b7.size g8; have b8 := b7.trans b8; clear k8 h7 g7 b7; go_wp2_with fail; refine (awake3_any _).mono ?_; rintro e w9 ⟨rfl, b9⟩; go_wp2; go_ret; exact ⟨rfl, b8.trans (b9.mono b8.size)⟩
theorem own : ownKnob Try.prog.godebug = none := by kernel_rfl
theorem laidOut : laidOutB Try.prog = true := by kernel_rfl
set_option maxRecDepth 100000 in
theorem lifted (os : Os) (started : os.Started) (H : Type) (enc : TypeId × Value → H) :
    ReturnsInHanded {} Try.checked os 4 .any (Rows.poolEndsSpec.pre6 enc Try.prog Try.f4 Rows.poolEndsRow.domain false) (Rows.poolEndsSpec.post enc Try.prog Try.f4 false true false false) := by
  refine returnsInHanded_of_change (C := Try.checked) own started (by kernel_rfl) Try.func4
    (ChangeSpec.witness6 (enc := enc) (C := Try.checked) false ⟨#[], #[.int .i64 0, .int .i64 0, .int .u64 0], []⟩ 8 (by kernel_rfl) (by kernel_rfl) (by kernel_rfl) (by kernel_rfl)) ?_
  intro W base args ds gs before hval0 hW hcnd _
  have hval : ∀ (j : Nat) t v, Try.f4.params[j]? = some t → args[j]? = some v → Value.okWide Try.prog W .any base t v := hval0
  have hW' := hW
  obtain ⟨p, q, hA0, hV, rfl, hfz, hnd⟩ := hW
  have hA : DataW.TrodAll enc Try.prog W 0 (fun _ => true) true Try.f4.params.toList args.toList ds p := hA0
  rw [Try.params4] at hA hval
  obtain ⟨v0, vs0, d0, ds0, p0, q0, hargs, rfl, rfl, h0, r0⟩ := trodAll_cons hA
  obtain ⟨v1, vs1, d1, ds1, p1, q1, rfl, rfl, rfl, h1, r1⟩ := trodAll_cons r0
  obtain ⟨v2, vs2, d2, ds2, p2, q2, rfl, rfl, rfl, h2, r2⟩ := trodAll_cons r1
  obtain ⟨rfl, rfl, rfl⟩ := trodAll_nil r2
  obtain rfl : args = #[v0, v1, v2] := by cases args; simp_all
  obtain ⟨rfl, rfl⟩ := trodVars_none hV
  obtain ⟨a0, rfl, rfl, rfl, w0⟩ := open_int Try.underlying3 (hval 0 3 v0 rfl rfl) h0
  obtain ⟨a1, rfl, rfl, rfl, w1⟩ := open_int Try.underlying3 (hval 1 3 v1 rfl rfl) h1
  obtain ⟨a2, rfl, rfl, rfl, w2⟩ := open_int Try.underlying28 (hval 2 28 v2 rfl rfl) h2
  clear hA0 hval0
  refine (walk a0 a1 a2 W w0 w1 w2).mono fun e W' ⟨he, bel⟩ => ?_
  subst he
  exact ⟨_, rfl, _, _, _, [], _, [], hW', trodAll_mk1 (shut_bool Try.underlying4 _), (trodAll_cons_mk (shut_int Try.underlying3 w0) (trodAll_cons_mk (shut_int Try.underlying3 w1) (trodAll_cons_mk (shut_int Try.underlying28 w2) trodAll_mk0))), rfl, bel.frame _, fun h => by cases h⟩
theorem over : Rows.poolEndsRow.holds Try.pinned (OpenSpec.ofChange Rows.poolEndsSpec) :=
  OpenClaim.holds_of_wide 4 Try.f4 rfl rfl rfl rfl rfl rfl rfl ⟨rfl, rfl, rfl, rfl, rfl⟩ rfl rfl rfl rfl rfl (by kernel_rfl) Try.func4 (by kernel_rfl)
    (of_decide_eq_true (by kernel_rfl)) (by unfold Func.isWrapper; first | (rw [if_pos (by decide +kernel)]; kernel_rfl) | (rw [if_neg (by decide +kernel)]; exact ⟨rfl, rfl⟩))
    (fun os started H enc _ => lifted os started H enc)
theorem proved : Rows.PoolEndsSaid := over
#print axioms proved
end Go.Proofs.Ytecnlneilgiheaa.poolEnds
