/- Contracts of word.Of, word.Before, the document's own answer for both, and of the statement's helper awake: what each returns, for every stamp and every two words; conditions: each number fits its kind. -/
import Derived.Test.YtipcbchjpckamaaWord
import Derived.Lib.Hide
namespace Go.Proofs.Ytipcbchjpckamaa
open Go.ChangeShapes Go.WideShapes Go.ChangeAt Go.RowKit
set_option linter.unusedVariables false

theorem below_two {w w1 w2 : World} (b1 : Below w.heap.size w w1) (b2 : Below w1.heap.size w1 w2) (o o' : Obj) : Below w.heap.size w ((w2.alloc o).alloc o') := by
  have h1 := b1.size
  have h2 := b2.size
  exact ((b1.trans (b2.mono h1)).alloc (by omega) _).alloc (by simp; omega) _
theorem beforew_any (a b : Int) (h0 : 0 ≤ a) (h1 : a ≤ 18446744073709551615) (g0 : 0 ≤ b) (g1 : b ≤ 18446744073709551615) (w : World) : Calls Try.prog 24 #[.int .u64 a, .int .u64 b] w fun e w' => e = .returned (.bool (befI a b)) ∧ w = w' := by
  rcases bef_cases a b with ⟨h, hk⟩ | ⟨h, h2, hk⟩ | ⟨h, h2, h3, hk⟩ | ⟨h, h2, h3, h4, hk⟩ | ⟨h, h2, h3, h4, hk⟩
  · rw [hk]; clear hk
    go_enter Try.func24, Try.ntmps24
    go_wp2
    go_ret
    exact ⟨rfl, rfl⟩
  · rw [hk]; clear hk; subst h2
    go_enter Try.func24, Try.ntmps24
    go_wp2
    go_ret
    exact ⟨rfl, rfl⟩
  all_goals
    rw [hk]; clear hk
    have h2' : (b == 2305843009213693952) = false := by simpa using h2
    go_enter Try.func24, Try.ntmps24
    go_wp2
    go_ret
    exact ⟨rfl, rfl⟩
theorem ofw_any (k n : Int) (h0 : -9223372036854775808 ≤ k) (h1 : k ≤ 9223372036854775807) (g0 : 0 ≤ n) (g1 : n ≤ 18446744073709551615) (w : World) : Calls Try.prog 20 #[.agg #[.int .i64 k, .int .u64 n]] w fun e w' => e = .returned (.tuple #[.int .u64 (ofW k n), .bool (ofB k n)]) ∧ Below w.heap.size w w' := by
  by_cases k1 : k = 1
  · subst k1
    rw [ofW_1, ofB_1]
    go_enter Try.func20, Try.ntmps20
    go_wp2_with (go_at_call 14; refine (timew_any n (by omega) (by omega) _).mono ?_; rintro e w' ⟨rfl, rfl⟩)
    go_ret2
    exact ⟨rfl, (Below.refl _ _).alloc (Nat.le_refl _) _⟩
  · have k1' : (k == 1) = false := by simpa using k1
    by_cases k2 : k = 2
    · subst k2
      rw [ofW_2, ofB_2]
      go_enter Try.func20, Try.ntmps20
      go_wp2_with (go_at_call 28; refine (txnu_any n (by omega) (by omega) _).mono ?_; rintro e w' ⟨rfl, rfl⟩)
      go_ret2
      exact ⟨rfl, (Below.refl _ _).alloc (Nat.le_refl _) _⟩
    · have k2' : (k == 2) = false := by simpa using k2
      by_cases k3 : k = 3
      · subst k3
        by_cases hn : n = 0
        · subst hn
          rw [ofW_3, ofB_3]
          go_enter Try.func20, Try.ntmps20
          go_wp2
          go_ret2
          exact ⟨rfl, (Below.refl _ _).alloc (Nat.le_refl _) _⟩
        · have hn' : (n == 0) = false := by simpa using hn
          rw [ofW_3n n hn, ofB_3n n hn]
          go_enter Try.func20, Try.ntmps20
          go_wp2
          go_ret2
          exact ⟨rfl, (Below.refl _ _).alloc (Nat.le_refl _) _⟩
      · have k3' : (k == 3) = false := by simpa using k3
        rw [ofW_n k n k1 k2 k3, ofB_n k n k1 k2 k3]
        go_enter Try.func20, Try.ntmps20
        go_wp2
        go_ret2
        exact ⟨rfl, (Below.refl _ _).alloc (Nat.le_refl _) _⟩
theorem ofr_any (k n : Int) (h0 : -9223372036854775808 ≤ k) (h1 : k ≤ 9223372036854775807) (g0 : 0 ≤ n) (g1 : n ≤ 18446744073709551615) (w : World) : Calls Try.prog 21 #[.agg #[.int .i64 k, .int .u64 n]] w fun e w' => e = .returned (.tuple #[.int .u64 (ofW k n), .bool (ofB k n)]) ∧ Below w.heap.size w w' := by
  by_cases k1 : k = 1
  · subst k1
    rw [ofW_1, ofB_1]
    go_enter Try.func21, Try.ntmps21
    go_wp2_with (go_at_call 18; refine (timer_any n (by omega) (by omega) _).mono ?_; rintro e w' ⟨rfl, rfl⟩)
    go_ret2
    exact ⟨rfl, (Below.refl _ _).alloc (Nat.le_refl _) _⟩
  · have k1' : (k == 1) = false := by simpa using k1
    by_cases k2 : k = 2
    · subst k2
      rw [ofW_2, ofB_2]
      rcases txn_cases n with ⟨h, h', hk, hn⟩ | ⟨h, hk, hn⟩ | ⟨h, hk, hn⟩
      · rw [hk, hn]; clear hk hn k1 k1'
        go_enter Try.func21, Try.ntmps21
        go_wp2
        go_ret2
        exact ⟨rfl, (Below.refl _ _).alloc (Nat.le_refl _) _⟩
      · have h' : ¬ 1 ≤ n := by omega
        rw [hk, hn]; clear hk hn k1 k1'
        go_enter Try.func21, Try.ntmps21
        go_wp2
        go_ret2
        exact ⟨rfl, (Below.refl _ _).alloc (Nat.le_refl _) _⟩
      · have h' : ¬ n ≤ 65535 := by omega
        have h2 : 1 ≤ n := by omega
        rw [hk, hn]; clear hk hn k1 k1'
        go_enter Try.func21, Try.ntmps21
        go_wp2
        go_ret2
        exact ⟨rfl, (Below.refl _ _).alloc (Nat.le_refl _) _⟩
    · have k2' : (k == 2) = false := by simpa using k2
      by_cases k3 : k = 3
      · subst k3
        by_cases hn : n = 0
        · subst hn
          rw [ofW_3, ofB_3]
          go_enter Try.func21, Try.ntmps21
          go_wp2
          go_ret2
          exact ⟨rfl, (Below.refl _ _).alloc (Nat.le_refl _) _⟩
        · have hn' : (n == 0) = false := by simpa using hn
          rw [ofW_3n n hn, ofB_3n n hn]
          go_enter Try.func21, Try.ntmps21
          go_wp2
          go_ret2
          exact ⟨rfl, (Below.refl _ _).alloc (Nat.le_refl _) _⟩
      · have k3' : (k == 3) = false := by simpa using k3
        rw [ofW_n k n k1 k2 k3, ofB_n k n k1 k2 k3]
        go_enter Try.func21, Try.ntmps21
        go_wp2
        go_ret2
        exact ⟨rfl, (Below.refl _ _).alloc (Nat.le_refl _) _⟩
theorem beforer_any (a b : Int) (h0 : 0 ≤ a) (h1 : a ≤ 18446744073709551615) (g0 : 0 ≤ b) (g1 : b ≤ 18446744073709551615) (w : World) : Calls Try.prog 25 #[.int .u64 a, .int .u64 b] w fun e w' => e = .returned (.bool (befI a b)) ∧ Below w.heap.size w w' := by
  obtain ⟨ka, hka⟩ : ∃ k, rdK a = k := ⟨_, rfl⟩
  obtain ⟨kb, hkb⟩ : ∃ k, rdK b = k := ⟨_, rfl⟩
  have hb : befI a b = ((ka == 1) && ((kb == 3) || ((kb == 1) && decide (a < b)))) := by rw [← hka, ← hkb]; exact bef_rd a b
  rw [hb]; clear hb
  have hA : rdK a = ka := hka
  have hB : rdK b = kb := hkb
  have HA := Lib.hid hka
  have HB := Lib.hid hkb
  clear hka hkb hA hB
  have goal : ∀ r : Bool, ((ka == 1) && ((kb == 3) || ((kb == 1) && decide (a < b)))) = r → Calls Try.prog 25 #[.int .u64 a, .int .u64 b] w fun e w' => e = .returned (.bool r) ∧ Below w.heap.size w w' := by
    intro r hr
    by_cases e1 : (ka == 1) = true
    · by_cases e2 : (kb == 3) = true
      · rw [e1, e2] at hr
        obtain rfl : r = true := by simpa using hr.symm
        clear hr
        go_enter Try.func25, Try.ntmps25
        go_wp2_with fail
        refine (readr_any a (by omega) (by omega) _).mono ?_
        rw [HA.out]; rintro e w1 ⟨rfl, b1⟩
        go_wp2_with fail
        refine (readr_any b (by omega) (by omega) _).mono ?_
        rw [HB.out]; rintro e w2 ⟨rfl, b2⟩
        go_wp2
        go_ret
        exact ⟨rfl, below_two b1 b2 _ _⟩
      · have e2 : (kb == 3) = false := by simpa using e2
        by_cases e3 : (kb == 1) = true
        · by_cases e4 : a < b
          · rw [e1, e2, e3, decide_eq_true e4] at hr
            obtain rfl : r = true := by simpa using hr.symm
            clear hr
            go_enter Try.func25, Try.ntmps25
            go_wp2_with fail
            refine (readr_any a (by omega) (by omega) _).mono ?_
            rw [HA.out]; rintro e w1 ⟨rfl, b1⟩
            go_wp2_with fail
            refine (readr_any b (by omega) (by omega) _).mono ?_
            rw [HB.out]; rintro e w2 ⟨rfl, b2⟩
            go_wp2
            go_ret
            exact ⟨rfl, below_two b1 b2 _ _⟩
          · have e5 : decide (a < b) = false := decide_eq_false e4
            rw [e1, e2, e3, e5] at hr
            obtain rfl : r = false := by simpa using hr.symm
            clear hr
            go_enter Try.func25, Try.ntmps25
            go_wp2_with fail
            refine (readr_any a (by omega) (by omega) _).mono ?_
            rw [HA.out]; rintro e w1 ⟨rfl, b1⟩
            go_wp2_with fail
            refine (readr_any b (by omega) (by omega) _).mono ?_
            rw [HB.out]; rintro e w2 ⟨rfl, b2⟩
            go_wp2
            go_ret
            exact ⟨rfl, below_two b1 b2 _ _⟩
        · have e3 : (kb == 1) = false := by simpa using e3
          rw [e1, e2, e3] at hr
          obtain rfl : r = false := by simpa using hr.symm
          clear hr
          go_enter Try.func25, Try.ntmps25
          go_wp2_with fail
          refine (readr_any a (by omega) (by omega) _).mono ?_
          rw [HA.out]; rintro e w1 ⟨rfl, b1⟩
          go_wp2_with fail
          refine (readr_any b (by omega) (by omega) _).mono ?_
          rw [HB.out]; rintro e w2 ⟨rfl, b2⟩
          go_wp2
          go_ret
          exact ⟨rfl, below_two b1 b2 _ _⟩
    · have e1 : (ka == 1) = false := by simpa using e1
      rw [e1] at hr
      obtain rfl : r = false := by simpa using hr.symm
      clear hr
      go_enter Try.func25, Try.ntmps25
      go_wp2_with fail
      refine (readr_any a (by omega) (by omega) _).mono ?_
      rw [HA.out]; rintro e w1 ⟨rfl, b1⟩
      go_wp2_with fail
      refine (readr_any b (by omega) (by omega) _).mono ?_
      rw [HB.out]; rintro e w2 ⟨rfl, b2⟩
      go_wp2
      go_ret
      exact ⟨rfl, below_two b1 b2 _ _⟩
  exact goal _ rfl
theorem awake1_any (w : World) : Calls Try.prog 13 #[] w fun e w' => e = .returned (.bool true) ∧ Below w.heap.size w w' := by
  have hl : linkI 3 2 = 262148 := by decide
  have hs : uslot 262148 = 3 := by decide
  have ht : utag 262148 = 2 := by decide
  have hm : mkd 262148 = false := by decide
  have hw : txnW 5 = 4611686018427387909 := by decide
  have hv : txnB 5 = true := by decide
  have k1 : rdK 2305843009213693952 = 3 := by decide
  have n1 : rdN 2305843009213693952 = 0 := by decide
  have k2 : rdK 4611686018427387909 = 2 := by decide
  have n2 : rdN 4611686018427387909 = 5 := by decide
  go_enter Try.func13, Try.ntmps13
  go_wp2_with (first | (go_at_call 15; refine (txnw_any _ (by decide) (by decide) _).mono ?_; rintro e w' ⟨rfl, rfl⟩) | (go_at_call 9; refine (linkw_ok _ _ (by decide) (by decide) (by decide) (by decide) _).mono ?_; rintro e w' ⟨rfl, rfl⟩) | (go_at_call 11; refine (unlink_any _ (by decide) (by decide) _).mono ?_; rintro e w' ⟨rfl, rfl⟩) | (go_at_call 17; refine (foreverw_any _).mono ?_; rintro e w' ⟨rfl, rfl⟩) | (go_at_call 16; fail))
  refine (readw_any _ (by decide) (by decide) _).mono ?_; rintro e w1 ⟨rfl, b1⟩
  go_wp2_with (fail)
  refine (readw_any _ (by decide) (by decide) _).mono ?_; rintro e w2 ⟨rfl, b2⟩
  go_wp2
  go_ret
  exact ⟨rfl, b1.trans (b2.mono b1.size)⟩
end Go.Proofs.Ytipcbchjpckamaa
