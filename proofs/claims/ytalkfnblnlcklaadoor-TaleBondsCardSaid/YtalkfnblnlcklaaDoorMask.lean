/- Masks of 64-bit words by a power of two less one; no dump. -/
import Derived.Test.YtalkfnblnlcklaaDoorBits
namespace Go.Proofs.YtalkfnblnlcklaaDoor
theorem u64_maskP (j : Nat) (hj : j ≤ 62) (n : Int) (h0 : 0 ≤ n) (h1 : n ≤ 18446744073709551615) : bits .and .u64 n ((2 ^ j - 1 : Nat) : Int) = n % ((2 ^ j : Nat) : Int) := by
  have hp : 2 ^ j ≤ 2 ^ 62 := Nat.pow_le_pow_right (by decide) hj
  have hp1 : 1 ≤ 2 ^ j := Nat.one_le_two_pow
  rw [u64_and n _ h0 (by omega) (by omega) (by omega)]
  rw [show (((2 ^ j - 1 : Nat) : Int)).toNat = 2 ^ j - 1 by omega, Nat.and_two_pow_sub_one_eq_mod, Int.natCast_emod, Int.toNat_of_nonneg h0]
theorem u64_mask4 (n : Int) (h0 : 0 ≤ n) (h1 : n ≤ 18446744073709551615) : bits .and .u64 n 15 = n % 16 := u64_maskP 4 (by decide) n h0 h1
theorem u64_mask5 (n : Int) (h0 : 0 ≤ n) (h1 : n ≤ 18446744073709551615) : bits .and .u64 n 31 = n % 32 := u64_maskP 5 (by decide) n h0 h1
theorem u64_mask6 (n : Int) (h0 : 0 ≤ n) (h1 : n ≤ 18446744073709551615) : bits .and .u64 n 63 = n % 64 := u64_maskP 6 (by decide) n h0 h1
theorem u64_mask8 (n : Int) (h0 : 0 ≤ n) (h1 : n ≤ 18446744073709551615) : bits .and .u64 n 255 = n % 256 := u64_maskP 8 (by decide) n h0 h1
theorem i64_mask2 (n : Int) : bits .and .i64 n 3 = n % 4 := i64_mask n 2 (by decide)
theorem i64_mask8 (n : Int) : bits .and .i64 n 255 = n % 256 := i64_mask n 8 (by decide)
/-- A word's bit k, as a shift and a mask tell it. -/
theorem bit_at (A k : Nat) (h : A ≤ 18446744073709551615) : bits .and .u64 ((A : Int) / 2 ^ k) 1 = if A.testBit k = true then 1 else 0 := by
  have e : (A : Int) / 2 ^ k = ((A / 2 ^ k : Nat) : Int) := by simp
  have hd : A / 2 ^ k ≤ A := Nat.div_le_self _ _
  rw [e, Nat.testBit_eq_decide_div_mod_eq]
  clear e
  obtain ⟨q, eq⟩ : ∃ q, A / 2 ^ k = q := ⟨_, rfl⟩
  rw [eq] at hd ⊢
  rw [show (1 : Int) = ((2 ^ 1 - 1 : Nat) : Int) from rfl, u64_maskP 1 (by decide) _ (by omega) (by omega)]
  have : q % 2 = 0 ∨ q % 2 = 1 := by omega
  rcases this with h1 | h1
  · rw [if_neg (by simp [h1])]
    show (q : Int) % ((2 : Nat) : Int) = 0
    omega
  · rw [if_pos (by simp [h1])]
    show (q : Int) % ((2 : Nat) : Int) = ((2 ^ 1 - 1 : Nat) : Int)
    rw [show ((2 ^ 1 - 1 : Nat) : Int) = 1 from rfl]
    omega
theorem bit_true {A k : Nat} (h : A ≤ 18446744073709551615) (hb : A.testBit k = true) : bits .and .u64 ((A : Int) / 2 ^ k) 1 = 1 := by rw [bit_at A k h, if_pos hb]
theorem bit_false {A k : Nat} (h : A ≤ 18446744073709551615) (hb : A.testBit k = false) : bits .and .u64 ((A : Int) / 2 ^ k) 1 = 0 := by rw [bit_at A k h, if_neg (by simp [hb])]
theorem two_at (A k : Nat) (h : A ≤ 18446744073709551615) : bits .and .u64 ((A : Int) / 2 ^ k) 3 = ((A / 2 ^ k % 4 : Nat) : Int) := by
  have e : (A : Int) / 2 ^ k = ((A / 2 ^ k : Nat) : Int) := by simp
  have hd : A / 2 ^ k ≤ A := Nat.div_le_self _ _
  rw [e]
  clear e
  obtain ⟨q, eq⟩ : ∃ q, A / 2 ^ k = q := ⟨_, rfl⟩
  rw [eq] at hd ⊢
  rw [show (3 : Int) = ((2 ^ 2 - 1 : Nat) : Int) from rfl, u64_maskP 2 (by decide) _ (by omega) (by omega)]
  rfl
theorem u64_andN (A B : Nat) (ha : A ≤ 18446744073709551615) (hb : B ≤ 18446744073709551615) : bits .and .u64 (A : Int) (B : Int) = ((A &&& B : Nat) : Int) := by
  rw [u64_and _ _ (by omega) (by omega) (by omega) (by omega), Int.toNat_natCast, Int.toNat_natCast]
theorem and_le (A B : Nat) (ha : A ≤ 18446744073709551615) : A &&& B ≤ 18446744073709551615 := Nat.le_trans Nat.and_le_left ha
theorem u64_lessN (A B : Nat) (ha : A ≤ 18446744073709551615) (hb : B ≤ 18446744073709551615) : bits .andNot .u64 (A : Int) (B : Int) = ((A &&& (18446744073709551615 - B) : Nat) : Int) := u64_andNot_nat A B (by omega) (by omega)
theorem less_bit (A B k : Nat) (hb : B ≤ 18446744073709551615) (hk : k < 64) : (A &&& (18446744073709551615 - B)).testBit k = (A.testBit k && !B.testBit k) := by
  rw [Nat.testBit_and, show 18446744073709551615 - B = 2 ^ 64 - (B + 1) by omega, Nat.testBit_two_pow_sub_succ (by omega)]
  simp [hk]
end Go.Proofs.YtalkfnblnlcklaaDoor
