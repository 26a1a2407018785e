/- Masks of 64-bit words by a power of two less one; no dump. -/
import Derived.Test.YtdkgngdfehllcaaBits
namespace Go.Proofs.Ytdkgngdfehllcaa
theorem u64_maskP (j : Nat) (hj : j ≤ 62) (n : Int) (h0 : 0 ≤ n) (h1 : n ≤ 18446744073709551615) : bits .and .u64 n ((2 ^ j - 1 : Nat) : Int) = n % ((2 ^ j : Nat) : Int) := by
  have hp : 2 ^ j ≤ 2 ^ 62 := Nat.pow_le_pow_right (by decide) hj
  have hp1 : 1 ≤ 2 ^ j := Nat.one_le_two_pow
  rw [u64_and n _ h0 (by omega) (by omega) (by omega)]
  rw [show (((2 ^ j - 1 : Nat) : Int)).toNat = 2 ^ j - 1 by omega, Nat.and_two_pow_sub_one_eq_mod, Int.natCast_emod, Int.toNat_of_nonneg h0]
theorem u64_mask4 (n : Int) (h0 : 0 ≤ n) (h1 : n ≤ 18446744073709551615) : bits .and .u64 n 15 = n % 16 := u64_maskP 4 (by decide) n h0 h1
theorem u64_mask5 (n : Int) (h0 : 0 ≤ n) (h1 : n ≤ 18446744073709551615) : bits .and .u64 n 31 = n % 32 := u64_maskP 5 (by decide) n h0 h1
theorem u64_mask6 (n : Int) (h0 : 0 ≤ n) (h1 : n ≤ 18446744073709551615) : bits .and .u64 n 63 = n % 64 := u64_maskP 6 (by decide) n h0 h1
theorem u64_mask8 (n : Int) (h0 : 0 ≤ n) (h1 : n ≤ 18446744073709551615) : bits .and .u64 n 255 = n % 256 := u64_maskP 8 (by decide) n h0 h1
theorem i64_mask2 (n : Int) : bits .and .i64 n 3 = n % 4 := i64_mask n 2 (by decide)
theorem i64_mask8 (n : Int) : bits .and .i64 n 255 = n % 256 := i64_mask n 8 (by decide)
end Go.Proofs.Ytdkgngdfehllcaa
