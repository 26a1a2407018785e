/- Contracts of the functions of package word, and of the document's own answer for layer 1: what each returns, for every 64-bit word and every int; conditions: each number fits its kind. -/
import Derived.Test.YtipcbchjpckamabRows
import Derived.Test.YtipcbchjpckamabBits
import Derived.WalkKit
import Derived.ProofKit
import Derived.OpenShut
import Derived.WalkLawsBesides
import Derived.Below
namespace Go.Proofs.Ytipcbchjpckamab
open Go.ChangeShapes Go.WideShapes Go.ChangeAt Go.RowKit
set_option linter.unusedVariables false

theorem unlink_any (a : Int) (h0 : 0 ≤ a) (h1 : a ≤ 18446744073709551615) (w : World) : Calls Try.prog 11 #[.int .u64 a] w fun e w' => e = .returned (.tuple #[.int .i64 (uslot a), .int .i64 (utag a), .bool (mkd a)]) ∧ w = w' := by
  have hb := bit40_ne a h0 h1
  have hs := u64_mask17 a h0 h1
  have ht := u64_mask16 (a / 131072) (by omega) (by omega)
  have es : wrap64 (a % 131072) = a % 131072 := by unfold wrap64; omega
  have es1 : wrap64 (a % 131072 - 1) = uslot a := by unfold wrap64 uslot; omega
  have et : wrap64 (a / 131072 % 65536) = utag a := by unfold wrap64 utag; omega
  go_enter Try.func11, Try.ntmps11
  go_wp2
  go_ret3
  exact ⟨rfl, rfl⟩
theorem linkw_ok (a b : Int) (h0 : 0 ≤ a) (h1 : a ≤ 65535) (g0 : 0 ≤ b) (g1 : b ≤ 65535) (w : World) : Calls Try.prog 10 #[.int .i64 a, .int .i64 b] w fun e w' => e = .returned (.tuple #[.int .u64 (linkI a b), .bool true]) ∧ w = w' := by
  have hl := linkI_or a b h0 h1 g0 g1
  have hl' : b * 131072 + a + 1 = linkI a b := rfl
  go_enter Try.func10, Try.ntmps10
  go_wp2
  go_ret2
  exact ⟨rfl, rfl⟩
theorem linkw_no (a b : Int) (wa : -9223372036854775808 ≤ a) (wa' : a ≤ 9223372036854775807) (wb : -9223372036854775808 ≤ b) (wb' : b ≤ 9223372036854775807) (h : a < 0 ∨ 65535 < a ∨ b < 0 ∨ 65535 < b) (w : World) : Calls Try.prog 10 #[.int .i64 a, .int .i64 b] w fun e w' => e = .returned (.tuple #[.int .u64 0, .bool false]) ∧ w = w' := by
  by_cases h1 : a < 0
  · clear h
    go_enter Try.func10, Try.ntmps10
    go_wp2
    go_ret2
    exact ⟨rfl, rfl⟩
  · by_cases h2 : 65535 < a
    · clear h
      go_enter Try.func10, Try.ntmps10
      go_wp2
      go_ret2
      exact ⟨rfl, rfl⟩
    · by_cases h3 : b < 0
      · clear h
        go_enter Try.func10, Try.ntmps10
        go_wp2
        go_ret2
        exact ⟨rfl, rfl⟩
      · have h4 : 65535 < b := by omega
        clear h
        go_enter Try.func10, Try.ntmps10
        go_wp2
        go_ret2
        exact ⟨rfl, rfl⟩
theorem timew_any (a : Int) (h0 : 0 ≤ a) (h1 : a ≤ 18446744073709551615) (w : World) : Calls Try.prog 4 #[.int .u64 a] w fun e w' => e = .returned (.tuple #[.int .u64 (timeW a), .bool (timeB a)]) ∧ w = w' := by
  by_cases h : a ≤ 1099511627776
  · rw [timeW_yes a h, timeB_yes a h]
    go_enter Try.func4, Try.ntmps4
    go_wp2
    go_ret2
    exact ⟨rfl, rfl⟩
  · have h : 1099511627776 < a := by omega
    rw [timeW_no a h, timeB_no a h]
    go_enter Try.func4, Try.ntmps4
    go_wp2
    go_ret2
    exact ⟨rfl, rfl⟩
theorem foreverw_any (w : World) : Calls Try.prog 6 #[] w fun e w' => e = .returned (.int .u64 2305843009213693952) ∧ w = w' := by
  go_enter Try.func6, Try.ntmps6
  go_wp2
  go_ret
  exact ⟨rfl, rfl⟩
theorem readw_any (a : Int) (h0 : 0 ≤ a) (h1 : a ≤ 18446744073709551615) (w : World) : Calls Try.prog 12 #[.int .u64 a] w fun e w' => e = .returned (.agg #[.int .i64 (rdK a), .int .u64 (rdN a)]) ∧ Below w.heap.size w w' := by
  rcases rd_cases a with ⟨h, hk, hn⟩ | ⟨h, hk, hn⟩ | ⟨h, h', hk, hn⟩ | ⟨h, h2, h3, hk, hn⟩
  · rw [hk, hn]; clear hk hn
    go_enter Try.func12, Try.ntmps12
    go_wp2
    exact bodyPost_ret (v := .agg #[.int .i64 1, .int .u64 a]) (by simp [results, Try.results12, go_sem]) rfl ⟨rfl, (Below.refl _ _).alloc (Nat.le_refl _) _⟩
  · rw [hk, hn]; clear hk hn; subst h
    go_enter Try.func12, Try.ntmps12
    go_wp2
    exact bodyPost_ret (v := .agg #[.int .i64 3, .int .u64 0]) (by simp [results, Try.results12, go_sem]) rfl ⟨rfl, (Below.refl _ _).alloc (Nat.le_refl _) _⟩
  · rw [hk, hn]; clear hk hn
    go_enter Try.func12, Try.ntmps12
    go_wp2
    exact bodyPost_ret (v := .agg #[.int .i64 2, .int .u64 (a - 4611686018427387904)]) (by simp [results, Try.results12, go_sem]) rfl ⟨rfl, (Below.refl _ _).alloc (Nat.le_refl _) _⟩
  · rw [hk, hn]; clear hk hn
    have h2' : (a == 2305843009213693952) = false := by simpa using h2
    rcases h3 with h3 | h3
    · go_enter Try.func12, Try.ntmps12
      go_wp2
      exact bodyPost_ret (v := .agg #[.int .i64 0, .int .u64 0]) (by simp [results, Try.results12, go_sem]) rfl ⟨rfl, (Below.refl _ _).alloc (Nat.le_refl _) _⟩
    · go_enter Try.func12, Try.ntmps12
      go_wp2
      exact bodyPost_ret (v := .agg #[.int .i64 0, .int .u64 0]) (by simp [results, Try.results12, go_sem]) rfl ⟨rfl, (Below.refl _ _).alloc (Nat.le_refl _) _⟩
theorem txnu_any (a : Int) (h0 : 0 ≤ a) (h1 : a ≤ 18446744073709551615) (w : World) : Calls Try.prog 9 #[.int .u64 a] w fun e w' => e = .returned (.tuple #[.int .u64 (txnW a), .bool (txnB a)]) ∧ w = w' := by
  rcases txn_cases a with ⟨h, h', hk, hn⟩ | ⟨h, hk, hn⟩ | ⟨h, hk, hn⟩
  all_goals
    rw [hk, hn]; clear hk hn
    go_enter Try.func9, Try.ntmps9
    go_wp2
    go_ret2
    exact ⟨rfl, rfl⟩
theorem txnw_any (a : Int) (h0 : -9223372036854775808 ≤ a) (h1 : a ≤ 9223372036854775807) (w : World) : Calls Try.prog 5 #[.int .i64 a] w fun e w' => e = .returned (.tuple #[.int .u64 (txnW a), .bool (txnB a)]) ∧ w = w' := by
  by_cases h : 0 ≤ a
  · go_enter Try.func5, Try.ntmps5
    go_wp2_with (go_at_call 9; refine (txnu_any a (by omega) (by omega) _).mono ?_; rintro e w' ⟨rfl, rfl⟩)
    go_ret2
    exact ⟨rfl, rfl⟩
  · have h : a < 0 := by omega
    have hw : IntKind.u64.wrap a = a + 18446744073709551616 := by rw [IntKind.wrap_u64]; omega
    have e1 : txnW a = txnW (a + 18446744073709551616) := by unfold txnW; rw [if_neg (by omega), if_neg (by omega)]
    have e2 : txnB a = txnB (a + 18446744073709551616) := by unfold txnB; rw [decide_eq_false (by omega), decide_eq_false (by omega)]
    rw [e1, e2]; clear e1 e2
    go_enter Try.func5, Try.ntmps5
    go_wp2_with (go_at_call 9; refine (txnu_any (a + 18446744073709551616) (by omega) (by omega) _).mono ?_; rintro e w' ⟨rfl, rfl⟩)
    go_ret2
    exact ⟨rfl, rfl⟩
end Go.Proofs.Ytipcbchjpckamab
