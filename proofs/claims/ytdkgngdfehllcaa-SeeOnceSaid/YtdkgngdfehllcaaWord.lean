/- Contracts of the functions of package word, and of the document's own answer for layer 1: what each returns, for every 64-bit word and every int; conditions: each number fits its kind. -/
import Derived.Test.YtdkgngdfehllcaaRows
import Derived.Test.YtdkgngdfehllcaaBits
import Derived.WalkKit
import Derived.ProofKit
import Derived.OpenShut
import Derived.WalkLawsBesides
import Derived.Below
namespace Go.Proofs.Ytdkgngdfehllcaa
open Go.ChangeShapes Go.WideShapes Go.ChangeAt Go.RowKit
set_option linter.unusedVariables false

theorem readw_any (a : Int) (h0 : 0 ≤ a) (h1 : a ≤ 18446744073709551615) (w : World) : Calls Try.prog 43 #[.int .u64 a] w fun e w' => e = .returned (.agg #[.int .i64 (rdK a), .int .u64 (rdN a)]) ∧ Below w.heap.size w w' := by
  rcases rd_cases a with ⟨h, hk, hn⟩ | ⟨h, hk, hn⟩ | ⟨h, h', hk, hn⟩ | ⟨h, h2, h3, hk, hn⟩
  · rw [hk, hn]; clear hk hn
    go_enter Try.func43, Try.ntmps43
    go_wp2
    exact bodyPost_ret (v := .agg #[.int .i64 1, .int .u64 a]) (by simp [results, Try.results43, go_sem]) rfl ⟨rfl, (Below.refl _ _).alloc (Nat.le_refl _) _⟩
  · rw [hk, hn]; clear hk hn; subst h
    go_enter Try.func43, Try.ntmps43
    go_wp2
    exact bodyPost_ret (v := .agg #[.int .i64 3, .int .u64 0]) (by simp [results, Try.results43, go_sem]) rfl ⟨rfl, (Below.refl _ _).alloc (Nat.le_refl _) _⟩
  · rw [hk, hn]; clear hk hn
    go_enter Try.func43, Try.ntmps43
    go_wp2
    exact bodyPost_ret (v := .agg #[.int .i64 2, .int .u64 (a - 4611686018427387904)]) (by simp [results, Try.results43, go_sem]) rfl ⟨rfl, (Below.refl _ _).alloc (Nat.le_refl _) _⟩
  · rw [hk, hn]; clear hk hn
    have h2' : (a == 2305843009213693952) = false := by simpa using h2
    rcases h3 with h3 | h3
    · go_enter Try.func43, Try.ntmps43
      go_wp2
      exact bodyPost_ret (v := .agg #[.int .i64 0, .int .u64 0]) (by simp [results, Try.results43, go_sem]) rfl ⟨rfl, (Below.refl _ _).alloc (Nat.le_refl _) _⟩
    · go_enter Try.func43, Try.ntmps43
      go_wp2
      exact bodyPost_ret (v := .agg #[.int .i64 0, .int .u64 0]) (by simp [results, Try.results43, go_sem]) rfl ⟨rfl, (Below.refl _ _).alloc (Nat.le_refl _) _⟩
theorem foreverr_any (w : World) : Calls Try.prog 17 #[] w fun e w' => e = .returned (.int .u64 2305843009213693952) ∧ w = w' := by
  go_enter Try.func17, Try.ntmps17
  go_wp2
  go_ret
  exact ⟨rfl, rfl⟩
theorem readr_any (a : Int) (h0 : 0 ≤ a) (h1 : a ≤ 18446744073709551615) (w : World) : Calls Try.prog 34 #[.int .u64 a] w fun e w' => e = .returned (.agg #[.int .i64 (rdK a), .int .u64 (rdN a)]) ∧ Below w.heap.size w w' := by
  rcases rd_cases a with ⟨h, hk, hn⟩ | ⟨h, hk, hn⟩ | ⟨h, h', hk, hn⟩ | ⟨h, h2, h3, hk, hn⟩
  · rw [hk, hn]; clear hk hn
    go_enter Try.func34, Try.ntmps34
    go_wp2
    exact bodyPost_ret (v := .agg #[.int .i64 1, .int .u64 a]) (by simp [results, Try.results34, go_sem]) rfl ⟨rfl, (Below.refl _ _).alloc (Nat.le_refl _) _⟩
  · rw [hk, hn]; clear hk hn; subst h
    go_enter Try.func34, Try.ntmps34
    go_wp2
    exact bodyPost_ret (v := .agg #[.int .i64 3, .int .u64 0]) (by simp [results, Try.results34, go_sem]) rfl ⟨rfl, (Below.refl _ _).alloc (Nat.le_refl _) _⟩
  · rw [hk, hn]; clear hk hn
    go_enter Try.func34, Try.ntmps34
    go_wp2
    exact bodyPost_ret (v := .agg #[.int .i64 2, .int .u64 (a - 4611686018427387904)]) (by simp [results, Try.results34, go_sem]) rfl ⟨rfl, (Below.refl _ _).alloc (Nat.le_refl _) _⟩
  · rw [hk, hn]; clear hk hn
    have h2' : (a == 2305843009213693952) = false := by simpa using h2
    rcases h3 with h3 | h3
    · go_enter Try.func34, Try.ntmps34
      go_wp2
      exact bodyPost_ret (v := .agg #[.int .i64 0, .int .u64 0]) (by simp [results, Try.results34, go_sem]) rfl ⟨rfl, (Below.refl _ _).alloc (Nat.le_refl _) _⟩
    · go_enter Try.func34, Try.ntmps34
      go_wp2
      exact bodyPost_ret (v := .agg #[.int .i64 0, .int .u64 0]) (by simp [results, Try.results34, go_sem]) rfl ⟨rfl, (Below.refl _ _).alloc (Nat.le_refl _) _⟩
end Go.Proofs.Ytdkgngdfehllcaa
