/- Contracts of word.Of, word.Before, the document's own answer for both, and of the statement's helper awake: what each returns, for every stamp and every two words; conditions: each number fits its kind. -/
import Derived.Test.YtipcbchjpckamabWord
import Derived.Lib.Hide
namespace Go.Proofs.Ytipcbchjpckamab
open Go.ChangeShapes Go.WideShapes Go.ChangeAt Go.RowKit
set_option linter.unusedVariables false

theorem below_two {w w1 w2 : World} (b1 : Below w.heap.size w w1) (b2 : Below w1.heap.size w1 w2) (o o' : Obj) : Below w.heap.size w ((w2.alloc o).alloc o') := by
  have h1 := b1.size
  have h2 := b2.size
  exact ((b1.trans (b2.mono h1)).alloc (by omega) _).alloc (by simp; omega) _
theorem beforew_any (a b : Int) (h0 : 0 ≤ a) (h1 : a ≤ 18446744073709551615) (g0 : 0 ≤ b) (g1 : b ≤ 18446744073709551615) (w : World) : Calls Try.prog 7 #[.int .u64 a, .int .u64 b] w fun e w' => e = .returned (.bool (befI a b)) ∧ w = w' := by
  rcases bef_cases a b with ⟨h, hk⟩ | ⟨h, h2, hk⟩ | ⟨h, h2, h3, hk⟩ | ⟨h, h2, h3, h4, hk⟩ | ⟨h, h2, h3, h4, hk⟩
  · rw [hk]; clear hk
    go_enter Try.func7, Try.ntmps7
    go_wp2
    go_ret
    exact ⟨rfl, rfl⟩
  · rw [hk]; clear hk; subst h2
    go_enter Try.func7, Try.ntmps7
    go_wp2
    go_ret
    exact ⟨rfl, rfl⟩
  all_goals
    rw [hk]; clear hk
    have h2' : (b == 2305843009213693952) = false := by simpa using h2
    go_enter Try.func7, Try.ntmps7
    go_wp2
    go_ret
    exact ⟨rfl, rfl⟩
theorem awake1_any (w : World) : Calls Try.prog 8 #[] w fun e w' => e = .returned (.bool true) ∧ Below w.heap.size w w' := by
  have hl : linkI 3 2 = 262148 := by decide
  have hs : uslot 262148 = 3 := by decide
  have ht : utag 262148 = 2 := by decide
  have hm : mkd 262148 = false := by decide
  have hw : txnW 5 = 4611686018427387909 := by decide
  have hv : txnB 5 = true := by decide
  have k1 : rdK 2305843009213693952 = 3 := by decide
  have n1 : rdN 2305843009213693952 = 0 := by decide
  have k2 : rdK 4611686018427387909 = 2 := by decide
  have n2 : rdN 4611686018427387909 = 5 := by decide
  go_enter Try.func8, Try.ntmps8
  go_wp2_with (first | (go_at_call 5; refine (txnw_any _ (by decide) (by decide) _).mono ?_; rintro e w' ⟨rfl, rfl⟩) | (go_at_call 10; refine (linkw_ok _ _ (by decide) (by decide) (by decide) (by decide) _).mono ?_; rintro e w' ⟨rfl, rfl⟩) | (go_at_call 11; refine (unlink_any _ (by decide) (by decide) _).mono ?_; rintro e w' ⟨rfl, rfl⟩) | (go_at_call 6; refine (foreverw_any _).mono ?_; rintro e w' ⟨rfl, rfl⟩) | (go_at_call 12; fail))
  refine (readw_any _ (by decide) (by decide) _).mono ?_; rintro e w1 ⟨rfl, b1⟩
  go_wp2_with (fail)
  refine (readw_any _ (by decide) (by decide) _).mono ?_; rintro e w2 ⟨rfl, b2⟩
  go_wp2
  go_ret
  exact ⟨rfl, b1.trans (b2.mono b1.size)⟩
end Go.Proofs.Ytipcbchjpckamab
