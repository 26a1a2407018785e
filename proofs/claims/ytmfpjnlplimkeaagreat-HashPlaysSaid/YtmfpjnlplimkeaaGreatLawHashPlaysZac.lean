/- Contracts of the functions of package word, and of the document's own answer for layer 1: what each returns, for every 64-bit word and every int; conditions: each number fits its kind. -/
import Derived.Test.YtmfpjnlplimkeaaGreatRows
import Derived.Test.YtmfpjnlplimkeaaGreatLawHashPlaysZaa
import Derived.WalkKit
import Derived.ProofKit
import Derived.OpenShut
import Derived.WalkLawsBesides
import Derived.Below
namespace Go.Proofs.YtmfpjnlplimkeaaGreat
open Go.ChangeShapes Go.WideShapes Go.ChangeAt Go.RowKit
set_option linter.unusedVariables false

theorem unlink_any (a : Int) (h0 : 0 ≤ a) (h1 : a ≤ 18446744073709551615) (w : World) : Calls Tryz.prog 51 #[.int .u64 a] w fun e w' => e = .returned (.tuple #[.int .i64 (uslot a), .int .i64 (utag a), .bool (mkd a)]) ∧ w = w' := by
  have hb := bit40_ne a h0 h1
  have hs := u64_mask17 a h0 h1
  have ht := u64_mask16 (a / 131072) (by omega) (by omega)
  have es : wrap64 (a % 131072) = a % 131072 := by unfold wrap64; omega
  have es1 : wrap64 (a % 131072 - 1) = uslot a := by unfold wrap64 uslot; omega
  have et : wrap64 (a / 131072 % 65536) = utag a := by unfold wrap64 utag; omega
  go_enter Tryz.func51, Tryz.ntmps51
  go_wp2
  go_ret3
  exact ⟨rfl, rfl⟩
theorem linkw_ok (a b : Int) (h0 : 0 ≤ a) (h1 : a ≤ 65535) (g0 : 0 ≤ b) (g1 : b ≤ 65535) (w : World) : Calls Tryz.prog 64 #[.int .i64 a, .int .i64 b] w fun e w' => e = .returned (.tuple #[.int .u64 (linkI a b), .bool true]) ∧ w = w' := by
  have hl := linkI_or a b h0 h1 g0 g1
  have hl' : b * 131072 + a + 1 = linkI a b := rfl
  go_enter Tryz.func64, Tryz.ntmps64
  go_wp2
  go_ret2
  exact ⟨rfl, rfl⟩
theorem linkw_no (a b : Int) (wa : -9223372036854775808 ≤ a) (wa' : a ≤ 9223372036854775807) (wb : -9223372036854775808 ≤ b) (wb' : b ≤ 9223372036854775807) (h : a < 0 ∨ 65535 < a ∨ b < 0 ∨ 65535 < b) (w : World) : Calls Tryz.prog 64 #[.int .i64 a, .int .i64 b] w fun e w' => e = .returned (.tuple #[.int .u64 0, .bool false]) ∧ w = w' := by
  by_cases h1 : a < 0
  · clear h
    go_enter Tryz.func64, Tryz.ntmps64
    go_wp2
    go_ret2
    exact ⟨rfl, rfl⟩
  · by_cases h2 : 65535 < a
    · clear h
      go_enter Tryz.func64, Tryz.ntmps64
      go_wp2
      go_ret2
      exact ⟨rfl, rfl⟩
    · by_cases h3 : b < 0
      · clear h
        go_enter Tryz.func64, Tryz.ntmps64
        go_wp2
        go_ret2
        exact ⟨rfl, rfl⟩
      · have h4 : 65535 < b := by omega
        clear h
        go_enter Tryz.func64, Tryz.ntmps64
        go_wp2
        go_ret2
        exact ⟨rfl, rfl⟩
end Go.Proofs.YtmfpjnlplimkeaaGreat
