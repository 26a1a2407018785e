/- Package rec: first, isKey, isValue; New, Free, Used, Links; conditions: the Store is one that calls have made of an empty one, its count of accesses is below 2^62. -/
import Derived.Test.YtmfpjnlplimkeaaRecV
namespace Go.Proofs.Ytmfpjnlplimkeaa
open Go.ChangeShapes Go.WideShapes Go.ChangeAt Go.RowKit
set_option linter.unusedVariables false

section
variable {w : World} {p pp pa qa : Nat} {Sp : Nat → Prop} {c : Int} {zs : List Int} {s : RS}
end
section
variable {w : World} {p : Nat} {S : Nat → Prop} {s : RS}
end
theorem vnew_no (n : Int) (w : World) (h : n < 1 ∨ 4096 < n) : Calls Try.prog 4 #[.int .i64 n] w fun e w' => e = .returned (.tuple #[.pointer none, .int .i64 1]) ∧ Below w.heap.size w w' := by
  have hN := pnew_no n 65535 w (by omega)
  go_enter Try.func4, Try.ntmps4
  go_wp2_with fail
  refine hN.mono ?_
  rintro e w1 ⟨rfl, rfl⟩
  go_wp2
  go_ret2
  exact ⟨rfl, Below.refl _ _⟩
set_option maxRecDepth 100000 in
theorem vnew_ok (n : Nat) (w : World) (h0 : 1 ≤ n) (h1 : n ≤ 4096) : Calls Try.prog 4 #[.int .i64 n] w (VNewP n w) := by
  have ec : IntKind.i64.wrap ((n : Int) * 5) = ((n * 5 : Nat) : Int) := by rw [IntWalk.i64_in _ (by omega)]; omega
  go_enter Try.func4, Try.ntmps4
  go_wp2_with fail
  refine (pnew_ok n 65535 w h0 h1 (by omega) (by omega)).mono ?_
  rintro e w1 ⟨pp, Sp, rfl, hp, gp, b1⟩
  go_wp2_with fail
  refine (new_ok (n * 5) _ (by omega) (by omega)).mono ?_
  rintro e w2 ⟨pa, qa, rfl, ha, ga, gq, b2⟩
  go_wp2
  go_ret2
  have s1 := b1.size
  have s2 := b2.size
  have k := Keep.alloc (Keep.refl (fun _ => False) w2) (.cells #[.pointer (some ⟨pp, 0, none⟩), .pointer (some ⟨pa, 0, none⟩)] 46)
  have la := ha.lt
  have lq := ha.ws.lt
  have hp2 := hp.keep (Keep.of_below b2 (fun _ => False)) (by simp)
  refine ⟨w2.heap.size, VFoot w2.heap.size pa qa Sp, rfl, ⟨pp, Sp, pa, qa, 0, _, ⟨by simp, by simp, hp2.keep k (by simp), ha.keep k (by simp) (by simp), lay_new n, by omega, by simp [RS.new], fun x => ?_, fun x => ?_, fun x => ?_, by omega, by omega⟩, fun k => Iff.rfl⟩, fun x hx => ?_, ?_⟩
  · have := hp2.lt _ x; omega
  · have := hp.lt _ x; omega
  · have := hp.lt _ x; omega
  · rcases hx with rfl | hx | rfl | rfl
    · omega
    · exact gp _ hx
    · omega
    · omega
  · exact (b1.trans (b2.mono s1)).trans (k.below (by omega) (by simp))
end Go.Proofs.Ytmfpjnlplimkeaa
