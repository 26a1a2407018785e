/- Package rec: Make; conditions: the Store is one that calls have made of an empty one, its count of accesses is at most 2^62, the words are of 64 bits. -/
import Derived.Test.YtmfpjnlplimkeaaRecG
namespace Go.Proofs.Ytmfpjnlplimkeaa
open Go.ChangeShapes Go.WideShapes Go.ChangeAt Go.RowKit
set_option linter.unusedVariables false

theorem VCore.put2 {w w' : World} {p pp pa qa : Nat} {Sp : Nat → Prop} {c : Int} {zs : List Int} {s : RS} (h : VCore w p pp Sp pa qa c zs s) (i j : Nat) (hi : i < s.r.length) (hj : j < 5) (x : Int) (y0 y : Ver) (hv : s.ver i = y0) (hy : ∀ m, m < 5 → y.f m = if m = j then x else y0.f m) (ha : Ar w' pa qa (zs.set (i * 5 + j) x) (c + 1)) (k : Keep (Two pa qa) w w') :
    VCore w' p pp Sp pa qa (c + 1) (zs.set (i * 5 + j) x) ⟨s.s, s.r.set i y, s.c + 1⟩ ∧ RS.ver ⟨s.s, s.r.set i y, s.c + 1⟩ i = y :=
  ⟨h.put i j hi hj x y (by rw [hv]; exact hy) rfl rfl (Int.le_refl _) ha k, by rw [show RS.ver ⟨s.s, s.r.set i y, s.c + 1⟩ i = (s.r.set i y).getD i ⟨0, 0, 0, 0, 0⟩ from rfl, RS.ver_set s i i y hi, if_pos rfl]⟩
section
variable {w : World} {p : Nat} {S : Nat → Prop} {s : RS}
end
end Go.Proofs.Ytmfpjnlplimkeaa
