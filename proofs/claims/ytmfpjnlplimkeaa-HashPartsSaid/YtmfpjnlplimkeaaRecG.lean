/- Package rec: Set, Next, Begin, End, Make; conditions: the Store is one that calls have made of an empty one, its count of accesses is at most 2^62, the words are of 64 bits. -/
import Derived.Test.YtmfpjnlplimkeaaRecF
namespace Go.Proofs.Ytmfpjnlplimkeaa
open Go.ChangeShapes Go.WideShapes Go.ChangeAt Go.RowKit
set_option linter.unusedVariables false

section
variable {w : World} {p pp pa qa : Nat} {Sp : Nat → Prop} {c : Int} {zs : List Int} {s : RS}
/-- The slot of a link that is live: its words lie in the Arena. -/
theorem VCore.word (h : VCore w p pp Sp pa qa c zs s) (ok : ROk s) {l : Int} (hd : s.s.live l = true) (j : Nat) (hj : j < 5) : slotOf l * 5 + j < zs.length ∧ zs.getD (slotOf l * 5 + j) 0 = (s.ver (slotOf l)).f j ∧ slotOf l * 5 + j ≤ 20480 := by
  have hi := (slot_live hd).1
  have e := ok.l
  have n1 := ok.p.n1
  refine ⟨by rw [h.lay.len]; omega, h.lay.c _ _ (by omega) hj, by omega⟩
theorem VCore.put (h : VCore w p pp Sp pa qa c zs s) {w' : World} (i j : Nat) (hi : i < s.r.length) (hj : j < 5) (x : Int) (y : Ver) (hy : ∀ m, m < 5 → y.f m = if m = j then x else (s.ver i).f m) {s' : RS} (es : s'.s = s.s) (er : s'.r = s.r.set i y) (ec : s.c + 1 ≤ s'.c) (ha : Ar w' pa qa (zs.set (i * 5 + j) x) (c + 1)) (k : Keep (Two pa qa) w w') : VCore w' p pp Sp pa qa (c + 1) (zs.set (i * 5 + j) x) s' :=
  h.arena ha k (by rw [er]; exact h.lay.set i j hi hj x y hy) es (by have := h.n0; omega) (by have := h.n1; omega)
end
section
variable {w : World} {p : Nat} {S : Nat → Prop} {s : RS}
end
end Go.Proofs.Ytmfpjnlplimkeaa
