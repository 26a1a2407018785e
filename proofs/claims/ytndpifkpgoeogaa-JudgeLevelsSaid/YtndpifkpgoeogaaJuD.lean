/- The contracts of package judge as the laws of layer 15 want them. Conditions: those of the set of reads. -/
import Derived.Test.YtndpifkpgoeogaaJuQ
namespace Go.Proofs.Ytndpifkpgoeogaa
open Go.ChangeShapes Go.WideShapes Go.ChangeAt Go.RowKit
set_option linter.unusedVariables false

theorem jkey_any (lv link now : Int) (h1 : U64 link) (h2 : U64 now) (r : Bool) (hs : keyJ lv link now = r) (w : World) : Calls Try.prog 20 #[.int .i64 lv, .int .u64 link, .int .u64 now] w fun e w' => e = .returned (.bool r) ∧ w = w' := judgeP.jkey_p lv link now r hs w
theorem jspan_any (lv : Int) (u v : Value) (xs ys : List Int) (hx : xs.length ≤ 100000) (hy : ys.length ≤ 100000) (r : Bool) (hs : spanJ lv xs ys = r) (w : World) (h1 : Lies w u xs) (h2 : Lies w v ys) : Calls Try.prog 22 #[.int .i64 lv, u, v] w fun e w' => e = .returned (.bool r) ∧ Keep (fun _ => False) w w' := judgeP.jspan_p lv u v xs ys hx hy r hs w h1 h2
section
variable {W w w' : World} {t : Nat} {S S' T : Nat → Prop} {s s' : RdS} {Q : World → (Nat → Prop) → Prop} {N : Int → Int} {SP : Int → Int → List Int} {fv gv : Value}
theorem jneeds_any (h : Rd W w t S s) (lv : Int) :
    Calls Try.prog 19 #[.int .i64 lv, .pointer (some ⟨t, 0, none⟩)] w fun e w' => ∃ v1 v2 S' T, e = .returned (.tuple #[v1, v2]) ∧ OwnN w.heap.size w' v1 (needK lv s) ∧ (∀ g, v1.ownBlock = some g → ¬ S' g ∧ ¬ T g) ∧ OwnSc w.heap.size w' v2 (needS lv s) T ∧ (∀ g, T g → ¬ S' g) ∧ Rd W w' t S' s ∧ VKeep S S' w w' := judgeP.jneeds_p h lv
theorem jall_any (h : Rd W w t S s) (hQ : Q w S) (st : StayJ W t s Q) (hN : IsNow fv W t s Q N) (hS : IsSpn gv W t s Q SP) (lv : Int) (r : Bool) (k : Int) (hs : allJ lv s N SP = (r, k)) :
    Calls Try.prog 12 #[.int .i64 lv, .pointer (some ⟨t, 0, none⟩), fv, gv] w fun e w' => e = .returned (.tuple #[.bool r, .int .i64 k]) ∧ ∃ S', Rd W w' t S' s ∧ VKeep S S' w w' := judgeP.jall_p h hQ st hN hS lv r k hs
theorem jall_nil (lv : Int) (w : World) : Calls Try.prog 12 #[.int .i64 lv, .pointer none, .nilFunc, .nilFunc] w fun e w' => e = .returned (.tuple #[.bool false, .int .i64 (-1)]) ∧ Below w.heap.size w w' := judgeP.jall_nil_p lv w
end
theorem awake15_any (w : World) : Calls Try.prog 13 #[] w fun e w' => e = .returned (.bool true) ∧ Below w.heap.size w w' := by
  go_enter Try.func13, Try.ntmps13
  go_wp2_with fail
  refine (jall_nil 3 w).mono ?_
  rintro e w1 ⟨rfl, b1⟩
  go_wp2_with fail
  refine (jkey_any 2 0 5 ⟨by omega, by omega⟩ ⟨by omega, by omega⟩ true (by rfl) _).mono ?_
  rintro e w2 ⟨rfl, rfl⟩
  go_wp2_with fail
  refine (jkey_any 3 0 5 ⟨by omega, by omega⟩ ⟨by omega, by omega⟩ false (by rfl) _).mono ?_
  rintro e w2 ⟨rfl, rfl⟩
  go_wp2_with fail
  refine (jkey_any 1 3 4 ⟨by omega, by omega⟩ ⟨by omega, by omega⟩ true (by rfl) _).mono ?_
  rintro e w2 ⟨rfl, rfl⟩
  go_wp2
  go_ret
  exact ⟨rfl, b1⟩
end Go.Proofs.Ytndpifkpgoeogaa
