/- The contracts of package pool once more, as the laws call them: a Pool together with what is promised of its state; and the statement's helper awake. -/
import Derived.Test.YtecnlneilgiheaaPoolC
import Derived.Test.YtecnlneilgiheaaWord
namespace Go.Proofs.Ytecnlneilgiheaa
open Go.ChangeShapes Go.WideShapes Go.ChangeAt Go.RowKit
set_option linter.unusedVariables false

theorem pkeep_ge {S S' : Nat → Prop} {w w' : World} {B : Nat} (k : Keep S w w') (h : ∀ k, S k → B ≤ k) (hB : B ≤ w.heap.size) (h' : ∀ k, S' k → S k ∨ w.heap.size ≤ k) : Below B w w' ∧ ∀ k, S' k → B ≤ k :=
  ⟨k.below hB h, fun j hj => by rcases h' j hj with h1 | h1; exact h j h1; omega⟩
section
variable {w : World} {p : Nat} {S : Nat → Prop} {s : St}
theorem pt_given (h : PoolAt w p S s) (ok : Ok s) (gs : List Int) (i : Nat) (hg : s.given = gs ++ [(i : Int)]) (l : Int) (hl : s.link i = l) (s' : St) (hs : { s with taken := s.taken.set i true, given := gs } = s') :
    Calls Try.prog 9 #[.pointer (some ⟨p, 0, none⟩)] w (PPost (.tuple #[.int .u64 l, .int .i64 0]) p S s' w) := by subst hl; subst hs; exact ptake_given h ok gs i hg
theorem pt_fresh (h : PoolAt w p S s) (ok : Ok s) (hg : s.given = []) (i : Nat) (hi : s.fresh = i) (hf : i < s.tags.length) (l : Int) (hl : s.link i = l) (s' : St) (hs : { s with taken := s.taken.set i true, fresh := (i : Int) + 1 } = s') :
    Calls Try.prog 9 #[.pointer (some ⟨p, 0, none⟩)] w (PPost (.tuple #[.int .u64 l, .int .i64 0]) p S s' w) := by subst hl; subst hs; exact ptake_fresh h ok hg i hi hf
theorem pg_wear (h : PoolAt w p S s) (ok : Ok s) (i : Nat) (hi : i < s.tags.length) (ht : s.tk i = true) (hm : s.tag i = s.most) (l : Int) (hl : s.link i = l) (s' : St) (hs : { s with taken := s.taken.set i false, worn := s.worn + 1 } = s') :
    Calls Try.prog 10 #[.pointer (some ⟨p, 0, none⟩), .int .u64 l] w (PPost (.int .i64 0) p S s' w) := by subst hl; subst hs; exact pgive_wear h ok i hi ht hm
theorem pg_ok (h : PoolAt w p S s) (ok : Ok s) (i : Nat) (hi : i < s.tags.length) (ht : s.tk i = true) (hm : s.tag i < s.most) (l : Int) (hl : s.link i = l) (s' : St) (hs : { s with taken := s.taken.set i false, tags := s.tags.set i (s.tag i + 1), given := s.given ++ [(i : Int)] } = s') :
    Calls Try.prog 10 #[.pointer (some ⟨p, 0, none⟩), .int .u64 l] w (PPost (.int .i64 0) p S s' w) := by subst hl; subst hs; exact pgive_ok h ok i hi ht hm
theorem pl_yes (h : PoolAt w p S s) (ok : Ok s) (i : Nat) (hi : i < s.tags.length) (ht : s.tk i = true) (l : Int) (hl : s.link i = l) :
    Calls Try.prog 11 #[.pointer (some ⟨p, 0, none⟩), .int .u64 l] w (PPost (.bool true) p S s w) := by subst hl; exact plive_yes h ok i hi ht
theorem pu_to (h : PoolAt w p S s) (ok : Ok s) (n : Int) (hn : cnt s.taken = n) : Calls Try.prog 12 #[.pointer (some ⟨p, 0, none⟩)] w (PPost (.int .i64 n) p S s w) := by subst hn; exact pused_any h ok
theorem pf_to (h : PoolAt w p S s) (ok : Ok s) (n : Int) (hn : (s.given.length : Int) + s.tags.length - s.fresh = n) : Calls Try.prog 13 #[.pointer (some ⟨p, 0, none⟩)] w (PPost (.int .i64 n) p S s w) := by subst hn; exact pfree_any h ok
theorem pw_to (h : PoolAt w p S s) (ok : Ok s) (n : Int) (hn : s.worn = n) : Calls Try.prog 15 #[.pointer (some ⟨p, 0, none⟩)] w (PPost (.int .i64 n) p S s w) := by subst hn; exact pworn_any h ok
theorem unlink_to (a s t : Int) (m : Bool) (h0 : 0 ≤ a) (h1 : a ≤ 18446744073709551615) (hs : uslot a = s) (ht : utag a = t) (hm : mkd a = m) (w : World) : Calls Try.prog 25 #[.int .u64 a] w fun e w' => e = .returned (.tuple #[.int .i64 s, .int .i64 t, .bool m]) ∧ w = w' := by
  subst hs; subst ht; subst hm; exact unlink_any a h0 h1 w
end

def AwakeP (w : World) (e : Ending) (w' : World) : Prop := e = .returned (.bool true) ∧ Below w.heap.size w w'
set_option maxHeartbeats 1000000 in
theorem awake3_any (w : World) : Calls Try.prog 14 #[] w (AwakeP w) := by
  have ok1 : Ok ⟨9, [0, 0, 0], [false, false, false], [], 0, 0⟩ := ok_new 3 9 (by omega) (by omega) (by omega) (by omega)
  have ok2 : Ok ⟨9, [0, 0, 0], [true, false, false], [], 1, 0⟩ := (ok_takeFresh ok1 (i := 0) rfl (by simp)).2
  have ok3 : Ok ⟨9, [1, 0, 0], [false, false, false], [0], 1, 0⟩ := ok_give ok2 (i := 0) (by simp) rfl (by simp [St.tag])
  have ok4 : Ok ⟨9, [1, 0, 0], [true, false, false], [], 1, 0⟩ := (ok_takeGiven ok3 (gs := []) (i := 0) rfl).2.2
  go_enter Try.func14, Try.ntmps14
  go_wp2_with fail
  refine (pnew_ok 3 9 _ (by omega) (by omega) (by omega) (by omega)).mono ?_
  rintro e w1 ⟨p, S1, rfl, h1, g1, b1⟩
  have h1 : PoolAt w1 p S1 ⟨9, [0, 0, 0], [false, false, false], [], 0, 0⟩ := h1
  go_wp2_with fail
  refine (pt_fresh h1 ok1 rfl 0 rfl (by simp) 1 (by rfl) ⟨9, [0, 0, 0], [true, false, false], [], 1, 0⟩ rfl).mono ?_
  rintro e w2 ⟨rfl, S2, h2, k2, g2⟩; obtain ⟨b2, g2⟩ := pkeep_ge k2 g1 b1.size g2; have b2 := b1.trans b2; clear k2 h1 g1 b1
  go_wp2_with fail
  refine (pg_ok h2 ok2 0 (by simp) rfl (by simp [St.tag]) 1 (by rfl) ⟨9, [1, 0, 0], [false, false, false], [0], 1, 0⟩ rfl).mono ?_
  rintro e w3 ⟨rfl, S3, h3, k3, g3⟩; obtain ⟨b3, g3⟩ := pkeep_ge k3 g2 b2.size g3; have b3 := b2.trans b3; clear k3 h2 g2 b2
  go_wp2_with fail
  refine (pt_given h3 ok3 [] 0 rfl 131073 (by rfl) ⟨9, [1, 0, 0], [true, false, false], [], 1, 0⟩ rfl).mono ?_
  rintro e w4 ⟨rfl, S4, h4, k4, g4⟩; obtain ⟨b4, g4⟩ := pkeep_ge k4 g3 b3.size g4; have b4 := b3.trans b4; clear k4 h3 g3 b3
  go_wp2_with fail
  refine (unlink_to 131073 0 1 false (by omega) (by omega) (by decide) (by decide) (by decide) _).mono ?_
  rintro e w' ⟨rfl, rfl⟩
  go_wp2_with fail
  refine (plive_no h4 ok4 1 (by omega) (by omega) (by decide)).mono ?_
  rintro e w5 ⟨rfl, S5, h5, k5, g5⟩; obtain ⟨b5, g5⟩ := pkeep_ge k5 g4 b4.size g5; have b5 := b4.trans b5; clear k5 h4 g4 b4
  go_wp2_with fail
  refine (pl_yes h5 ok4 0 (by simp) rfl 131073 (by rfl)).mono ?_
  rintro e w6 ⟨rfl, S6, h6, k6, g6⟩; obtain ⟨b6, g6⟩ := pkeep_ge k6 g5 b5.size g6; have b6 := b5.trans b6; clear k6 h5 g5 b5
  go_wp2
  go_ret
  exact ⟨rfl, b6⟩
end Go.Proofs.Ytecnlneilgiheaa
