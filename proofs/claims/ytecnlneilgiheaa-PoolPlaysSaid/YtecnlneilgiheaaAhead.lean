/- What a call answers, and leaves, of the package's Pool and of the document's own, which are in one state: decided ahead of a walk; condition: a state that calls can bring about. -/
import Derived.Test.YtecnlneilgiheaaBoth
namespace Go.Proofs.Ytecnlneilgiheaa
open Go.ChangeShapes Go.WideShapes Go.ChangeAt Go.RowKit
set_option linter.unusedVariables false

def BothTake (r l : Int) (s s' : St) : Prop :=
  (∀ w p S, PoolAt w p S s → Calls Try.prog 9 #[.pointer (some ⟨p, 0, none⟩)] w (PPost (.tuple #[.int .u64 l, .int .i64 r]) p S s' w)) ∧
  (∀ w p b1 b2 v3, RefAt w p b1 b2 v3 s → Calls Try.prog 17 #[.pointer (some ⟨p, 0, none⟩)] w (RPost (.tuple #[.int .u64 l, .int .i64 r]) p b1 b2 v3 s' w))
def BothGive (l r : Int) (s s' : St) : Prop :=
  (∀ w p S, PoolAt w p S s → Calls Try.prog 10 #[.pointer (some ⟨p, 0, none⟩), .int .u64 l] w (PPost (.int .i64 r) p S s' w)) ∧
  (∀ w p b1 b2 v3, RefAt w p b1 b2 v3 s → Calls Try.prog 18 #[.pointer (some ⟨p, 0, none⟩), .int .u64 l] w (RPost (.int .i64 r) p b1 b2 v3 s' w))
def BothLive (l : Int) (b : Bool) (s : St) : Prop :=
  (∀ w p S, PoolAt w p S s → Calls Try.prog 11 #[.pointer (some ⟨p, 0, none⟩), .int .u64 l] w (PPost (.bool b) p S s w)) ∧
  (∀ w p b1 b2 v3, RefAt w p b1 b2 v3 s → Calls Try.prog 19 #[.pointer (some ⟨p, 0, none⟩), .int .u64 l] w fun e w' => e = .returned (.bool b) ∧ w = w')
theorem RPost.still {w w' : World} {p b1 b2 : Nat} {v3 v : Value} {s : St} {e : Ending} (h : RefAt w p b1 b2 v3 s) (he : e = .returned v) (k : Keep (fun _ => False) w w') : RPost v p b1 b2 v3 s w e w' :=
  ⟨he, v3, h.keep k (by simp), k.mono (by simp), fun k hk => .inl hk⟩
theorem take_ahead {s : St} (ok : Ok s) : (∃ l s', 1 ≤ l ∧ l ≤ 8589934592 ∧ Ok s' ∧ BothTake 0 l s s') ∨ BothTake 15 0 s s := by
  have f0 := ok.f0
  have f1 := ok.f1
  rcases List.eq_nil_or_concat s.given with hg | ⟨gs, g, hg⟩
  · by_cases hf : s.fresh = s.tags.length
    · exact .inr ⟨fun w p S h => ptake_full h ok hg hf, fun w p b1 b2 v3 h => (rtake_full h ok hg hf).mono fun e w' ⟨a, d, b⟩ => RPost.still h a (by rw [b]; exact drewN_keep _ _ d)⟩
    · obtain ⟨i, hi⟩ : ∃ i : Nat, s.fresh = i := ⟨s.fresh.toNat, by omega⟩
      have hil : i < s.tags.length := by omega
      have lb := link_b ok i hil
      exact .inl ⟨_, _, lb.1, lb.2, (ok_takeFresh ok hi hil).2, fun w p S h => ptake_fresh h ok hg i hi hil, fun w p b1 b2 v3 h => rtake_fresh h ok hg i hi hil⟩
  · have hg : s.given = gs ++ [g] := by simpa using hg
    have hm := ok.gv g (by rw [hg]; simp)
    have hg : s.given = gs ++ [((g.toNat : Nat) : Int)] := by rw [hg]; simp; omega
    obtain ⟨hi, hk, ok'⟩ := ok_takeGiven ok hg
    have lb := link_b ok g.toNat hi
    exact .inl ⟨_, _, lb.1, lb.2, ok', fun w p S h => ptake_given h ok gs g.toNat hg, fun w p b1 b2 v3 h => rtake_given h ok gs g.toNat hg hi⟩
theorem give_ahead {s : St} (ok : Ok s) (l : Int) (h0 : 0 ≤ l) (h1 : l ≤ 18446744073709551615) : ∃ r s', 0 ≤ r ∧ r ≤ 8 ∧ Ok s' ∧ BothGive l r s s' := by
  cases hl : s.live l with
  | false => exact ⟨8, s, by omega, by omega, ok, fun w p S h => pgive_no h ok l h0 h1 hl, fun w p b1 b2 v3 h => (rgive_no h ok l h0 h1 hl).mono fun e w' ⟨a, b⟩ => RPost.still h a (by rw [← b]; exact Keep.refl _ _)⟩
  | true =>
    obtain ⟨i, hi, ht, rfl, _⟩ := (live_iff _ _).1 hl
    have tgi := ok.tg i
    by_cases hm : s.tag i = s.most
    · exact ⟨0, _, by omega, by omega, ok_wear ok hi ht, fun w p S h => pgive_wear h ok i hi ht hm, fun w p b1 b2 v3 h => rgive_wear h ok i hi ht hm⟩
    · have hm : s.tag i < s.most := by omega
      exact ⟨0, _, by omega, by omega, ok_give ok hi ht hm, fun w p S h => pgive_ok h ok i hi ht hm, fun w p b1 b2 v3 h => rgive_ok h ok i hi ht hm⟩
theorem live_ahead {s : St} (ok : Ok s) (l : Int) (h0 : 0 ≤ l) (h1 : l ≤ 18446744073709551615) : ∃ b, BothLive l b s := by
  cases hl : s.live l with
  | false => exact ⟨false, fun w p S h => plive_no h ok l h0 h1 hl, fun w p b1 b2 v3 h => rlive_no h ok l h0 h1 hl⟩
  | true =>
    obtain ⟨i, hi, ht, rfl, _⟩ := (live_iff _ _).1 hl
    exact ⟨true, fun w p S h => plive_yes h ok i hi ht, fun w p b1 b2 v3 h => rlive_yes h ok i hi ht⟩
end Go.Proofs.Ytecnlneilgiheaa
