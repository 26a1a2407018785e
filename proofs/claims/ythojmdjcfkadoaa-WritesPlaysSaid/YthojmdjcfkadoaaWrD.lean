/- A set of writes, as layer 14's statements walk with it: the contracts of package writes, out of XWrM to XWrW; SamePairs, and the statements' helpers rising and awake. -/
import Derived.Test.YthojmdjcfkadoaaWrT
import Derived.Test.YthojmdjcfkadoaaWrW
namespace Go.Proofs.Ythojmdjcfkadoaa
open Go.ChangeShapes Go.WideShapes Go.ChangeAt Go.RowKit
set_option linter.unusedVariables false

/-- Since W a set of writes t has been made, in new blocks S; it holds s; nothing of W has turned. -/
structure Wr (W w : World) (t : Nat) (S : Nat → Prop) (s : List WrI) : Prop where
  g : ∀ k, S k → W.heap.size ≤ k
  lt : ∀ k, S k → k < w.heap.size
  b : Below W.heap.size W w
  a : ∃ v, WrA w t s v ∧ ∀ j, FootW t v j → S j
section
variable {W w w' : World} {t : Nat} {S S' T : Nat → Prop} {s s' : List WrI}
theorem Wr.own (h : Wr W w t S s) {X : Nat → Prop} (kk : Keep X w w') (hX : ∀ g, X g → ¬ S g ∧ W.heap.size ≤ g) : Wr W w' t S s := by
  obtain ⟨v, a, f⟩ := h.a
  exact ⟨h.g, fun x hx => Nat.lt_of_lt_of_le (h.lt x hx) kk.size, h.b.trans (kk.below h.b.size (fun g hg => (hX g hg).2)), v, a.keep kk (fun j hj hx => (hX j hx).1 (f j hj)), f⟩
theorem Wr.quiet (h : Wr W w t S s) (kk : Keep (fun _ => False) w w') : Wr W w' t S s := h.own kk (fun g hg => hg.elim)
theorem Wr.idle (h : Wr W w t S s) (kk : Keep (fun _ => False) w w') : ∃ S', Wr W w' t S' s ∧ VKeep S S' w w' := ⟨S, h.quiet kk, kk.mono (fun _ e => e.elim), fun _ e => .inl e⟩
theorem Wr.wrote (h : Wr W w t S s) {v : Value} (f : ∀ j, FootW t v j → S j) {x : WrI} (hx : WrittenW w t s v x w') : ∃ S', Wr W w' t S' (setW s x) ∧ VKeep S S' w w' := by
  obtain ⟨v1, a, k, hv⟩ := hx
  refine ⟨fun j => S j ∨ (w.heap.size ≤ j ∧ j < w'.heap.size), ⟨fun j hj => ?_, fun j hj => ?_, h.b.trans (k.below h.b.size (fun j hj => h.g j (f j hj))), v1, a, fun j hj => ?_⟩, k.mono f, fun j hj => ?_⟩
  · rcases hj with hj | hj
    · exact h.g j hj
    · exact Nat.le_trans h.b.size hj.1
  · rcases hj with hj | hj
    · exact Nat.lt_of_lt_of_le (h.lt j hj) k.size
    · exact hj.2
  · rcases hj with hj | hj
    · exact .inl (f j (.inl hj))
    · rcases hv j hj with y | y
      · exact .inl (f j (.inr y))
      · exact .inr ⟨y, a.foot_lt j (.inr hj)⟩
  · rcases hj with hj | hj
    · exact .inl hj
    · exact .inr hj.1
theorem wr_new (hb : Below W.heap.size W w) : Calls Try.prog 7 #[] w fun e w' => ∃ t S, e = .returned (.pointer (some ⟨t, 0, none⟩)) ∧ Wr W w' t S [] ∧ Keep (fun _ => False) w w' ∧ ∀ g, S g → w.heap.size ≤ g := by
  refine (wnew_any w).mono ?_
  rintro e w' ⟨t, rfl, a, k, ht⟩
  refine ⟨t, fun j => j = t, rfl, ⟨fun j hj => by rw [hj]; exact Nat.le_trans hb.size ht, fun j hj => by rw [hj]; exact a.lt, hb.trans (k.below hb.size (fun _ e => e.elim)), _, a, fun j hj => ?_⟩, k, fun j hj => by rw [hj]; exact ht⟩
  rcases hj with hj | hj
  · exact hj
  · cases hj
theorem wr_put (h : Wr W w t S s) (key val : Int) (r : Int) (s' : List WrI) (hs : putI s key val = (r, s')) :
    Calls Try.prog 9 #[.pointer (some ⟨t, 0, none⟩), .int .i64 key, .int .i64 val] w fun e w' => e = .returned (.int .i64 r) ∧ ∃ S', Wr W w' t S' s' ∧ VKeep S S' w w' := by
  obtain ⟨v, a, f⟩ := h.a
  unfold putI at hs
  by_cases hk : key < 0 ∨ 63 < key ∨ val < 0 ∨ 65535 < val
  · rw [if_pos hk] at hs
    cases hs
    refine (wput_bad key val hk).mono ?_
    rintro e w' ⟨rfl, k⟩
    exact ⟨rfl, h.idle k⟩
  · rw [if_neg hk] at hs
    cases hs
    refine (wput_ok a key val (by omega) (by omega) (by omega) (by omega)).mono ?_
    rintro e w' ⟨rfl, F⟩
    exact ⟨rfl, h.wrote f F⟩
theorem wr_drop (h : Wr W w t S s) (key : Int) (r : Int) (s' : List WrI) (hs : dropI s key = (r, s')) :
    Calls Try.prog 8 #[.pointer (some ⟨t, 0, none⟩), .int .i64 key] w fun e w' => e = .returned (.int .i64 r) ∧ ∃ S', Wr W w' t S' s' ∧ VKeep S S' w w' := by
  obtain ⟨v, a, f⟩ := h.a
  unfold dropI at hs
  by_cases hk : key < 0 ∨ 63 < key
  · rw [if_pos hk] at hs
    cases hs
    refine (wdrop_bad key hk).mono ?_
    rintro e w' ⟨rfl, k⟩
    exact ⟨rfl, h.idle k⟩
  · rw [if_neg hk] at hs
    cases hs
    refine (wdrop_ok a key (by omega) (by omega)).mono ?_
    rintro e w' ⟨rfl, F⟩
    exact ⟨rfl, h.wrote f F⟩
theorem wr_get (h : Wr W w t S s) (key : Int) (v : Int) (is wrote : Bool) (hs : getI s key = (v, is, wrote)) :
    Calls Try.prog 15 #[.pointer (some ⟨t, 0, none⟩), .int .i64 key] w fun e w' => e = .returned (.tuple #[.int .i64 v, .bool is, .bool wrote]) ∧ ∃ S', Wr W w' t S' s ∧ VKeep S S' w w' := by
  obtain ⟨v0, a, f⟩ := h.a
  refine (wget_any a key v is wrote hs).mono ?_
  rintro e w' ⟨rfl, k⟩
  exact ⟨rfl, h.idle k⟩
theorem wr_all (h : Wr W w t S s) :
    Calls Try.prog 10 #[.pointer (some ⟨t, 0, none⟩)] w fun e w' => ∃ u S', e = .returned u ∧ OwnW w.heap.size w' u s ∧ (∀ g, u.ownBlock = some g → ¬ S' g) ∧ Wr W w' t S' s ∧ VKeep S S' w w' := by
  obtain ⟨v, a, f⟩ := h.a
  refine (wall_any a).mono ?_
  rintro e w' ⟨u, rfl, o, k⟩
  exact ⟨u, S, rfl, o, fun g hg hS => by have := (OwnW.lt o hg).1; have := h.lt g hS; omega, h.quiet k, k.mono (fun _ e => e.elim), fun _ e => .inl e⟩
theorem wr_over (h : Wr W w t S s) (v : Value) (l : List PrI) (hv : LiesP w v l) (hl : l.length ≤ 1000) (lo hi : Int) :
    Calls Try.prog 12 #[.pointer (some ⟨t, 0, none⟩), v, .int .i64 lo, .int .i64 hi] w fun e w' => ∃ u r S', e = .returned u ∧ OwnP w.heap.size w' u r ∧ (∀ g, u.ownBlock = some g → ¬ S' g) ∧ (Rising l → IsOver s l lo hi r) ∧ (¬ Rising l → r = []) ∧ Wr W w' t S' s ∧ VKeep S S' w w' := by
  obtain ⟨v0, a, f⟩ := h.a
  by_cases hr : Rising l
  · refine (over_ok a hv hr (by omega) lo hi).mono ?_
    rintro e w' ⟨u, r, rfl, o, ok, k⟩
    exact ⟨u, r, S, rfl, o, fun g hg hS => by have := (OwnP.lt o hg).1; have := h.lt g hS; omega, fun _ => ok, fun e => absurd hr e, h.quiet k, k.mono (fun _ e => e.elim), fun _ e => .inl e⟩
  · refine (over_no hv hr (by omega) t lo hi).mono ?_
    rintro e w' ⟨rfl, k⟩
    exact ⟨_, [], S, rfl, World.ownsRow_nil _ _ _ _, fun g hg => (by cases hg), fun e => absurd e hr, fun _ => rfl, h.quiet k, k.mono (fun _ e => e.elim), fun _ e => .inl e⟩
theorem wr_len (h : Wr W w t S s) (n : Int) (hs : (s.length : Int) = n) :
    Calls Try.prog 14 #[.pointer (some ⟨t, 0, none⟩)] w fun e w' => e = .returned (.int .i64 n) ∧ ∃ S', Wr W w' t S' s ∧ VKeep S S' w w' := by
  obtain ⟨v, a, f⟩ := h.a
  subst hs
  refine (wlen_any a).mono ?_
  rintro e w' ⟨rfl, k⟩
  exact ⟨rfl, h.idle k⟩
end
theorem awake14_any (w : World) : Calls Try.prog 13 #[] w fun e w' => e = .returned (.bool true) ∧ Below w.heap.size w w' := by
  go_enter Try.func13, Try.ntmps13
  go_wp2_with fail
  refine (wr_new (Below.refl _ _)).mono ?_
  rintro e w1 ⟨t, S1, rfl, h1, _, _⟩
  go_wp2_with fail
  refine (wr_put h1 1 5 0 [⟨1, 5, false⟩] (by rfl)).mono ?_
  rintro e w2 ⟨rfl, S2, h2, k2⟩
  go_wp2_with fail
  refine (wr_drop h2 1 0 [⟨1, 0, true⟩] (by rfl)).mono ?_
  rintro e w3 ⟨rfl, S3, h3, k3⟩
  go_wp2_with fail
  refine (wr_get h3 1 0 false true (by rfl)).mono ?_
  rintro e w4 ⟨rfl, S4, h4, k4⟩
  go_wp2_with fail
  refine (wr_len h4 1 (by rfl)).mono ?_
  rintro e w5 ⟨rfl, S5, h5, k5⟩
  go_wp2
  go_ret
  exact ⟨rfl, h5.b⟩
theorem pair_neq (a b : Int) (w : World) : (binOp .neq 31 (.agg #[.int .i64 a, .int .i64 b]) (.agg #[.int .i64 a, .int .i64 b])).run Try.prog w = .ok (.bool false) w := by
  simp [go_sem]
theorem sameP_lies {w : World} {v1 v2 : Value} {l : List PrI} (h1 : LiesP w v1 l) (h2 : LiesP w v2 l) (hl : l.length ≤ 100000) :
    Calls Try.prog 11 #[v1, v2] w fun e w' => e = .returned (.bool true) ∧ ∃ d, w' = w.drewN d := by
  obtain ⟨A1, c1, rfl, _, _, e1⟩ := h1
  obtain ⟨A2, c2, rfl, _, _, e2⟩ := h2
  go_enter Try.func11, Try.ntmps11
  go_wp2
  go_loopw [5] (fun i wr => ∃ k d : Nat, k ≤ l.length ∧ i = .int .i64 k ∧ wr = w.drewN d) (fun i _ => l.length - (intOf i).toNat)
  case atStart => exact ⟨0, 0, Nat.zero_le _, rfl, rfl⟩
  case round =>
    obtain ⟨k, d, hk, rfl, rfl⟩ := hrel
    by_cases hlt : k < l.length
    · obtain ⟨b1, o1, rfl, _, f1⟩ := e1 (by omega)
      obtain ⟨b2, o2, rfl, _, f2⟩ := e2 (by omega)
      obtain ⟨p, hp⟩ : ∃ p, l[k]? = some p := ⟨_, List.getElem?_eq_getElem hlt⟩
      obtain ⟨c0, c1'⟩ := f1 k p hp
      obtain ⟨g0, g1⟩ := f2 k p hp
      obtain ⟨pk, pv⟩ := p
      have wk : IntKind.i64.wrap ((k : Int) + 1) = (k : Int) + 1 := IntWalk.i64_in _ (by omega)
      clear f1 f2 hp e1 e2
      go_wp2_with fail
      go_quiet (fail)
      go_wp2
      go_roundw
      case rel => exact ⟨k + 1, _, by omega, by go_num, rfl⟩
      case measure => simp [intOf]; omega
    · obtain rfl : k = l.length := by omega
      clear e1 e2
      go_wp2
      go_ret
      exact ⟨rfl, d, rfl⟩
theorem rising_yes {w : World} {v : Value} {l : List PrI} (h : LiesP w v l) (hr : Rising l) (hl : l.length ≤ 100000) :
    Calls Try.prog 16 #[v] w fun e w' => e = .returned (.bool true) ∧ ∃ d, w' = w.drewN d := ris_any h true ⟨fun _ => hr, fun _ => rfl⟩ hl
end Go.Proofs.Ythojmdjcfkadoaa
