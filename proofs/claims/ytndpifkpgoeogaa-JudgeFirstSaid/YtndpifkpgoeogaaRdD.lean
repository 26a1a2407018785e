/- A set of reads, as layer 13's statements walk with it: the contracts of package reads, out of XRdM to XRdP. -/
import Derived.Test.YtndpifkpgoeogaaRdP
namespace Go.Proofs.Ytndpifkpgoeogaa
open Go.ChangeShapes Go.WideShapes Go.ChangeAt Go.RowKit
set_option linter.unusedVariables false

/-- Since W a set of reads t has been made, in new blocks S; it holds s; nothing of W has turned. -/
structure Rd (W w : World) (t : Nat) (S : Nat → Prop) (s : RdS) : Prop where
  g : ∀ k, S k → W.heap.size ≤ k
  lt : ∀ k, S k → k < w.heap.size
  b : Below W.heap.size W w
  a : ∃ es ps vr vs Z, RdA w t es ps vr vs Z ∧ s.keys = es.map Prod.fst ∧ s.links = es.map Prod.snd ∧ s.scans = ps.map Prod.fst ∧ ∀ j, FootR t vr vs Z j → S j
section
variable {W w w' : World} {t : Nat} {S S' T : Nat → Prop} {s s' : RdS}
theorem Rd.own (h : Rd W w t S s) {X : Nat → Prop} (kk : Keep X w w') (hX : ∀ g, X g → ¬ S g ∧ W.heap.size ≤ g) : Rd W w' t S s := by
  obtain ⟨es, ps, vr, vs, Z, a, h1, h2, h3, f⟩ := h.a
  exact ⟨h.g, fun x hx => Nat.lt_of_lt_of_le (h.lt x hx) kk.size, h.b.trans (kk.below h.b.size (fun g hg => (hX g hg).2)), es, ps, vr, vs, Z, a.keep kk (fun j hj hx => (hX j hx).1 (f j hj)), h1, h2, h3, f⟩
theorem Rd.quiet (h : Rd W w t S s) (kk : Keep (fun _ => False) w w') : Rd W w' t S s := h.own kk (fun g hg => hg.elim)
theorem Rd.idle (h : Rd W w t S s) (kk : Keep (fun _ => False) w w') : ∃ S', Rd W w' t S' s ∧ VKeep S S' w w' := ⟨S, h.quiet kk, kk.mono (fun _ e => e.elim), fun _ e => .inl e⟩
theorem Rd.step (h : Rd W w t S s) {es' : List (Int × Int)} {ps' : List (ScI × Value)} {vr vs vr' vs' : Value} {Z Z' : Nat → Prop} (f : ∀ j, FootR t vr vs Z j → S j) (h' : RdA w' t es' ps' vr' vs' Z') (k : Keep (FootR t vr vs Z) w w')
    (hf : ∀ j, FootR t vr' vs' Z' j → FootR t vr vs Z j ∨ w.heap.size ≤ j) (h1 : s'.keys = es'.map Prod.fst) (h2 : s'.links = es'.map Prod.snd) (h3 : s'.scans = ps'.map Prod.fst) : ∃ S', Rd W w' t S' s' ∧ VKeep S S' w w' := by
  refine ⟨fun j => S j ∨ (w.heap.size ≤ j ∧ j < w'.heap.size), ⟨fun j hj => ?_, fun j hj => ?_, h.b.trans (k.below h.b.size (fun j hj => h.g j (f j hj))), es', ps', vr', vs', Z', h', h1, h2, h3, fun j hj => ?_⟩, k.mono f, fun j hj => ?_⟩
  · rcases hj with hj | hj
    · exact h.g j hj
    · exact Nat.le_trans h.b.size hj.1
  · rcases hj with hj | hj
    · exact Nat.lt_of_lt_of_le (h.lt j hj) k.size
    · exact hj.2
  · rcases hf j hj with y | y
    · exact .inl (f j y)
    · exact .inr ⟨y, h'.foot_lt j hj⟩
  · rcases hj with hj | hj
    · exact .inl hj
    · exact .inr hj.1
/-- A set of reads, made since any world W. -/
theorem rd_made (hb : Below W.heap.size W w) : Calls Try.prog 9 #[] w fun e w' => ∃ t S, e = .returned (.pointer (some ⟨t, 0, none⟩)) ∧ Rd W w' t S RdS.new ∧ Keep (fun _ => False) w w' ∧ ∀ g, S g → w.heap.size ≤ g := by
  refine (new_any w).mono ?_
  rintro e w' ⟨t, rfl, a, k, ht⟩
  refine ⟨t, fun j => j = t, rfl, ⟨fun j hj => by rw [hj]; exact Nat.le_trans hb.size ht, fun j hj => by rw [hj]; exact a.lt, hb.trans (k.below hb.size (fun _ e => e.elim)), [], [], _, _, _, a, rfl, rfl, rfl, fun j hj => ?_⟩, k, fun j hj => by rw [hj]; exact ht⟩
  rcases hj with hj | hj | hj | hj
  · exact hj
  · cases hj
  · cases hj
  · exact hj.elim
theorem rd_new (w : World) : Calls Try.prog 9 #[] w fun e w' => ∃ t S, e = .returned (.pointer (some ⟨t, 0, none⟩)) ∧ Rd w w' t S RdS.new := by
  refine (rd_made (Below.refl _ w)).mono ?_
  rintro e w' ⟨t, S, rfl, h, _, _⟩
  exact ⟨t, S, rfl, h⟩
theorem rd_add (h : Rd W w t S s) (key link : Int) (hl : U64 link) (r : Int) (s' : RdS) (hs : s.add key link = (r, s')) :
    Calls Try.prog 10 #[.pointer (some ⟨t, 0, none⟩), .int .i64 key, .int .u64 link] w fun e w' => e = .returned (.int .i64 r) ∧ ∃ S', Rd W w' t S' s' ∧ VKeep S S' w w' := by
  obtain ⟨es, ps, vr, vs, Z, a, h1, h2, h3, f⟩ := h.a
  unfold RdS.add at hs
  by_cases hk : key < 0 ∨ 63 < key
  · rw [if_pos hk] at hs
    cases hs
    refine (add_bad key link hk).mono ?_
    rintro e w' ⟨rfl, k⟩
    exact ⟨rfl, h.idle k⟩
  · rw [if_neg hk, h1] at hs
    obtain ⟨k, rfl⟩ : ∃ k : Nat, key = k := ⟨key.toNat, by omega⟩
    by_cases hm : (k : Int) ∈ es.map Prod.fst
    · rw [if_pos hm] at hs
      cases hs
      refine (add_old a k (by omega) hm link).mono ?_
      rintro e w' ⟨rfl, k⟩
      exact ⟨rfl, h.idle k⟩
    · rw [if_neg hm] at hs
      cases hs
      refine (add_new a k (by omega) hm link hl).mono ?_
      rintro e w' ⟨rfl, v', a', k', hv⟩
      refine ⟨rfl, h.step f a' k' (fun j hj => ?_) (by simp) (by simp [h2]) h3⟩
      rcases hj with hj | hj | hj | hj
      · exact .inl (.inl hj)
      · rcases hv j hj with y | y
        · exact .inl (.inr (.inl y))
        · exact .inr y
      · exact .inl (.inr (.inr (.inl hj)))
      · exact .inl (.inr (.inr (.inr hj)))
theorem rd_span (h : Rd W w t S s) (lo hi : Int) (v : Value) (zs : List Int) (hz : Lies w v zs) (hl : zs.length ≤ 100000) (r : Int) (s' : RdS) (hs : s.span lo hi zs = (r, s')) :
    Calls Try.prog 14 #[.pointer (some ⟨t, 0, none⟩), .int .i64 lo, .int .i64 hi, v] w fun e w' => e = .returned (.int .i64 r) ∧ ∃ S', Rd W w' t S' s' ∧ VKeep S S' w w' := by
  obtain ⟨es, ps, vr, vs, Z, a, h1, h2, h3, f⟩ := h.a
  unfold RdS.span at hs
  by_cases hk : lo < 0 ∨ 63 < lo ∨ hi < 0 ∨ 63 < hi ∨ hi < lo
  · rw [if_pos hk] at hs
    cases hs
    refine (span_bad lo hi v hk).mono ?_
    rintro e w' ⟨rfl, k⟩
    exact ⟨rfl, h.idle k⟩
  · rw [if_neg hk, h3, List.length_map] at hs
    by_cases hm : 64 ≤ ps.length
    · rw [if_pos hm] at hs
      cases hs
      refine (span_many a lo hi v (by omega) (by omega) (by omega) (by have := a.pl; omega)).mono ?_
      rintro e w' ⟨rfl, k⟩
      exact ⟨rfl, h.idle k⟩
    · rw [if_neg hm] at hs
      cases hs
      refine (span_ok a lo hi (by omega) (by omega) (by omega) (by omega) hz hl).mono ?_
      rintro e w' ⟨rfl, v', u, Z', a', k', hv, hZ⟩
      refine ⟨rfl, h.step f a' k' (fun j hj => ?_) h1 h2 (by simp)⟩
      rcases hj with hj | hj | hj | hj
      · exact .inl (.inl hj)
      · exact .inl (.inr (.inl hj))
      · rcases hv j hj with y | y
        · exact .inl (.inr (.inr (.inl y)))
        · exact .inr y
      · rcases hZ j hj with y | y
        · exact .inl (.inr (.inr (.inr y)))
        · exact .inr y
theorem rd_keys (h : Rd W w t S s) :
    Calls Try.prog 40 #[.pointer (some ⟨t, 0, none⟩)] w fun e w' => ∃ v S', e = .returned v ∧ OwnN w.heap.size w' v s.keys ∧ (∀ g, v.ownBlock = some g → ¬ S' g) ∧ Rd W w' t S' s ∧ VKeep S S' w w' := by
  obtain ⟨es, ps, vr, vs, Z, a, h1, h2, h3, f⟩ := h.a
  refine (keys_any a).mono ?_
  rintro e w' ⟨v, rfl, o, k⟩
  rw [h1]
  exact ⟨v, S, rfl, o, fun g hg hS => by have := (OwnN.lt o hg).1; have := h.lt g hS; omega, h.quiet k, k.mono (fun _ e => e.elim), fun _ e => .inl e⟩
theorem rd_link (h : Rd W w t S s) (key : Int) (l : Int) (b : Bool) (hs : s.link key = (l, b)) :
    Calls Try.prog 36 #[.pointer (some ⟨t, 0, none⟩), .int .i64 key] w fun e w' => e = .returned (.tuple #[.int .u64 l, .bool b]) ∧ ∃ S', Rd W w' t S' s ∧ VKeep S S' w w' := by
  obtain ⟨es, ps, vr, vs, Z, a, h1, h2, h3, f⟩ := h.a
  unfold RdS.link at hs
  rw [h1, h2] at hs
  refine (link_any a key l b hs).mono ?_
  rintro e w' ⟨rfl, k⟩
  exact ⟨rfl, h.idle k⟩
theorem rd_spans (h : Rd W w t S s) :
    Calls Try.prog 31 #[.pointer (some ⟨t, 0, none⟩)] w fun e w' => ∃ v S' T, e = .returned v ∧ OwnSc w.heap.size w' v s.scans T ∧ (∀ g, T g → ¬ S' g) ∧ Rd W w' t S' s ∧ VKeep S S' w w' := by
  obtain ⟨es, ps, vr, vs, Z, a, h1, h2, h3, f⟩ := h.a
  refine (spans_any a).mono ?_
  rintro e w' ⟨v, T, rfl, o, k⟩
  rw [h3]
  exact ⟨v, S, T, rfl, o, fun g hg hS => by have := o.t0 g hg; have := h.lt g hS; omega, h.quiet k, k.mono (fun _ e => e.elim), fun _ e => .inl e⟩
end
end Go.Proofs.Ytndpifkpgoeogaa
