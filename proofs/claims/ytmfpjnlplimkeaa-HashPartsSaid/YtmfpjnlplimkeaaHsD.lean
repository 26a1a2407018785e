/- An Index over a Store, as layer 10's statements walk with it: the contracts of package hash, and of the statements' helper awake; condition: lists of 100 links at most, 900,000,000 looks at most. -/
import Derived.Test.YtmfpjnlplimkeaaChD
import Derived.Test.YtmfpjnlplimkeaaHsG
import Derived.Test.YtmfpjnlplimkeaaHsK
import Derived.Test.YtmfpjnlplimkeaaSameN
namespace Go.Proofs.Ytmfpjnlplimkeaa
open Go.ChangeShapes Go.WideShapes Go.ChangeAt Go.RowKit
set_option linter.unusedVariables false

/-- Since W a Store p and an Index x of n buckets over it have been made, in new blocks; the Store is in state s, the Index in state h; whatever D says is a key's Chain is one; at most 64 k looks were had; nothing of W has turned. -/
structure Hsh (W w : World) (x p : Nat) (n : Nat) (S : Nat → Prop) (s : RS) (h : HS) (D : Nat → Nat → Prop) (k : Nat) : Prop where
  core : ∃ mk vs qf pf af o, Hx w x p n s h mk vs qf pf af o (64 * (k : Int)) ∧ (∀ j, S j ↔ (o j ≠ 0 ∧ j < w.heap.size)) ∧ ∀ q key, D q key → (h.ch key).isSome = true ∧ q = qf key
  c : s.c ≤ 64 * (k : Int)
  ok : ROk s
  hk : HOk s h
  g : ∀ k, S k → W.heap.size ≤ k
  lt : ∀ k, S k → k < w.heap.size
  b : Below W.heap.size W w
/-- One Chain more that is known. -/
def also (D : Nat → Nat → Prop) (q key : Nat) : Nat → Nat → Prop := fun q' k' => D q' k' ∨ (q' = q ∧ k' = key)
def less (D : Nat → Nat → Prop) (key : Nat) : Nat → Nat → Prop := fun q' k' => D q' k' ∧ k' ≠ key
def noD : Nat → Nat → Prop := fun _ _ => False
theorem HOk.set {s s' : RS} {h : HS} (a : HOk s h) {key : Nat} {l l' : List Int} (hl : h.ch key = some l) (ln : Linked s' l') (oth : ∀ k l2, k ≠ key → h.ch k = some l2 → Linked s' l2) (dj : ∀ k l2, k ≠ key → h.ch k = some l2 → ∀ x ∈ l', x ∉ l2) : HOk s' (h.set key l') := by
  refine ⟨fun k l2 e => ?_, fun k k' l2 l3 hne e e' => ?_, fun k => ?_, a.lt, a.nd⟩
  · by_cases z : k = key
    · subst z; rw [HS.set_at] at e; cases e; exact ln
    · rw [HS.set_ne z] at e; exact oth k l2 z e
  · by_cases z : k = key
    · subst z; rw [HS.set_at] at e; cases e
      rw [HS.set_ne (Ne.symm hne)] at e'
      exact dj k' l3 (Ne.symm hne) e'
    · rw [HS.set_ne z] at e
      by_cases z' : k' = key
      · subst z'; rw [HS.set_at] at e'; cases e'
        exact fun x hx hx' => dj k l2 z e x hx' hx
      · rw [HS.set_ne z'] at e'; exact a.dj k k' l2 l3 hne e e'
  · show k ∈ h.put ↔ _
    by_cases z : k = key
    · subst z; rw [HS.set_at, a.pt k, hl]; simp
    · rw [HS.set_ne z]; exact a.pt k
section
variable {W w w' : World} {x p q n : Nat} {S S' : Nat → Prop} {s s' : RS} {h h' : HS} {D D' : Nat → Nat → Prop} {k k' : Nat} {mk : Option Nat} {vs : Nat → Value} {qf qf' pf af o o' : Nat → Nat} {C C' : Int}
theorem Hsh.goes_at (h1 : Hsh W w x p n S s h D k) (hS : ∀ j, S j ↔ (o j ≠ 0 ∧ j < w.heap.size)) (a : Hx w' x p n s' h' mk vs qf' pf af o' C') (kk : Keep (fun g => o g ≠ 0) w w') (ho : ∀ g, g < w.heap.size → o' g = o g) (hC : C' ≤ 64 * (k' : Int)) (hc : s'.c ≤ 64 * (k' : Int)) (hD : ∀ q key, D' q key → (h'.ch key).isSome = true ∧ q = qf' key) :
    Hsh W w' x p n (fun j => o' j ≠ 0 ∧ j < w'.heap.size) s' h' D' k' ∧ VKeep S (fun j => o' j ≠ 0 ∧ j < w'.heap.size) w w' := by
  have k2 : Keep S w w' := (Keep.refl S w).then kk (fun g hg e => (hS g).2 ⟨e, hg⟩)
  have hs : ∀ j, (o' j ≠ 0 ∧ j < w'.heap.size) → S j ∨ w.heap.size ≤ j := fun j hj => by
    by_cases e : j < w.heap.size
    · exact .inl ((hS j).2 ⟨by rw [← ho j e]; exact hj.1, e⟩)
    · exact .inr (by omega)
  have sz := h1.b.size
  refine ⟨⟨⟨mk, vs, qf', pf, af, o', a.up hC, fun j => Iff.rfl, hD⟩, hc, a.ok, a.hk, fun j hj => ?_, fun j hj => hj.2, h1.b.trans (k2.below sz h1.g)⟩, k2, hs⟩
  rcases hs j hj with e | e
  · exact h1.g j e
  · omega
theorem Hsh.goes (h1 : Hsh W w x p n S s h D k) (hS : ∀ j, S j ↔ (o j ≠ 0 ∧ j < w.heap.size)) (G : Goes x p n w o w' s' h' qf' C') (hC : C' ≤ 64 * (k' : Int)) (hc : s'.c ≤ 64 * (k' : Int)) (hD : ∀ q key, D' q key → (h'.ch key).isSome = true ∧ q = qf' key) :
    ∃ S', Hsh W w' x p n S' s' h' D' k' ∧ VKeep S S' w w' := by
  obtain ⟨mk, vs, pf, af, o', a, kk, ho⟩ := G
  exact ⟨_, h1.goes_at hS a kk ho hC hc hD⟩
theorem Hx.seen_goes (a : Hx w x p n s h mk vs qf pf af o C) (sn : Seen x p n s h vs qf pf af o C w w') : Goes x p n w o w' s h qf C := by
  obtain ⟨B, a2, k2⟩ := sn
  exact ⟨_, _, _, _, _, a2, k2.mono (fun j e => by rw [e, a.ox]; omega), fun g hg => relab_lt hg⟩
theorem Hx.quiet_goes (a : Hx w x p n s h mk vs qf pf af o C) (kk : Keep (fun _ => False) w w') : Goes x p n w o w' s h qf C :=
  ⟨_, _, _, _, _, a.quiet kk (by simp) 0, kk.mono (fun j e => e.elim), fun g hg => relab_lt hg⟩
theorem Hx.chain_goes (a : Hx w x p n s h mk vs qf pf af o C) {key : Nat} {l l' : List Int} {y : Int} {SV SV' : Nat → Prop} (hl : h.ch key = some l) (hs : ∀ g, SV g → o g = 1) (g1 : CG w' p SV' s' (pf key) (af key) [y] C' (qf key) 0) (t : Turn (pf key) (af key) SV SV' w w') (hy : y = l'.headD 0) (hC : C ≤ C') (hk' : HOk s' (h.set key l')) : Goes x p n w o w' s' (h.set key l') qf C' := by
  have c := a.ch key l hl
  refine ⟨_, _, _, _, _, a.chain hl hs g1 t hy hC hk', t.k.mono (fun j e => ?_), fun g hg => relab_lt hg⟩
  rcases e with e | e | e
  · have := hs j e; omega
  · have := c.l1; rw [e]; omega
  · have := c.l2; rw [e]; omega
theorem Hsh.own (h1 : Hsh W w x p n S s h D k) {T : Nat → Prop} (kk : Keep T w w') (hT : ∀ g, T g → ¬ S g ∧ W.heap.size ≤ g) : Hsh W w' x p n S s h D k := by
  obtain ⟨mk, vs, qf, pf, af, o, a, hS, hD⟩ := h1.core
  refine ⟨⟨mk, vs, qf, pf, af, _, a.quiet kk (fun g hg e => ?_) 0, fun j => ?_, hD⟩, h1.c, h1.ok, h1.hk, h1.g, fun x hx => Nat.lt_of_lt_of_le (h1.lt x hx) kk.size, h1.b.trans (kk.below h1.b.size (fun g hg => (hT g hg).2))⟩
  · by_cases z : o g = 0
    · exact z
    · exact absurd ((hS g).2 ⟨z, hg⟩) (hT g e).1
  · have sz := kk.size
    by_cases e : j < w.heap.size
    · rw [relab_lt e, hS j]
      exact ⟨fun z => ⟨z.1, by omega⟩, fun z => ⟨z.1, e⟩⟩
    · rw [relab_ge (by omega), hS j]
      exact ⟨fun z => absurd z.2 e, fun z => absurd rfl z.1⟩
theorem Hsh.quiet (h1 : Hsh W w x p n S s h D k) (kk : Keep (fun _ => False) w w') : Hsh W w' x p n S s h D k := h1.own kk (fun g hg => hg.elim)
theorem Hsh.up (h1 : Hsh W w x p n S s h D k) {m : Nat} (hk : k ≤ m) : Hsh W w x p n S s h D m := by
  obtain ⟨mk, vs, qf, pf, af, o, a, hS, hD⟩ := h1.core
  exact ⟨⟨mk, vs, qf, pf, af, o, a.up (by omega), hS, hD⟩, by have := h1.c; omega, h1.ok, h1.hk, h1.g, h1.lt, h1.b⟩
theorem Hsh.fewer (h1 : Hsh W w x p n S s h D k) (hd : ∀ q key, D' q key → D q key) : Hsh W w x p n S s h D' k := by
  obtain ⟨mk, vs, qf, pf, af, o, a, hS, hD⟩ := h1.core
  exact ⟨⟨mk, vs, qf, pf, af, o, a, hS, fun q key e => hD q key (hd q key e)⟩, h1.c, h1.ok, h1.hk, h1.g, h1.lt, h1.b⟩
theorem x_new (hr : Rec W w p S s k) (n : Nat) (n0 : 1 ≤ n) (n1 : n ≤ 64) :
    Calls Try.prog 5 #[.pointer (some ⟨p, 0, none⟩), .int .i64 n] w fun y w' => ∃ x S' s', y = .returned (.tuple #[.pointer (some ⟨x, 0, none⟩), .int .i64 0]) ∧ s'.s = s.s ∧ Hsh W w' x p n S' s' HS.new noD (k + 1000) ∧ VKeep S S' w w' := by
  have b0 : ¬ (n : Int) < 1 := by omega
  have b1 : ¬ 64 < (n : Int) := by omega
  go_enter Try.func5, Try.ntmps5
  go_wp2
  go_ret2
  have kA := Keep.alloc (Keep.refl (fun _ => False) w) (.cells #[.pointer (some ⟨p, 0, none⟩), .int .i64 n, .int .u32 0, .int .i32 0, .int .u32 0, .slice none 0 0] 61)
  have o2 : ∀ j, S j → j < w.heap.size := fun j hj => hr.h.lt j hj
  have hc := hr.c
  have sz := hr.b.size
  refine ⟨w.heap.size, rfl, fun j => S j ∨ j = w.heap.size, s, rfl, ⟨⟨none, fun _ => .slice none 0 0, fun _ => 0, fun _ => 0, fun _ => 0, (open Classical in fun j => if S j then 1 else if j = w.heap.size then 2 else 0), ⟨hr.ok, hok_new s, ⟨S, hr.h.keep kA (by simp), fun g hg => if_pos hg⟩, ⟨by simp, by simp, by simp [dnV], by simp, by simp [bkV], fun i => by simp⟩, ?_, ⟨⟨rfl, rfl⟩, fun B e => (by cases e)⟩, fun k l e => (by cases e), n0, n1, by omega⟩, fun j => ?_, fun q key e => e.elim⟩, by omega, hr.ok, hok_new s, fun j hj => ?_, fun j hj => ?_, hr.b.trans (kA.below sz (by simp))⟩, kA.mono (fun j e => e.elim), fun j hj => ?_⟩
  · exact (if_neg (fun e => by have := o2 _ e; omega)).trans (if_pos rfl)
  · have hz := kA.size
    by_cases e : S j
    · have := o2 j e
      simp only [e, if_true, true_or, true_iff]
      exact ⟨by omega, by omega⟩
    · by_cases e2 : j = w.heap.size
      · subst e2
        simp [e]
      · simp [e, e2]
  · rcases hj with e | e
    · exact hr.g j e
    · omega
  · rcases hj with e | e
    · exact Nat.lt_of_lt_of_le (o2 j e) kA.size
    · rw [e]; simp
  · rcases hj with e | e
    · exact .inl e
    · exact .inr (by omega)
theorem x_new_no (v : Option Addr) (n : Int) (hn : v = none ∨ n < 1 ∨ 64 < n) (w : World) : Calls Try.prog 5 #[.pointer v, .int .i64 n] w fun y w' => y = .returned (.tuple #[.pointer none, .int .i64 1]) ∧ Below w.heap.size w w' := by
  cases v with
  | none =>
    go_enter Try.func5, Try.ntmps5
    go_wp2
    go_ret2
    exact ⟨rfl, Below.refl _ w⟩
  | some v =>
    have hn : n < 1 ∨ 64 < n := by simpa using hn
    by_cases h0 : n < 1
    · clear hn
      go_enter Try.func5, Try.ntmps5
      go_wp2
      go_ret2
      exact ⟨rfl, Below.refl _ w⟩
    · have h1 : 64 < n := by omega
      clear hn
      go_enter Try.func5, Try.ntmps5
      go_wp2
      go_ret2
      exact ⟨rfl, Below.refl _ w⟩
theorem x_bucket (key n : Int) (w : World) : Calls Try.prog 8 #[.int .i64 key, .int .i64 n] w fun y w' => y = .returned (.int .i64 (bktI key n)) ∧ w = w' := bucket_any key n w
theorem x_put_new (h1 : Hsh W w x p n S s h D k) (hk : k ≤ 900000000) (key : Nat) (k0 : key < 64) (hn : h.ch key = none) :
    Calls Try.prog 6 #[.pointer (some ⟨x, 0, none⟩), .int .i64 key] w fun y w' => ∃ q S' s', y = .returned (.tuple #[.pointer (some ⟨q, 0, none⟩), .int .i64 0]) ∧ s'.s = s.s ∧ Hsh W w' x p n S' s' (h.add key) (also D q key) (k + 1000) ∧ VKeep S S' w w' := by
  obtain ⟨mk, vs, qf, pf, af, o, a, hS, hD⟩ := h1.core
  have hc := h1.c
  have hm : key ∉ h.put := fun e => by have := (h1.hk.pt key).1 e; rw [hn] at this; cases this
  refine (put_new a key (by omega) hm).mono ?_
  rintro y w1 ⟨q, rfl, G⟩
  obtain ⟨S', b1, b2⟩ := h1.goes (k' := k + 1000) (D' := also D q key) hS G (by omega) (by omega) (fun q' k' e => by
    by_cases z : k' = key
    · subst z
      rw [upd_at]
      refine ⟨by rw [HS.add_at]; rfl, ?_⟩
      rcases e with e | e
      · have := (hD q' k' e).1; rw [hn] at this; cases this
      · exact e.1
    · rw [upd_ne z]
      rcases e with e | e
      · rw [HS.add_ne z]; exact hD q' k' e
      · exact absurd e.2 z)
  exact ⟨q, S', s, rfl, rfl, b1, b2⟩
theorem x_put_old (h1 : Hsh W w x p n S s h D k) (hk : k ≤ 900000000) (key : Nat) (l : List Int) (hn : h.ch key = some l) :
    Calls Try.prog 6 #[.pointer (some ⟨x, 0, none⟩), .int .i64 key] w fun y w' => ∃ q S' s', y = .returned (.tuple #[.pointer (some ⟨q, 0, none⟩), .int .i64 0]) ∧ s'.s = s.s ∧ Hsh W w' x p n S' s' h (also D q key) (k + 1000) ∧ VKeep S S' w w' := by
  obtain ⟨mk, vs, qf, pf, af, o, a, hS, hD⟩ := h1.core
  have hc := h1.c
  have hm : key ∈ h.put := (h1.hk.pt key).2 (by rw [hn]; rfl)
  refine (put_old a key hm).mono ?_
  rintro y w1 ⟨rfl, G⟩
  obtain ⟨S', b1, b2⟩ := h1.goes (k' := k + 1000) (D' := also D (qf key) key) hS (a.seen_goes G) (by omega) (by omega) (fun q' k' e => by
    rcases e with e | ⟨rfl, rfl⟩
    · exact hD q' k' e
    · exact ⟨by rw [hn]; rfl, rfl⟩)
  exact ⟨_, S', s, rfl, rfl, b1, b2⟩
theorem x_put_no (h1 : Hsh W w x p n S s h D k) (hk : k ≤ 900000000) (key : Int) (hn : key < 0 ∨ 63 < key) :
    Calls Try.prog 6 #[.pointer (some ⟨x, 0, none⟩), .int .i64 key] w fun y w' => ∃ S' s', y = .returned (.tuple #[.pointer none, .int .i64 1]) ∧ s'.s = s.s ∧ Hsh W w' x p n S' s' h D (k + 1000) ∧ VKeep S S' w w' := by
  obtain ⟨mk, vs, qf, pf, af, o, a, hS, hD⟩ := h1.core
  have hc := h1.c
  refine (put_no a key hn).mono ?_
  rintro y w1 ⟨rfl, k1⟩
  obtain ⟨S', b1, b2⟩ := h1.goes (k' := k + 1000) (D' := D) hS (a.quiet_goes k1) (by omega) (by omega) hD
  exact ⟨S', s, rfl, rfl, b1, b2⟩
theorem x_find_yes (h1 : Hsh W w x p n S s h D k) (hk : k ≤ 900000000) (key : Nat) (l : List Int) (hn : h.ch key = some l) :
    Calls Try.prog 16 #[.pointer (some ⟨x, 0, none⟩), .int .i64 key] w fun y w' => ∃ q S' s', y = .returned (.tuple #[.pointer (some ⟨q, 0, none⟩), .bool true]) ∧ s'.s = s.s ∧ Hsh W w' x p n S' s' h (also D q key) (k + 1000) ∧ VKeep S S' w w' := by
  obtain ⟨mk, vs, qf, pf, af, o, a, hS, hD⟩ := h1.core
  have hc := h1.c
  have hm : key ∈ h.put := (h1.hk.pt key).2 (by rw [hn]; rfl)
  refine (find_yes a key hm).mono ?_
  rintro y w1 ⟨rfl, G⟩
  obtain ⟨S', b1, b2⟩ := h1.goes (k' := k + 1000) (D' := also D (qf key) key) hS (a.seen_goes G) (by omega) (by omega) (fun q' k' e => by
    rcases e with e | ⟨rfl, rfl⟩
    · exact hD q' k' e
    · exact ⟨by rw [hn]; rfl, rfl⟩)
  exact ⟨_, S', s, rfl, rfl, b1, b2⟩
theorem x_find_no (h1 : Hsh W w x p n S s h D k) (hk : k ≤ 900000000) (key : Int) (hn : key < 0 ∨ 63 < key ∨ h.ch key.toNat = none) :
    Calls Try.prog 16 #[.pointer (some ⟨x, 0, none⟩), .int .i64 key] w fun y w' => ∃ S' s', y = .returned (.tuple #[.pointer none, .bool false]) ∧ s'.s = s.s ∧ Hsh W w' x p n S' s' h D (k + 1000) ∧ VKeep S S' w w' := by
  obtain ⟨mk, vs, qf, pf, af, o, a, hS, hD⟩ := h1.core
  have hc := h1.c
  refine (find_no a key (hn.imp_right (fun z => z.imp_right (fun z e => by have := (h1.hk.pt _).1 e; rw [z] at this; cases this)))).mono ?_
  rintro y w1 ⟨rfl, G⟩
  have G : Goes x p n w o w1 s h qf (64 * (k : Int)) := by
    rcases G with e | e
    · exact a.quiet_goes e
    · exact a.seen_goes e
  obtain ⟨S', b1, b2⟩ := h1.goes (k' := k + 1000) (D' := D) hS G (by omega) (by omega) hD
  exact ⟨S', s, rfl, rfl, b1, b2⟩
theorem x_keys (h1 : Hsh W w x p n S s h D k) (hk : k ≤ 900000000) :
    Calls Try.prog 17 #[.pointer (some ⟨x, 0, none⟩)] w fun y w' => ∃ v S' s', y = .returned v ∧ OwnN w.heap.size w' v (h.keys 64) ∧ (∀ g, v.ownBlock = some g → ¬ S' g) ∧ s'.s = s.s ∧ Hsh W w' x p n S' s' h D (k + 1000) ∧ VKeep S S' w w' := by
  obtain ⟨mk, vs, qf, pf, af, o, a, hS, hD⟩ := h1.core
  have hc := h1.c
  refine (keys_all a).mono ?_
  rintro y w1 ⟨v, rfl, L⟩
  obtain ⟨mk1, o1, a1, e1, z1⟩ := L.hx
  obtain ⟨b1, b2⟩ := h1.goes_at (k' := k + 1000) (D' := D) hS a1 L.k e1 (by omega) (by omega) hD
  exact ⟨v, _, s, rfl, L.ow, fun g hg e => e.1 (z1 g hg), rfl, b1, b2⟩
theorem x_in (h1 : Hsh W w x p n S s h D k) (hk : k ≤ 900000000) (b : Int) (zs : List Int) (hz : h.inB n b = zs) :
    Calls Try.prog 7 #[.pointer (some ⟨x, 0, none⟩), .int .i64 b] w fun y w' => ∃ v S' s', y = .returned v ∧ OwnN w.heap.size w' v zs ∧ (∀ g, v.ownBlock = some g → ¬ S' g) ∧ s'.s = s.s ∧ Hsh W w' x p n S' s' h D (k + 1000) ∧ VKeep S S' w w' := by
  obtain ⟨mk, vs, qf, pf, af, o, a, hS, hD⟩ := h1.core
  have hc := h1.c
  by_cases hb : b < 0 ∨ (n : Int) ≤ b
  · obtain rfl : [] = zs := by rw [← hz]; exact (if_pos hb).symm
    refine (in_no a b hb).mono ?_
    rintro y w1 ⟨rfl, rfl⟩
    exact ⟨.slice none 0 0, S, s, rfl, World.ownsRow_nil _ _ _ _, fun g hg => (by cases hg), rfl, h1.up (by omega), Keep.refl _ _, fun j hj => .inl hj⟩
  · obtain ⟨b, rfl⟩ : ∃ i : Nat, b = i := ⟨b.toNat, by omega⟩
    obtain rfl : bin n b h.put = zs := by rw [← hz]; exact (if_neg hb).symm
    refine (in_yes a b (by omega)).mono ?_
    rintro y w1 ⟨v, B, o1, rfl, ow, _, a1, k1, e1, z1⟩
    obtain ⟨b1, b2⟩ := h1.goes_at (k' := k + 1000) (D' := D) hS a1 (k1.mono (fun j e => by rw [e, a.ox]; omega)) e1 (by omega) (by omega) hD
    exact ⟨v, _, s, rfl, ow, fun g hg e => e.1 (z1 g hg), rfl, b1, b2⟩
end
theorem awake10_any (w : World) : Calls Try.prog 9 #[] w fun e w' => e = .returned (.bool true) ∧ Below w.heap.size w w' := by
  go_enter Try.func9, Try.ntmps9
  go_wp2_with fail
  refine (v_new 4 w (by omega) (by omega)).mono ?_
  rintro e w1 ⟨p, S1, rfl, C1⟩
  go_wp2_with fail
  refine (x_new C1 4 (by omega) (by omega)).mono ?_
  rintro e w2 ⟨x, S2, s2, rfl, e2, C2, _⟩
  clear C1
  go_wp2_with fail
  refine (x_put_new C2 (by omega) 5 (by omega) rfl).mono ?_
  rintro e w3 ⟨c, S3, s3, rfl, e3, C3, _⟩
  clear C2
  go_wp2_with fail
  refine (x_find_yes C3 (by omega) 5 [] HS.add_at).mono ?_
  rintro e w4 ⟨d, S4, s4, rfl, e4, C4, _⟩
  clear C3
  go_wp2_with fail
  refine (x_find_no C4 (by omega) 6 (.inr (.inr (by rw [show (6 : Int).toNat = 6 from rfl, HS.add_ne (by omega)]; rfl)))).mono ?_
  rintro e w5 ⟨S5, s5, rfl, e5, C5, _⟩
  clear C4
  go_wp2_with fail
  refine (x_keys C5 (by omega)).mono ?_
  rintro e w6 ⟨v, S6, s6, rfl, o6, _, e6, C6, _⟩
  clear C5
  have hl : ((HS.new.add 5).keys 64).length = 1 := by decide
  obtain ⟨A, c2, rfl, _, _⟩ := o6.shapeN
  rw [hl]
  have b := C6.b
  clear C6 o6 e2 e3 e4 e5 e6
  go_wp2
  go_ret
  exact ⟨rfl, b⟩
end Go.Proofs.Ytmfpjnlplimkeaa
