/- Cursors over a Tower, as layer 12's statements walk with them, and the statement's helper awake; condition: the Tower was made since the world W. -/
import Derived.Test.YtopnhkogapidhaaCuM
namespace Go.Proofs.Ytopnhkogapidhaa
open Go.ChangeShapes Go.WideShapes Go.ChangeAt Go.RowKit
set_option linter.unusedVariables false

/-- Since W a Tower t with keys of these heights has been made, and Cursors over it, wherever cs says so, in new blocks S; nothing of W has turned. -/
structure Cu (W w : World) (t : Nat) (S : Nat → Prop) (th : Nat → Nat) (cs : Nat → Option CS) : Prop where
  h4 : ∀ j, th j ≤ 4
  g : ∀ k, S k → W.heap.size ≤ k
  lt : ∀ k, S k → k < w.heap.size
  b : Below W.heap.size W w
  cq : ∀ q x, cs q = some x → S q
  at' : ∃ p q, Tow w t p q th ∧ S t ∧ S p ∧ S q ∧ ∀ c x, cs c = some x → CuAt w t c x ∧ c ≠ t ∧ ¬ Two p q c
def updC (cs : Nat → Option CS) (q : Nat) (x : CS) : Nat → Option CS := fun r => if r = q then some x else cs r
theorem updC_at {cs : Nat → Option CS} {q : Nat} {x : CS} : updC cs q x q = some x := if_pos rfl
theorem updC_ne {cs : Nat → Option CS} {q r : Nat} {x : CS} (h : r ≠ q) : updC cs q x r = cs r := if_neg h
section
variable {W w w' : World} {t p q a : Nat} {S S' : Nat → Prop} {th th' : Nat → Nat} {cs : Nat → Option CS}
theorem Cu.own (h : Cu W w t S th cs) {T : Nat → Prop} (kk : Keep T w w') (hT : ∀ g, T g → ¬ S g ∧ W.heap.size ≤ g) : Cu W w' t S th cs := by
  obtain ⟨p, q, hw, st, sp, sq, hc⟩ := h.at'
  have far : ∀ g, S g → ¬ T g := fun g hg ht => (hT g ht).1 hg
  exact ⟨h.h4, h.g, fun x hx => Nat.lt_of_lt_of_le (h.lt x hx) kk.size, h.b.trans (kk.below h.b.size (fun g hg => (hT g hg).2)), h.cq, p, q, hw.keep kk (far t st) (far p sp) (far q sq), st, sp, sq, fun c x e => ⟨(hc c x e).1.keep kk (far c (h.cq c x e)), (hc c x e).2⟩⟩
theorem Cu.quiet (h : Cu W w t S th cs) (kk : Keep (fun _ => False) w w') : Cu W w' t S th cs := h.own kk (fun g hg => hg.elim)
/-- The Tower has turned. -/
theorem Cu.tower (h : Cu W w t S th cs) (hS : S p ∧ S q ∧ S t ∧ ∀ c x, cs c = some x → CuAt w t c x ∧ c ≠ t ∧ ¬ Two p q c) (h' : Tow w' t p q th') (k : Keep (Two p q) w w') : Cu W w' t S th' cs ∧ VKeep S S w w' := by
  have hk : ∀ j, Two p q j → S j := fun j hj => by rcases hj with rfl | rfl; exact hS.1; exact hS.2.1
  exact ⟨⟨h'.h4, h.g, fun x hx => Nat.lt_of_lt_of_le (h.lt x hx) k.size, h.b.trans (k.below h.b.size (fun j hj => h.g j (hk j hj))), h.cq, p, q, h', hS.2.2.1, hS.1, hS.2.1, fun c x e => ⟨(hS.2.2.2 c x e).1.keep k (hS.2.2.2 c x e).2.2, (hS.2.2.2 c x e).2⟩⟩, k.mono hk, fun j hj => .inl hj⟩
theorem k_tnew (w : World) : Calls Try.prog 7 #[] w fun y w' => ∃ t S, y = .returned (.pointer (some ⟨t, 0, none⟩)) ∧ Cu w w' t S (fun _ => 0) (fun _ => none) := by
  refine (tnew_any w).mono ?_
  rintro e w1 ⟨t, p, q, rfl, h, g0, g1, g2, k⟩
  have l := h.lt
  exact ⟨t, fun j => j = t ∨ j = p ∨ j = q, rfl, h.h4, fun j hj => by omega, fun j hj => by omega, k.below (Nat.le_refl _) (by simp), fun q x e => by simp at e, p, q, h, .inl rfl, .inr (.inl rfl), .inr (.inr rfl), fun c x e => by simp at e⟩
theorem k_put (h : Cu W w t S th cs) (key height : Int) (r : Bool) (e : Int) (th' : Nat → Nat) (hs : putT th key height = (r, e, th')) :
    Calls Try.prog 8 #[.pointer (some ⟨t, 0, none⟩), .int .i64 key, .int .i64 height] w fun y w' => y = .returned (.tuple #[.bool r, .int .i64 e]) ∧ ∃ S', Cu W w' t S' th' cs ∧ VKeep S S' w w' := by
  obtain ⟨p, q, hT, st, sp, sq, hc⟩ := h.at'
  unfold putT at hs
  split at hs
  · cases hs
    refine (put_bad key height (by assumption)).mono ?_
    rintro e w1 ⟨rfl, rfl⟩
    exact ⟨rfl, S, h.tower ⟨sp, sq, st, hc⟩ hT (Keep.refl _ _)⟩
  · obtain ⟨k, rfl⟩ : ∃ k : Nat, key = k := ⟨key.toNat, by omega⟩
    obtain ⟨x, rfl⟩ : ∃ x : Nat, height = x := ⟨height.toNat, by omega⟩
    rw [Int.toNat_natCast, Int.toNat_natCast] at hs
    split at hs
    · cases hs
      refine (put_old hT k x (by omega) (by omega) (by omega) (by assumption)).mono ?_
      rintro e w1 ⟨rfl, h1, k1⟩
      exact ⟨rfl, S, h.tower ⟨sp, sq, st, hc⟩ h1 k1⟩
    · cases hs
      refine (put_new hT k x (by omega) (by omega) (by omega) (by omega)).mono ?_
      rintro e w1 ⟨rfl, h1, k1⟩
      exact ⟨rfl, S, h.tower ⟨sp, sq, st, hc⟩ h1 k1⟩
theorem k_drop (h : Cu W w t S th cs) (key : Int) (r : Bool) (th' : Nat → Nat) (hs : dropT th key = (r, th')) :
    Calls Try.prog 10 #[.pointer (some ⟨t, 0, none⟩), .int .i64 key] w fun y w' => y = .returned (.bool r) ∧ ∃ S', Cu W w' t S' th' cs ∧ VKeep S S' w w' := by
  obtain ⟨p, q, hT, st, sp, sq, hc⟩ := h.at'
  refine (drop_any hT key r th' hs).mono ?_
  rintro e w1 ⟨rfl, h1, k1⟩
  exact ⟨rfl, S, h.tower ⟨sp, sq, st, hc⟩ h1 k1⟩
theorem k_new (h : Cu W w t S th cs) (lo hi : Int) (hl : 0 ≤ lo ∧ hi ≤ 63 ∧ lo ≤ hi) :
    Calls Try.prog 9 #[.pointer (some ⟨t, 0, none⟩), .int .i64 lo, .int .i64 hi] w fun y w' => ∃ q S', y = .returned (.tuple #[.pointer (some ⟨q, 0, none⟩), .int .i64 0]) ∧ cs q = none ∧ Cu W w' t S' th (updC cs q (CS.new lo hi)) ∧ VKeep S S' w w' := by
  refine (cnew_ok t lo hi hl w).mono ?_
  rintro e w1 ⟨c, rfl, h1, gc, k⟩
  have hn : ¬ S c := fun x => by have := h.lt c x; omega
  have h2 := h.quiet k
  obtain ⟨p, q, hT, st, sp, sq, hc⟩ := h2.at'
  refine ⟨c, fun j => S j ∨ j = c, rfl, ?_, ⟨h2.h4, fun j hj => ?_, fun j hj => ?_, h2.b, fun j x e => ?_, p, q, hT, .inl st, .inl sp, .inl sq, fun j x e => ?_⟩, k.mono (by simp), fun j hj => by rcases hj with hj | rfl; exact .inl hj; exact .inr gc⟩
  · cases e : cs c with
    | none => rfl
    | some x => exact absurd (h.cq c x e) hn
  · rcases hj with hj | rfl
    · exact h.g j hj
    · have := h.b.size; omega
  · rcases hj with hj | rfl
    · exact h2.lt j hj
    · exact h1.lt
  · by_cases ej : j = c
    · exact .inr ej
    · rw [updC_ne ej] at e; exact .inl (h.cq j x e)
  · by_cases ej : j = c
    · subst ej
      rw [updC_at] at e
      cases e
      exact ⟨h1, fun x => hn (x ▸ st), fun x => by rcases x with rfl | rfl; exact hn sp; exact hn sq⟩
    · rw [updC_ne ej] at e; exact hc j x e
theorem k_new_no (h : Cu W w t S th cs) (lo hi : Int) (hl : ¬ (0 ≤ lo ∧ hi ≤ 63 ∧ lo ≤ hi)) :
    Calls Try.prog 9 #[.pointer (some ⟨t, 0, none⟩), .int .i64 lo, .int .i64 hi] w fun y w' => y = .returned (.tuple #[.pointer none, .int .i64 1]) ∧ ∃ S', Cu W w' t S' th cs ∧ VKeep S S' w w' := by
  refine (cnew_no _ (.inr ⟨t, rfl⟩) lo hi (.inr hl) w).mono ?_
  rintro e w1 ⟨rfl, rfl⟩
  exact ⟨rfl, S, h, Keep.refl _ _, fun j hj => .inl hj⟩
theorem k_next (h : Cu W w t S th cs) (x : CS) (hx : cs a = some x) (k : Int) (ok : Bool) (x' : CS) (hs : nextC th x = (k, ok, x')) :
    Calls Try.prog 11 #[.pointer (some ⟨a, 0, none⟩)] w fun y w' => y = .returned (.tuple #[.int .i64 k, .bool ok]) ∧ ∃ S', Cu W w' t S' th (updC cs a x') ∧ VKeep S S' w w' := by
  obtain ⟨p, q, hT, st, sp, sq, hc⟩ := h.at'
  obtain ⟨h1, n1, n2⟩ := hc a x hx
  have sa := h.cq a x hx
  refine (cnext_any h1 hT n1 n2 k ok x' hs).mono ?_
  rintro e w1 ⟨rfl, h2, T2, kk⟩
  have hk : ∀ j, (j = a ∨ Two p q j) → S j := fun j hj => by rcases hj with rfl | rfl | rfl; exact sa; exact sp; exact sq
  refine ⟨rfl, S, ⟨h.h4, h.g, fun j hj => Nat.lt_of_lt_of_le (h.lt j hj) kk.size, h.b.trans (kk.below h.b.size (fun j hj => h.g j (hk j hj))), fun j y e => ?_, p, q, T2, st, sp, sq, fun j y e => ?_⟩, kk.mono hk, fun j hj => .inl hj⟩
  · by_cases ej : j = a
    · subst ej; exact sa
    · rw [updC_ne ej] at e; exact h.cq j y e
  · by_cases ej : j = a
    · subst ej
      rw [updC_at] at e
      cases e
      exact ⟨h2, n1, n2⟩
    · rw [updC_ne ej] at e
      obtain ⟨m1, m2, m3⟩ := hc j y e
      exact ⟨m1.keep kk (fun z => by rcases z with z | z; exact ej z; exact m3 z), m2, m3⟩
theorem k_at (h : Cu W w t S th cs) (x : CS) (hx : cs a = some x) (k : Int) (hs : x.at' = k) :
    Calls Try.prog 14 #[.pointer (some ⟨a, 0, none⟩)] w fun y w' => y = .returned (.int .i64 k) ∧ ∃ S', Cu W w' t S' th cs ∧ VKeep S S' w w' := by
  obtain ⟨p, q, hT, st, sp, sq, hc⟩ := h.at'
  refine (cat_any (hc a x hx).1 k hs).mono ?_
  rintro e w1 ⟨rfl, rfl⟩
  exact ⟨rfl, S, h, Keep.refl _ _, fun j hj => .inl hj⟩
theorem k_done (h : Cu W w t S th cs) (x : CS) (hx : cs a = some x) (d : Bool) (hs : x.done = d) :
    Calls Try.prog 12 #[.pointer (some ⟨a, 0, none⟩)] w fun y w' => y = .returned (.bool d) ∧ ∃ S', Cu W w' t S' th cs ∧ VKeep S S' w w' := by
  obtain ⟨p, q, hT, st, sp, sq, hc⟩ := h.at'
  refine (cdone_any (hc a x hx).1 d hs).mono ?_
  rintro e w1 ⟨rfl, rfl⟩
  exact ⟨rfl, S, h, Keep.refl _ _, fun j hj => .inl hj⟩
theorem k_span (h : Cu W w t S th cs) (x : CS) (hx : cs a = some x) (lo hi : Int) (hs : x.lo = lo ∧ x.hi = hi) :
    Calls Try.prog 17 #[.pointer (some ⟨a, 0, none⟩)] w fun y w' => y = .returned (.agg #[.int .i64 lo, .int .i64 hi]) ∧ ∃ S', Cu W w' t S' th cs ∧ VKeep S S' w w' := by
  obtain ⟨p, q, hT, st, sp, sq, hc⟩ := h.at'
  refine (cspan_any (hc a x hx).1 lo hi hs).mono ?_
  rintro e w1 ⟨rfl, kk⟩
  exact ⟨rfl, S, h.quiet kk, kk.mono (by simp), fun j hj => .inl hj⟩
end
set_option maxRecDepth 100000 in
theorem awake12_any (w : World) : Calls Try.prog 13 #[] w fun e w' => e = .returned (.bool true) ∧ Below w.heap.size w w' := by
  go_enter Try.func13, Try.ntmps13
  go_wp2_with fail
  refine (k_tnew w).mono ?_
  rintro e w1 ⟨t, S1, rfl, h1⟩
  go_wp2_with fail
  refine (k_put h1 4 1 true 0 (fun j => if j = 4 then 1 else 0) (by rfl)).mono ?_
  rintro e w2 ⟨rfl, S2, h2, k2⟩
  go_wp2_with fail
  refine (k_put h2 9 2 true 0 (fun j => if j = 9 then 2 else if j = 4 then 1 else 0) (by rfl)).mono ?_
  rintro e w3 ⟨rfl, S3, h3, k3⟩
  clear h1 h2 k2 k3
  go_wp2_with fail
  refine (k_new h3 1 5 (by omega)).mono ?_
  rintro e w4 ⟨c, S4, rfl, hn, h4, k4⟩
  clear h3 k4
  go_wp2_with fail
  refine (cnew_no _ (.inl rfl) 1 5 (.inl rfl) _).mono ?_
  rintro e w5 ⟨rfl, rfl⟩
  go_wp2_with fail
  refine (k_next h4 _ updC_at 4 true ⟨1, 5, 4, false⟩ (by rfl)).mono ?_
  rintro e w6 ⟨rfl, S6, h6, k6⟩
  clear h4 k6
  go_wp2_with fail
  refine (k_next h6 _ updC_at 0 false ⟨1, 5, 4, true⟩ (by rfl)).mono ?_
  rintro e w7 ⟨rfl, S7, h7, k7⟩
  clear h6 k7
  go_wp2_with fail
  refine (k_done h7 _ updC_at true rfl).mono ?_
  rintro e w8 ⟨rfl, S8, h8, k8⟩
  clear h7 k8
  go_wp2_with fail
  refine (k_at h8 _ updC_at 4 rfl).mono ?_
  rintro e w9 ⟨rfl, S9, h9, k9⟩
  clear h8 k9
  go_wp2
  go_ret
  exact ⟨rfl, h9.b⟩
end Go.Proofs.Ytopnhkogapidhaa
