/- A Tower, as layer 11's statements walk with it, and the statement's helper awake; condition: it was made since the world W. -/
import Derived.Test.YteaanaggcenloaaTwE
import Derived.Test.YteaanaggcenloaaPushN
import Derived.Test.YteaanaggcenloaaSameN
import Derived.Deep.RegionHeld3
namespace Go.Proofs.Yteaanaggcenloaa
open Go.ChangeShapes Go.WideShapes Go.ChangeAt Go.RowKit
set_option linter.unusedVariables false

/-- Since W a Tower t has been made, in new blocks S; it holds keys of these heights; nothing of W has turned. -/
structure Twr (W w : World) (t : Nat) (S : Nat → Prop) (th : Nat → Nat) : Prop where
  h4 : ∀ j, th j ≤ 4
  far : ∀ j, 64 ≤ j → th j = 0
  g : ∀ k, S k → W.heap.size ≤ k
  lt : ∀ k, S k → k < w.heap.size
  b : Below W.heap.size W w
  at' : ∃ p q, Tow w t p q th ∧ ∀ k, S k ↔ (k = t ∨ k = p ∨ k = q)
section
variable {W w w' : World} {t p q : Nat} {S S' : Nat → Prop} {th th' : Nat → Nat}
theorem Twr.step (h : Twr W w t S th) (hS : ∀ k, S k ↔ (k = t ∨ k = p ∨ k = q)) (h' : Tow w' t p q th') (k : Keep (Two p q) w w') : Twr W w' t S th' ∧ VKeep S S w w' := by
  have hk : ∀ j, Two p q j → S j := fun j hj => (hS j).2 (.inr hj)
  exact ⟨⟨h'.h4, h'.far, h.g, fun x hx => Nat.lt_of_lt_of_le (h.lt x hx) k.size, h.b.trans (k.below h.b.size (fun j hj => h.g j (hk j hj))), p, q, h', hS⟩, k.mono hk, fun j hj => .inl hj⟩
theorem t_new (hb : Below W.heap.size W w) : Calls Try.prog 8 #[] w fun y w' => ∃ t S, y = .returned (.pointer (some ⟨t, 0, none⟩)) ∧ Twr W w' t S (fun _ => 0) ∧ Keep (fun _ => False) w w' ∧ ∀ g, S g → w.heap.size ≤ g := by
  have bs := hb.size
  refine (tnew_any w).mono ?_
  rintro e w1 ⟨t, p, q, rfl, h, g0, g1, g2, k⟩
  have l := h.lt
  exact ⟨t, fun j => j = t ∨ j = p ∨ j = q, rfl, ⟨h.h4, h.far, fun j hj => by omega, fun j hj => by omega, hb.trans (k.below bs (by simp)), p, q, h, fun _ => Iff.rfl⟩, k, fun j hj => by omega⟩
theorem t_put (h : Twr W w t S th) (key height : Int) (r : Bool) (e : Int) (th' : Nat → Nat) (hs : putT th key height = (r, e, th')) :
    Calls Try.prog 9 #[.pointer (some ⟨t, 0, none⟩), .int .i64 key, .int .i64 height] w fun y w' => y = .returned (.tuple #[.bool r, .int .i64 e]) ∧ ∃ S', Twr W w' t S' th' ∧ VKeep S S' w w' := by
  obtain ⟨p, q, hT, hS⟩ := h.at'
  unfold putT at hs
  split at hs
  · cases hs
    refine (put_bad key height (by assumption)).mono ?_
    rintro e w1 ⟨rfl, rfl⟩
    exact ⟨rfl, S, h.step hS hT (Keep.refl _ _)⟩
  · obtain ⟨k, rfl⟩ : ∃ k : Nat, key = k := ⟨key.toNat, by omega⟩
    obtain ⟨x, rfl⟩ : ∃ x : Nat, height = x := ⟨height.toNat, by omega⟩
    rw [Int.toNat_natCast, Int.toNat_natCast] at hs
    split at hs
    · cases hs
      refine (put_old hT k x (by omega) (by omega) (by omega) (by assumption)).mono ?_
      rintro e w1 ⟨rfl, h1, k1⟩
      exact ⟨rfl, S, h.step hS h1 k1⟩
    · cases hs
      refine (put_new hT k x (by omega) (by omega) (by omega) (by omega)).mono ?_
      rintro e w1 ⟨rfl, h1, k1⟩
      exact ⟨rfl, S, h.step hS h1 k1⟩
theorem t_drop (h : Twr W w t S th) (key : Int) (r : Bool) (th' : Nat → Nat) (hs : dropT th key = (r, th')) :
    Calls Try.prog 10 #[.pointer (some ⟨t, 0, none⟩), .int .i64 key] w fun y w' => y = .returned (.bool r) ∧ ∃ S', Twr W w' t S' th' ∧ VKeep S S' w w' := by
  obtain ⟨p, q, hT, hS⟩ := h.at'
  refine (drop_any hT key r th' hs).mono ?_
  rintro e w1 ⟨rfl, h1, k1⟩
  exact ⟨rfl, S, h.step hS h1 k1⟩
theorem t_has (h : Twr W w t S th) (key : Int) (r : Bool) (hs : decide (0 < hgtT th key) = r) :
    Calls Try.prog 17 #[.pointer (some ⟨t, 0, none⟩), .int .i64 key] w fun y w' => y = .returned (.bool r) ∧ ∃ S', Twr W w' t S' th ∧ VKeep S S' w w' := by
  obtain ⟨p, q, hT, hS⟩ := h.at'
  refine (has_any hT key r hs).mono ?_
  rintro e w1 ⟨rfl, h1, k1⟩
  exact ⟨rfl, S, h.step hS h1 k1⟩
theorem t_height (h : Twr W w t S th) (key r : Int) (hs : hgtT th key = r) :
    Calls Try.prog 13 #[.pointer (some ⟨t, 0, none⟩), .int .i64 key] w fun y w' => y = .returned (.int .i64 r) ∧ ∃ S', Twr W w' t S' th ∧ VKeep S S' w w' := by
  obtain ⟨p, q, hT, hS⟩ := h.at'
  refine (height_any hT key r hs).mono ?_
  rintro e w1 ⟨rfl, h1, k1⟩
  exact ⟨rfl, S, h.step hS h1 k1⟩
theorem Twr.fresh (h : Twr W w t S th) {v : Value} {zs : List Int} (o : OwnN w.heap.size w' v zs) : ∀ g, v.ownBlock = some g → ¬ S g := fun g hg hs => by
  have := h.lt g hs
  have := (OwnN.lt o hg).1
  omega
theorem t_level (h : Twr W w t S th) (x : Int) (zs : List Int) (hs : levelT th x = zs) :
    Calls Try.prog 21 #[.pointer (some ⟨t, 0, none⟩), .int .i64 x] w fun y w' => ∃ v S', y = .returned v ∧ OwnN w.heap.size w' v zs ∧ (∀ g, v.ownBlock = some g → ¬ S' g) ∧ Twr W w' t S' th ∧ VKeep S S' w w' := by
  obtain ⟨p, q, hT, hS⟩ := h.at'
  refine (level_any hT x zs hs).mono ?_
  rintro e w1 ⟨v, rfl, o, h1, k1⟩
  exact ⟨v, S, rfl, o, h.fresh o, h.step hS h1 k1⟩
theorem t_from_yes (h : Twr W w t S th) (key : Int) (k : Nat) (hk : NextT th key k) :
    Calls Try.prog 11 #[.pointer (some ⟨t, 0, none⟩), .int .i64 key] w fun y w' => y = .returned (.tuple #[.int .i64 k, .bool true]) ∧ ∃ S', Twr W w' t S' th ∧ VKeep S S' w w' := by
  obtain ⟨p, q, hT, hS⟩ := h.at'
  refine (from_yes hT key k hk).mono ?_
  rintro e w1 ⟨rfl, h1, k1⟩
  exact ⟨rfl, S, h.step hS h1 k1⟩
theorem t_from_no (h : Twr W w t S th) (key : Int) (hk : ∀ j : Nat, j < 64 → key ≤ j → th j = 0) :
    Calls Try.prog 11 #[.pointer (some ⟨t, 0, none⟩), .int .i64 key] w fun y w' => y = .returned (.tuple #[.int .i64 0, .bool false]) ∧ ∃ S', Twr W w' t S' th ∧ VKeep S S' w w' := by
  obtain ⟨p, q, hT, hS⟩ := h.at'
  refine (from_no hT key hk).mono ?_
  rintro e w1 ⟨rfl, h1, k1⟩
  exact ⟨rfl, S, h.step hS h1 k1⟩
theorem t_range (h : Twr W w t S th) (lo hi : Int) (zs : List Int) (hs : rngT th lo hi 64 = zs) :
    Calls Try.prog 23 #[.pointer (some ⟨t, 0, none⟩), .int .i64 lo, .int .i64 hi] w fun y w' => ∃ v S', y = .returned v ∧ OwnN w.heap.size w' v zs ∧ (∀ g, v.ownBlock = some g → ¬ S' g) ∧ Twr W w' t S' th ∧ VKeep S S' w w' := by
  obtain ⟨p, q, hT, hS⟩ := h.at'
  refine (range_any hT lo hi zs hs).mono ?_
  rintro e w1 ⟨v, rfl, o, h1, k1⟩
  exact ⟨v, S, rfl, o, h.fresh o, h.step hS h1 k1⟩
theorem t_steps (h : Twr W w t S th) (key r : Int) (hs : stepsT th key = r) :
    Calls Try.prog 18 #[.pointer (some ⟨t, 0, none⟩), .int .i64 key] w fun y w' => y = .returned (.int .i64 r) ∧ ∃ S', Twr W w' t S' th ∧ VKeep S S' w w' := by
  obtain ⟨p, q, hT, hS⟩ := h.at'
  refine (steps_any hT key r hs).mono ?_
  rintro e w1 ⟨rfl, h1, k1⟩
  exact ⟨rfl, S, h.step hS h1 k1⟩
theorem t_len (h : Twr W w t S th) (r : Int) (hs : ((lvl th 1 64).length : Int) = r) :
    Calls Try.prog 14 #[.pointer (some ⟨t, 0, none⟩)] w fun y w' => y = .returned (.int .i64 r) ∧ ∃ S', Twr W w' t S' th ∧ VKeep S S' w w' := by
  obtain ⟨p, q, hT, hS⟩ := h.at'
  refine (len11_any hT r hs).mono ?_
  rintro e w1 ⟨rfl, h1, k1⟩
  exact ⟨rfl, S, h.step hS h1 k1⟩
theorem Twr.own (h : Twr W w t S th) {T : Nat → Prop} (kk : Keep T w w') (hT : ∀ g, T g → ¬ S g ∧ W.heap.size ≤ g) : Twr W w' t S th := by
  obtain ⟨p, q, h1, hS⟩ := h.at'
  have far : ∀ g, S g → ¬ T g := fun g hg ht => (hT g ht).1 hg
  exact ⟨h.h4, h.far, h.g, fun x hx => Nat.lt_of_lt_of_le (h.lt x hx) kk.size, h.b.trans (kk.below h.b.size (fun g hg => (hT g hg).2)), p, q, h1.keep kk (far t ((hS t).2 (.inl rfl))) (far p ((hS p).2 (.inr (.inl rfl)))) (far q ((hS q).2 (.inr (.inr rfl)))), hS⟩
theorem Twr.quiet (h : Twr W w t S th) (kk : Keep (fun _ => False) w w') : Twr W w' t S th := h.own kk (fun g hg => hg.elim)
end
set_option maxRecDepth 100000 in
theorem awake11_any (w : World) : Calls Try.prog 12 #[] w fun e w' => e = .returned (.bool true) ∧ Below w.heap.size w w' := by
  go_enter Try.func12, Try.ntmps12
  go_wp2_with fail
  refine (t_new (Below.refl _ w)).mono ?_
  rintro e w1 ⟨t, S1, rfl, h1, k1, _⟩
  go_wp2_with fail
  refine (t_put h1 5 2 true 0 (fun j => if j = 5 then 2 else 0) (by rfl)).mono ?_
  rintro e w2 ⟨rfl, S2, h2, k2⟩
  go_wp2_with fail
  refine (t_put h2 3 1 true 0 (fun j => if j = 3 then 1 else if j = 5 then 2 else 0) (by rfl)).mono ?_
  rintro e w3 ⟨rfl, S3, h3, k3⟩
  go_wp2_with fail
  refine (t_range h3 0 9 [3, 5] (by rfl)).mono ?_
  rintro e w4 ⟨v4, S4, rfl, o4, n4, h4, k4⟩
  obtain ⟨A, c, rfl, hA, hA2⟩ := o4.shapeN
  obtain ⟨g, rfl⟩ : ∃ g, A = some ⟨g, 0, none⟩ := by
    cases A with
    | none => exact absurd (hA rfl) (by simp)
    | some ad => obtain ⟨g, rfl⟩ := hA2 _ rfl; exact ⟨g, rfl⟩
  have KA := Keep.alloc (Keep.refl (fun _ => False) w4) (.cells #[.int .i64 3, .int .i64 5] 3)
  have x0 : ∀ i, i < 2 → (w4.alloc (.cells #[.int .i64 3, .int .i64 5] 3)).cell? ⟨g, 0 + i, none⟩ = some (.int .i64 (([3, 5] : List Int).getD i 0)) := fun i hi => by
    rw [Nat.zero_add]; exact KA.cell (o4.cell i hi) (by simp)
  have y0 : ∀ i, i < 2 → (w4.alloc (.cells #[.int .i64 3, .int .i64 5] 3)).cell? ⟨w4.heap.size, 0 + i, none⟩ = some (.int .i64 (([3, 5] : List Int).getD i 0)) := fun i hi => by
    rcases (by omega : i = 0 ∨ i = 1) with rfl | rfl <;> simp
  have hS := sameN_yes g w4.heap.size 0 0 c 2 [3, 5] _ (by decide) x0 y0
  have h5 := h4.quiet KA
  clear x0 y0 hA hA2 o4 n4 h1 h2 h3 k1 k2 k3
  go_wp2_with fail
  refine hS.mono ?_
  rintro e w5 ⟨rfl, d, rfl⟩
  have h6 := h5.quiet (drewN_keep _ _ d)
  clear hS h5 h4 KA
  go_wp2_with fail
  refine (t_height h6 5 2 (by rfl)).mono ?_
  rintro e w7 ⟨rfl, S7, h7, k7⟩
  go_wp2_with fail
  refine (t_len h7 2 (by rfl)).mono ?_
  rintro e w8 ⟨rfl, S8, h8, k8⟩
  go_wp2
  go_ret
  exact ⟨rfl, h8.b⟩
end Go.Proofs.Yteaanaggcenloaa
