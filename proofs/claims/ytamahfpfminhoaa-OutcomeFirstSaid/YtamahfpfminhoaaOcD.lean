/- Outcomes and gates, as layer 18's statements walk with them: contracts of package outcome, each out of XOcO, XOcG, XOcL, and of the statements' awake. -/
import Derived.Test.YtamahfpfminhoaaOcO
import Derived.Test.YtamahfpfminhoaaOcG
import Derived.Test.YtamahfpfminhoaaOcL
namespace Go.Proofs.Ytamahfpfminhoaa
open Go.ChangeShapes Go.WideShapes Go.ChangeAt Go.RowKit
set_option linter.unusedVariables false

theorem i64_mask4 (n : Int) : bits .and .i64 n 15 = n % 16 := i64_mask n 4 (by decide)
theorem i64_mask6 (n : Int) : bits .and .i64 n 63 = n % 64 := i64_mask n 6 (by decide)
/-- Since W an Outcome o has been made, in the new block S; nothing of W has turned. -/
structure Oc (W w : World) (o : Nat) (S : Nat → Prop) (s : OcI) : Prop where
  a : OcAt w o s
  so : ∀ k, S k ↔ k = o
  ge : W.heap.size ≤ o
  b : Below W.heap.size W w
/-- Since W a Gate g has been made, n may pass yet. -/
structure Ga (W w : World) (o : Nat) (S : Nat → Prop) (n : Int) : Prop where
  a : GaAt w o n
  so : ∀ k, S k ↔ k = o
  ge : W.heap.size ≤ o
  n0 : 0 ≤ n
  n1 : n ≤ 9223372036854775807
  b : Below W.heap.size W w
section
variable {W w w' : World} {o : Nat} {S S' T : Nat → Prop} {s s' : OcI} {n : Int}
theorem Oc.own (h : Oc W w o S s) {X : Nat → Prop} (kk : Keep X w w') (hX : ∀ g, X g → ¬ S g ∧ W.heap.size ≤ g) : Oc W w' o S s :=
  ⟨h.a.keep kk (fun x => (hX o x).1 ((h.so o).2 rfl)), h.so, h.ge, h.b.trans (kk.below h.b.size (fun g hg => (hX g hg).2))⟩
theorem Oc.quiet (h : Oc W w o S s) (kk : Keep (fun _ => False) w w') : Oc W w' o S s := h.own kk (fun g hg => hg.elim)
theorem Oc.step (h : Oc W w o S s) (k : Keep (fun g => g = o) w w') (h' : OcAt w' o s') : ∃ S', Oc W w' o S' s' ∧ VKeep S S' w w' :=
  ⟨S, ⟨h', h.so, h.ge, h.b.trans (k.below h.b.size (fun g hg => by subst hg; exact h.ge))⟩, k.mono (fun g hg => (h.so g).2 hg), fun k hk => .inl hk⟩
theorem Ga.step (h : Ga W w o S n) {m : Int} (k : Keep (fun g => g = o) w w') (h' : GaAt w' o m) (m0 : 0 ≤ m) (m1 : m ≤ 9223372036854775807) : ∃ S', Ga W w' o S' m ∧ VKeep S S' w w' :=
  ⟨S, ⟨h', h.so, h.ge, m0, m1, h.b.trans (k.below h.b.size (fun g hg => by subst hg; exact h.ge))⟩, k.mono (fun g hg => (h.so g).2 hg), fun k hk => .inl hk⟩
theorem oc_new (w : World) : Calls Try.prog 7 #[] w fun e w' => ∃ o S, e = .returned (.pointer (some ⟨o, 0, none⟩)) ∧ Oc w w' o S ⟨0, 0, false, 0⟩ := by
  refine (outcome_new w).mono ?_
  rintro e w' ⟨o, rfl, h, k, g⟩
  exact ⟨o, fun k => k = o, rfl, h, fun _ => Iff.rfl, g, k.below (Nat.le_refl _) (fun _ e => e.elim)⟩
theorem oc_tell (h : Oc W w o S s) (hn : s.n ≤ 1000) (a r : Int) (ha : -9223372036854775808 ≤ a ∧ a ≤ 9223372036854775807) (hr : -9223372036854775808 ≤ r ∧ r ≤ 9223372036854775807) (b : Bool) (s' : OcI) (hs : s.tell a r = (b, s')) :
    Calls Try.prog 8 #[.pointer (some ⟨o, 0, none⟩), .int .i64 a, .int .i64 r] w fun e w' => e = .returned (.bool b) ∧ ∃ S', Oc W w' o S' s' ∧ VKeep S S' w w' := by
  have := tell_any h.a hn a r
  rw [hs] at this
  refine this.mono ?_
  rintro e w' ⟨rfl, h', k⟩
  exact ⟨rfl, h.step k h'⟩
theorem oc_get (h : Oc W w o S s) :
    Calls Try.prog 9 #[.pointer (some ⟨o, 0, none⟩)] w fun e w' => e = .returned (.tuple #[.int .i64 s.st, .int .i64 s.rs, .bool s.told]) ∧ ∃ S', Oc W w' o S' s ∧ VKeep S S' w w' := by
  refine (outcome_get h.a).mono ?_
  rintro e w' ⟨rfl, k⟩
  exact ⟨rfl, S, h.quiet k, k.mono (fun _ e => e.elim), fun k hk => .inl hk⟩
theorem oc_count (h : Oc W w o S s) (m : Int) (hm : (s.n : Int) = m) (hn : s.n ≤ 1000) :
    Calls Try.prog 10 #[.pointer (some ⟨o, 0, none⟩)] w fun e w' => e = .returned (.int .i64 m) ∧ ∃ S', Oc W w' o S' s ∧ VKeep S S' w w' := by
  subst hm
  refine (outcome_count h.a).mono ?_
  rintro e w' ⟨rfl, rfl⟩
  exact ⟨rfl, S, h, Keep.refl _ _, fun k hk => .inl hk⟩
theorem ga_new (w : World) (n : Int) (hn : -9223372036854775808 ≤ n ∧ n ≤ 9223372036854775807) (m : Int) (hm : max n 0 = m) :
    Calls Try.prog 23 #[.int .i64 n] w fun e w' => ∃ o S, e = .returned (.pointer (some ⟨o, 0, none⟩)) ∧ Ga w w' o S m := by
  refine (gate_new w n m hn hm).mono ?_
  rintro e w' ⟨o, rfl, h, k, g⟩
  exact ⟨o, fun k => k = o, rfl, h, fun _ => Iff.rfl, g, by omega, by omega, k.below (Nat.le_refl _) (fun _ e => e.elim)⟩
theorem ga_pass (h : Ga W w o S n) (b : Bool) (hb : decide (0 < n) = b) (m : Int) (hm : max (n - 1) 0 = m) :
    Calls Try.prog 25 #[.pointer (some ⟨o, 0, none⟩)] w fun e w' => e = .returned (.bool b) ∧ ∃ S', Ga W w' o S' m ∧ VKeep S S' w w' := by
  have h0 := h.n0
  have h1 := h.n1
  refine (gate_pass h.a h0 h1 b hb m hm).mono ?_
  rintro e w' ⟨rfl, h', k⟩
  exact ⟨rfl, h.step k h' (by omega) (by omega)⟩
theorem ga_left (h : Ga W w o S n) :
    Calls Try.prog 24 #[.pointer (some ⟨o, 0, none⟩)] w fun e w' => e = .returned (.int .i64 n) ∧ ∃ S', Ga W w' o S' n ∧ VKeep S S' w w' := by
  refine (gate_left h.a).mono ?_
  rintro e w' ⟨rfl, rfl⟩
  exact ⟨rfl, S, h, Keep.refl _ _, fun k hk => .inl hk⟩
end
theorem seven (w : World) : Calls Try.prog 32 #[] w fun e w' => e = .returned (.int .i64 7) ∧ w = w' := by
  go_enter Try.func32, Try.ntmps32
  go_wp2
  go_ret
  exact ⟨rfl, rfl⟩
theorem seven_ent (a : Array Value) (w : World) : (callFunc 32 a).run Try.prog w = .ok (.enter 32 a) w := by kernel_rfl
set_option maxRecDepth 100000 in
theorem awake18_any (w : World) : Calls Try.prog 11 #[] w fun e w' => e = .returned (.bool true) ∧ Below w.heap.size w w' := by
  go_enter Try.func11, Try.ntmps11
  go_wp2_with fail
  refine (outcome_new w).mono ?_
  rintro e w1 ⟨o, rfl, h1, k1, g1⟩
  have l1 := h1.lt
  go_wp2_with fail
  refine (make_anyI w1 ⟨true, .inr ⟨_, _, rfl, rfl⟩⟩).mono ?_
  rintro e w2 ⟨l, rfl, z2, k2, g2⟩
  have l2 := z2.lt
  go_wp2_with fail
  refine (gate_new w2 1 1 (by omega) (by omega)).mono ?_
  rintro e w3 ⟨g, rfl, a3, k3, g3⟩
  have s1 := k1.size
  have s2 := k2.size
  have s3 := k3.size
  have h3 := (h1.keep k2 id).keep k3 id
  have z3 := z2.keep k3 id
  have K3 : Keep (fun j => w.heap.size ≤ j) w w3 := (((k1.trans k2).trans k3).mono fun _ e => e.elim)
  clear h1 k1 k2 k3 z2
  go_wp2_with fail
  refine (tell_now h3 (by decide) 4 2 (.inr rfl) rfl).mono ?_
  rintro e w4 ⟨rfl, h4, k4⟩
  have z4 := z3.keep k4 (by omega)
  have a4 := a3.keep k4 (by omega)
  have K4 := K3.trans (k4.mono (T := fun j => w.heap.size ≤ j) fun j e => by subst e; exact g1)
  clear h3 z3 a3 K3 k4
  go_wp2_with fail
  refine (tell_late h4 (by decide) 3 0 (.inl rfl) rfl).mono ?_
  rintro e w5 ⟨rfl, h5, k5⟩
  have z5 := z4.keep k5 (by omega)
  have a5 := a4.keep k5 (by omega)
  have K5 := K4.trans (k5.mono (T := fun j => w.heap.size ≤ j) fun j e => by subst e; exact g1)
  clear h4 z4 a4 K4 k5
  go_wp2_with fail
  refine (outcome_get h5).mono ?_
  rintro e w6 ⟨rfl, k6⟩
  have h6 := h5.keep k6 id
  have z6 := z5.keep k6 id
  have a6 := a5.keep k6 id
  have K6 := K5.trans (k6.mono (T := fun j => w.heap.size ≤ j) fun j e => e.elim)
  clear h5 z5 a5 K5 k6
  go_wp2_with fail
  refine (outcome_count h6).mono ?_
  rintro e w7 ⟨rfl, rfl⟩
  go_wp2_with fail
  refine (done_anyI z6).mono ?_
  rintro e w7 ⟨rfl, rfl⟩
  have GF := get_firstI (R := fun a b => a = b) (X := fun _ => False) seven_ent z6 (fun w1 _ => seven w1) (fun _ _ e => by subst e; exact Keep.refl _ _) id
  go_wp2_with fail
  refine GF.mono ?_
  rintro e w8 ⟨rfl, x1, x2, q, kx, rfl, ky, z8, b8, q8⟩
  have k8 := kx.trans ky
  have a8 := a6.keep k8 (by omega)
  have K8 := K6.trans (k8.mono (T := fun j => w.heap.size ≤ j) fun j e => by subst e; omega)
  clear h6 z6 a6 K6 kx ky k8 GF
  go_wp2_with fail
  refine (done_anyI z8).mono ?_
  rintro e w7 ⟨rfl, rfl⟩
  go_wp2_with fail
  refine (gate_pass a8 (by omega) (by omega) true (by decide) 0 (by omega)).mono ?_
  rintro e w9 ⟨rfl, a9, k9⟩
  have K9 := K8.trans (k9.mono (T := fun j => w.heap.size ≤ j) fun j e => by subst e; omega)
  clear K8 a8 z8
  go_wp2_with fail
  refine (gate_pass a9 (by omega) (by omega) false (by decide) 0 (by omega)).mono ?_
  rintro e w10 ⟨rfl, a10, k10⟩
  have K10 := K9.trans (k10.mono (T := fun j => w.heap.size ≤ j) fun j e => by subst e; omega)
  go_wp2
  go_ret
  exact ⟨rfl, K10.below (Nat.le_refl _) (fun _ e => e)⟩
end Go.Proofs.Ytamahfpfminhoaa
