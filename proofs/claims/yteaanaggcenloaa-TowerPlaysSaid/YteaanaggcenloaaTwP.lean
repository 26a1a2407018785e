/- For TowerPlays: a Tower, the document's own Tower, and an op, each in blocks of its own; what Range tells of the next key. No condition but those of the Tower. -/
import Derived.Test.YteaanaggcenloaaTwD
import Derived.Test.YteaanaggcenloaaRefW
namespace Go.Proofs.Yteaanaggcenloaa
open Go.ChangeShapes Go.WideShapes Go.ChangeAt Go.RowKit
set_option linter.unusedVariables false

structure TP (W w : World) (t : Nat) (S : Nat → Prop) (th : Nat → Nat) (b : Nat) (th2 : Nat → Nat) (ob : Nat) (cs : List Value) : Prop where
  r : Twr W w t S th
  q : RTw w b th2
  nb : ¬ S b
  gb : W.heap.size ≤ b
  co : ∀ i u, cs[i]? = some u → w.cell? ⟨ob, i, none⟩ = some u
  no : cs = [] ∨ (¬ S ob ∧ ob ≠ b ∧ ob < w.heap.size)
section
variable {W w w' : World} {t b ob ob' : Nat} {S S' : Nat → Prop} {th th' th2 th2' : Nat → Nat} {cs cs' : List Value}
theorem TP.tstep (h : TP W w t S th b th2 ob cs) (hr : Twr W w' t S' th') (kk : VKeep S S' w w') : TP W w' t S' th' b th2 ob cs :=
  ⟨hr, h.q.keep kk.1 h.nb, fun x => by rcases kk.2 _ x with y | y; exact h.nb y; have := h.q.t.lt; omega, h.gb, fun i u hu => by
    rcases h.no with e | ⟨e, _, _⟩
    · rw [e] at hu; simp at hu
    · exact kk.1.cell (h.co i u hu) e, h.no.imp_right (fun e => ⟨fun x => by rcases kk.2 _ x with y | y; exact e.1 y; have := e.2.2; omega, e.2.1, Nat.lt_of_lt_of_le e.2.2 kk.1.size⟩)⟩
theorem TP.qstep (h : TP W w t S th b th2 ob cs) (hq : RTw w' b th2') (kk : Keep (fun j => j = b) w w') : TP W w' t S th b th2' ob cs :=
  ⟨h.r.own kk (fun g hg => by have hg : g = b := hg; subst hg; exact ⟨h.nb, h.gb⟩), hq, h.nb, h.gb, fun i u hu => by
    rcases h.no with e | ⟨_, e, _⟩
    · rw [e] at hu; simp at hu
    · exact kk.cell (h.co i u hu) e, h.no.imp_right (fun e => ⟨e.1, e.2.1, Nat.lt_of_lt_of_le e.2.2 kk.size⟩)⟩
theorem TP.quiet (h : TP W w t S th b th2 ob cs) (kk : Keep (fun _ => False) w w') : TP W w' t S th b th2 ob cs :=
  ⟨h.r.quiet kk, h.q.keep kk (by simp), h.nb, h.gb, fun i u hu => kk.cell (h.co i u hu) (by simp), h.no.imp_right (fun e => ⟨e.1, e.2.1, Nat.lt_of_lt_of_le e.2.2 kk.size⟩)⟩
theorem TP.op (h : TP W w t S th b th2 ob cs) (kk : Keep (fun _ => False) w w') (hb : w.heap.size ≤ ob') (hb2 : ob' < w'.heap.size) (hc : ∀ i u, cs'[i]? = some u → w'.cell? ⟨ob', i, none⟩ = some u) : TP W w' t S th b th2 ob' cs' :=
  have q := h.quiet kk
  ⟨q.r, q.q, q.nb, q.gb, hc, .inr ⟨fun x => by have := h.r.lt _ x; omega, by have := h.q.t.lt; omega, hb2⟩⟩
theorem TP.noop (h : TP W w t S th b th2 ob cs) : TP W w t S th b th2 ob [] := ⟨h.r, h.q, h.nb, h.gb, fun i u hu => by simp at hu, .inl rfl⟩
end
theorem rng_none {th : Nat → Nat} {key : Int} (h : ∀ j : Nat, j < 64 → key ≤ j → th j = 0) : ∀ m, m ≤ 64 → rngT th key 63 m = []
  | 0, _ => rfl
  | m + 1, hm => by
    unfold rngT
    rw [if_neg, rng_none h m (by omega)]
    rintro ⟨h1, h2, _⟩
    have := h m (by omega) h2
    omega
theorem rng_next {th : Nat → Nat} {key : Int} {k : Nat} (h : NextT th key k) : ∀ m, k < m → m ≤ 64 → ∃ t, rngT th key 63 m = (k : Int) :: t
  | m + 1, hk, hm => by
    unfold rngT
    by_cases e : m = k
    · subst e
      have : rngT th key 63 m = [] := by
        have none : ∀ i, i ≤ m → rngT th key 63 i = [] := by
          intro i
          induction i with
          | zero => intro _; rfl
          | succ i ih =>
            intro hi
            unfold rngT
            rw [if_neg, ih (by omega)]
            rintro ⟨h1, h2, _⟩
            have := h.no i (by omega) h2
            omega
        exact none m (Nat.le_refl _)
      rw [this, if_pos ⟨h.here, h.le, by omega⟩]
      exact ⟨[], rfl⟩
    · obtain ⟨t, ht⟩ := rng_next h m (by omega) (by omega)
      rw [ht]
      split
      · exact ⟨t ++ [(m : Int)], rfl⟩
      · exact ⟨t, rfl⟩
theorem lvl_rng {th : Nat → Nat} : ∀ m, m ≤ 64 → lvl th 1 m = rngT th 0 63 m
  | 0, _ => rfl
  | m + 1, hm => by
    unfold lvl rngT
    rw [lvl_rng m (by omega)]
    by_cases h : 0 < th m
    · rw [if_pos (by omega), if_pos ⟨h, by omega, by omega⟩]
    · rw [if_neg (by omega), if_neg (fun h' => h h'.1)]
end Go.Proofs.Yteaanaggcenloaa
