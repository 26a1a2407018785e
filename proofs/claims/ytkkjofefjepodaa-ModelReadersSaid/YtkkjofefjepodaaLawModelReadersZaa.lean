/- A Model of whole calls in plain lists, for ModelReaders: no version, sessions that only read. No dump; no condition. -/
import Derived.Test.YtkkjofefjepodaaModelBaseZaa
namespace Go.Proofs.Ytkkjofefjepodaa
set_option linter.unusedVariables false
set_option linter.unusedSimpArgs false
/-- No versions, the clock at t of 100, the sessions from a to b live, the others don't. -/
structure Rd (a b : Nat) (t : Int) (x : MoI) : Prop where
 v : x.v = []
 l : x.limit = 100
 t : x.time = t
 m : x.made ≤ 8
 m0 : 0 ≤ x.made
 s : ∀ i, i < 8 → ((x.s i).id ≠ 0 ↔ a ≤ i ∧ i < b)
section
variable {a b : Nat} {t : Int} {x : MoI} {k : Nat}
theorem rd_new : Rd 0 0 0 (new0 5 100) := ⟨rfl, rfl, rfl, by decide, by decide, fun i hi => ⟨fun c => absurd rfl c, fun c => by omega⟩⟩
theorem rd_beg (h : Rd 0 b t x) (hb : b < 8) (hm : x.made = b) (ht : t < 100) (level : Int) (lv : 1 ≤ level ∧ level ≤ 3) : ∃ y, x.begE b level = 0 ∧ x.begN b level = b + 1 ∧ x.beg b level = y ∧ Rd 0 (b + 1) (t + 1) y ∧ y.made = ((b + 1 : Nat) : Int) := by
 have h0 : (x.s b).id = 0 := Classical.byContradiction fun c => by have := (h.s b hb).1 c; omega
 obtain ⟨e, n1, b1⟩ := beg_in (x := x) hb h0 level lv (by omega) (by rw [h.t, h.l]; exact ht)
 refine ⟨_, e, by rw [n1, hm], b1, ⟨h.v, h.l, by show x.time + 1 = _; rw [h.t], by show x.made + 1 ≤ 8; omega, by show 0 ≤ x.made + 1; omega, fun i hi => ?_⟩, by show x.made + 1 = _; rw [hm]; omega⟩
 show (putS x.s b _ i).id ≠ 0 ↔ _
 by_cases c : i = b
 ·rw [c, putS_self]
  refine ⟨fun _ => by omega, fun _ => ?_⟩
  show x.made + 1 ≠ 0
  omega
 ·rw [putS_ne _ _ c, h.s i hi]
  omega
theorem rd_put (h : Rd a b t x) (hk : k < 8) (hl : (x.s k).id ≠ 0) (u : TxI) (hu : u.id = (x.s k).id) : Rd a b t { x with s := putS x.s k u } :=
 ⟨h.v, h.l, h.t, h.m, h.m0, fun i hi => by
  show (putS x.s k u i).id ≠ 0 ↔ _
  by_cases c : i = k
  ·rw [c, putS_self, hu]; exact h.s k hk
  ·rw [putS_ne _ _ c]; exact h.s i hi⟩
/-- A read: many, or nothing there. -/
theorem rd_do (h : Rd a b t x) (hk : k < 8) (hl : (x.s k).id ≠ 0) (o : OpI) (hok : okI o = true) (ho : o.kind = 1 ∨ o.kind = 5) :
  (x.doE k o = 65 ∧ x.doR k o = re0 ∧ x.doM k o = x) ∨ ∃ y c, x.doE k o = 0 ∧ x.doR k o = ⟨c, 0, [], 0, 0⟩ ∧ x.doM k o = y ∧ Rd a b t y := by
 have hb : ¬ ((k : Int) < 0 ∨ 7 < (k : Int)) := by omega
 have hbad : ¬ ((x.s k).id = 0 ∨ okI o = false) := fun c => by rcases c with c | c; exact hl c; rw [hok] at c; cases c
 have h67 : ¬ (o.kind = 7 ∨ o.kind = 6) := by omega
 by_cases hm : 12 ≤ (x.s k).ops
 ·have e : x.doE k o = 65 := by unfold MoI.doE; rw [if_neg hb]; exact (if_neg hbad).trans ((if_neg h67).trans (if_pos hm))
  exact .inl ⟨e, by unfold MoI.doR; rw [e]; rfl, by unfold MoI.doM; rw [e]; rfl⟩
 ·have e : x.doE k o = 0 := by unfold MoI.doE; rw [if_neg hb]; exact (if_neg hbad).trans ((if_neg h67).trans (if_neg hm))
  have e1 : x.doR k o = (x.run k o).1 := by unfold MoI.doR; rw [e]; rfl
  have e2 : x.doM k o = (x.run k o).2 := by unfold MoI.doM; rw [e]; rfl
  have c1 := count_at x k
  have hc : Rd a b t (x.count k) := rd_put h hk hl _ rfl
  have hlc : ((x.count k).s k).id ≠ 0 := by rw [c1]; exact hl
  have no : ∀ id at' key, seesI (x.count k).v id at' key = none := fun id at' key => by
   show seesI x.v _ _ _ = none
   rw [h.v]
   rfl
  right
  rw [e, e1, e2]
  rcases ho with q | q
  ·have r : x.run k o = (x.count k).get k o := by unfold MoI.run; rw [if_neg (by omega), if_neg (by omega), if_pos q]
   rw [r]
   unfold MoI.get
   simp only
   rw [no]
   refine ⟨_, 11, trivial, rfl, rfl, ?_⟩
   split
   ·exact hc
   ·exact rd_put hc hk hlc _ rfl
  ·have r : x.run k o = (x.count k).scan k o := by unfold MoI.run; rw [if_neg (by omega), if_neg (by omega), if_neg (by omega), if_pos q]
   rw [r]
   refine ⟨_, 0, rfl, ?_, rfl, rd_put hc hk hlc _ rfl⟩
   unfold MoI.scan scanI
   have : ∀ l : List Int, l.flatMap (pairI (x.count k).v ((x.count k).s k).id ((x.count k).s k).start) = [] := fun l => by
    rw [List.flatMap_eq_nil_iff]
    intro key _
    unfold pairI
    rw [no]
   simp only [this]
theorem rd_commit (h : Rd k b t x) (hk : k < b) (hb : b ≤ 8) (ht : t < 100) : ∃ y, x.doE k ⟨6, 0, 0, 0⟩ = 0 ∧ x.doR k ⟨6, 0, 0, 0⟩ = ⟨0, 0, [], 3, 0⟩ ∧ x.doM k ⟨6, 0, 0, 0⟩ = y ∧ Rd (k + 1) b (t + 1) y := by
 have hl : (x.s k).id ≠ 0 := (h.s k (by omega)).2 ⟨Nat.le_refl _, hk⟩
 obtain ⟨d1, d2, d3⟩ := do_commit (by omega) hl
 have hh : ({ x with time := x.time + 1 } : MoI).holds (x.s k) = true := by
  unfold MoI.holds
  rw [List.all_eq_true]
  intro r hr
  rw [Bool.or_eq_true]
  right
  rw [List.all_eq_true]
  intro key _
  have e : ({ x with time := x.time + 1 } : MoI).v = [] := h.v
  rw [e]
  exact decide_eq_true rfl
 have e : x.commit k = (⟨0, 0, [], 3, 0⟩, { x with time := x.time + 1, v := x.v.map (doneV (x.s k).id (x.time + 1)), s := putS x.s k tx0 }) := by
  unfold MoI.commit
  rw [if_neg (by rw [h.l, h.t]; omega)]
  simp only
  rw [if_neg (fun c => by have := c.2; rw [hh] at this; cases this)]
 rw [e] at d2 d3
 refine ⟨_, d1, d2, d3, by show x.v.map _ = []; rw [h.v]; rfl, h.l, by show x.time + 1 = _; rw [h.t], h.m, h.m0, fun i hi => ?_⟩
 show (putS x.s k tx0 i).id ≠ 0 ↔ _
 by_cases c : i = k
 ·rw [c, putS_self]
  exact ⟨fun q => absurd rfl q, fun q => by omega⟩
 ·rw [putS_ne _ _ c, h.s i hi]
  omega
/-- The end: nothing there, nobody lives. -/
theorem rd_end (h : Rd 8 8 t x) : x.live = [] ∧ (x.v.length : Int) = 0 ∧ x.time = t := by
 refine ⟨?_, by rw [h.v]; rfl, h.t⟩
 unfold MoI.live
 have : (List.range 8).filter (fun i => decide ((x.s i).id ≠ 0)) = [] := List.filter_eq_nil_iff.2 fun i hi c => by
  have i8 := List.mem_range.1 hi
  have := (h.s i i8).1 (of_decide_eq_true c)
  omega
 rw [this]
 rfl
end
end Go.Proofs.Ytkkjofefjepodaa
