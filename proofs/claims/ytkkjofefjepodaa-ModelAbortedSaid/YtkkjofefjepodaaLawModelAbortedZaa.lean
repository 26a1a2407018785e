/- A Model of whole calls in plain lists, for ModelAborted: one writes and is aborted, another one reads and writes behind it. No dump; no condition. -/
import Derived.Test.YtkkjofefjepodaaModelBaseZaa
namespace Go.Proofs.Ytkkjofefjepodaa
set_option linter.unusedVariables false
set_option linter.unusedSimpArgs false
def cA (e : Int) : VrI := ⟨1, 10, 0, e, 2, 0, false⟩
def cB (e : Int) : VrI := ⟨2, 20, 0, e, 2, 0, false⟩
/-- Session 0 (number 2) has asked n times and wrote; session 1 (number 3) has begun. -/
structure Ab (b : Int) (n : Nat) (x : MoI) : Prop where
 sl : x.slots = 50
 l : x.limit = 100
 t : x.time = 4
 m : x.made = 3
 s0 : (x.s 0).id = 2 ∧ (x.s 0).start = 3 ∧ (x.s 0).ops = n
 s1 : x.s 1 = ⟨3, b, 0, 4, [], []⟩
 s2 : ∀ i, 2 ≤ i → x.s i = tx0
 v : ∃ e1 e2 D, x.v = cA e1 :: cB e2 :: D ∧ (e1 = 0 ∨ e1 = 2) ∧ (e2 = 0 ∨ e2 = 2) ∧ (∀ y ∈ D, y.bY = 2 ∧ y.stop = 0) ∧ D.length ≤ n
theorem ab_new (b : Int) : Ab b 0 (pairL 1 b) := ⟨rfl, rfl, rfl, rfl, ⟨rfl, rfl, rfl⟩, rfl, fun i hi => by
 show ([_, _, tx0, tx0, tx0, tx0, tx0, tx0] : List TxI).getD i tx0 = tx0
 match i, hi with
 | 2, _ => rfl
 | 3, _ => rfl
 | 4, _ => rfl
 | 5, _ => rfl
 | 6, _ => rfl
 | 7, _ => rfl
 | n + 8, _ => rfl, ⟨0, 0, [], rfl, .inl rfl, .inl rfl, (fun y hy => by cases hy), Nat.le_refl _⟩⟩
section
variable {b : Int} {n : Nat} {x : MoI} {o : OpI}
theorem Ab.put (h : Ab b n x) (u : TxI) (hu : u.id = 2 ∧ u.start = 3 ∧ u.ops = ((n + 1 : Nat) : Int)) (v : List VrI) (hv : ∃ e1 e2 D, v = cA e1 :: cB e2 :: D ∧ (e1 = 0 ∨ e1 = 2) ∧ (e2 = 0 ∨ e2 = 2) ∧ (∀ y ∈ D, y.bY = 2 ∧ y.stop = 0) ∧ D.length ≤ n + 1) : Ab b (n + 1) { x with s := putS x.s 0 u, v := v } :=
 ⟨h.sl, h.l, h.t, h.m, by show (putS x.s 0 u 0).id = 2 ∧ (putS x.s 0 u 0).start = 3 ∧ (putS x.s 0 u 0).ops = _; rw [putS_self]; exact hu, by show putS x.s 0 u 1 = _; rw [putS_ne _ _ (by decide)]; exact h.s1, fun i hi => by show putS x.s 0 u i = _; rw [putS_ne _ _ (by omega)]; exact h.s2 i hi, hv⟩
theorem Ab.vs (h : Ab b n x) : ∃ e1 e2 D, x.v = cA e1 :: cB e2 :: D ∧ (e1 = 0 ∨ e1 = 2) ∧ (e2 = 0 ∨ e2 = 2) ∧ (∀ y ∈ D, y.bY = 2 ∧ y.stop = 0) ∧ D.length ≤ n + 1 := by
 obtain ⟨e1, e2, D, h1, h2, h3, h4, h5⟩ := h.v
 exact ⟨e1, e2, D, h1, h2, h3, h4, by omega⟩
theorem mod_ab {D : List VrI} {e1 e2 : Int} (i : Nat) (h1 : e1 = 0 ∨ e1 = 2) (h2 : e2 = 0 ∨ e2 = 2) (hD : ∀ y ∈ D, y.bY = 2 ∧ y.stop = 0) : ∃ e1' e2' D', setV (cA e1 :: cB e2 :: D) i (fun y => { y with ended := 2 }) = cA e1' :: cB e2' :: D' ∧ (e1' = 0 ∨ e1' = 2) ∧ (e2' = 0 ∨ e2' = 2) ∧ (∀ y ∈ D', y.bY = 2 ∧ y.stop = 0) ∧ D'.length = D.length := by
  match i with
  | 0 => exact ⟨2, e2, D, rfl, .inr rfl, h2, hD, rfl⟩
  | 1 => exact ⟨e1, 2, D, rfl, h1, .inr rfl, hD, rfl⟩
  | i + 2 =>
    refine ⟨e1, e2, D.modify i fun y => { y with ended := 2 }, rfl, h1, h2, fun y hy => ?_, List.length_modify _ _ _⟩
    rcases mem_modify hy with ⟨j, _, hj⟩ | ⟨a, ha, rfl⟩
    · exact hD y (List.mem_of_getElem? hj)
    · exact hD a (List.mem_of_getElem? ha)
def stB (v : List VrI) (k : Option Nat) : Option Nat → List VrI
 | some i => if k = some i then v else setV v i fun y => { y with ended := 2 }
 | none => v
def wrB (v1 : List VrI) (o : OpI) : Option Nat → List VrI
 | some j => if o.kind = 4 then setV v1 j fun y => { y with ended := 2 } else setV v1 j fun y => { y with ended := 0, val := o.val }
 | none => if o.kind = 4 then v1 else v1 ++ [⟨o.key, o.val, 2, 0, 0, 0, false⟩]
theorem stB_some (v : List VrI) (k : Option Nat) (i : Nat) : stB v k (some i) = if k = some i then v else setV v i fun y => { y with ended := 2 } := rfl
theorem wrB_some (v : List VrI) (o : OpI) (j : Nat) : wrB v o (some j) = if o.kind = 4 then setV v j fun y => { y with ended := 2 } else setV v j fun y => { y with ended := 0, val := o.val } := rfl
theorem wrB_none (v : List VrI) (o : OpI) : wrB v o none = if o.kind = 4 then v else v ++ [⟨o.key, o.val, 2, 0, 0, 0, false⟩] := rfl
theorem wroteV_B (v : List VrI) (o : OpI) (at' k : Option Nat) : MoI.wroteV v 2 o at' k = wrB (stB v k at') o k := by
 cases at' <;> cases k <;> rfl
/-- A write of session 0: it goes through, or finds nothing, or too much; it does not end. -/
theorem ab_write (h : Ab b n x) (hn : n < 12) (hok : okI o = true) (hk : o.kind = 2 ∨ o.kind = 3 ∨ o.kind = 4) : ∃ y ve, x.doE 0 o = 0 ∧ x.doR 0 o = ⟨ve, 0, [], 0, 0⟩ ∧ x.doM 0 o = y ∧ Ab b (n + 1) y := by
  obtain ⟨i0, i1, i2⟩ := h.s0
  have e : x.doE 0 o = 0 := by
    unfold MoI.doE
    rw [if_neg (by decide)]
    refine (if_neg (fun c => ?_)).trans ((if_neg (by omega)).trans (if_neg ?_))
    · rcases c with c | c
      · have c : (x.s 0).id = 0 := c
        omega
      · rw [hok] at c; cases c
    · show ¬ (12 : Int) ≤ (x.s 0).ops
      omega
  have r : x.run 0 o = (x.count 0).write 0 o := by unfold MoI.run; rw [if_neg (by omega), if_neg (by omega), if_neg (by omega), if_neg (by omega)]
  have e1 : x.doR 0 o = ((x.count 0).write 0 o).1 := by unfold MoI.doR; rw [if_pos e]; exact congrArg Prod.fst r
  have e2 : x.doM 0 o = ((x.count 0).write 0 o).2 := by unfold MoI.doM; rw [if_pos e]; exact congrArg Prod.snd r
  rw [e, e1, e2]
  have ca := count_at x 0
  have cv : (x.count 0).v = x.v := rfl
  have hc : Ab b (n + 1) (x.count 0) := h.put { x.s 0 with ops := (x.s 0).ops + 1 } ⟨i0, i1, by show (x.s 0).ops + 1 = _; omega⟩ x.v h.vs
  by_cases hno : ((o.kind = 2 ∧ seesI (x.count 0).v ((x.count 0).s 0).id ((x.count 0).s 0).start o.key ≠ none) ∨ (o.kind ≠ 2 ∧ seesI (x.count 0).v ((x.count 0).s 0).id ((x.count 0).s 0).start o.key = none))
  · rw [wr_no 0 o hno]
    refine ⟨_, _, rfl, rfl, rfl, ?_⟩
    simp only
    split
    · exact hc
    · rw [count_keepR]
      refine h.put _ ?_ x.v h.vs
      exact ⟨i0, i1, by show (x.s 0).ops + 1 = _; omega⟩
  · obtain ⟨a1, a2, D, hv, h1, h2, hD, hl⟩ := h.v
    have ht : (x.count 0).taken ((x.count 0).s 0).id ((x.count 0).s 0).start o.key = false := by
      rw [count_taken, ca]
      unfold MoI.taken
      rw [Bool.or_eq_false_iff]
      refine ⟨List.any_eq_false.2 fun i hi => ?_, List.any_eq_false.2 fun y hy => ?_⟩
      · rw [decide_eq_true_iff]
        rintro ⟨c1, c2, c3⟩
        have c2 : (x.s i).id ≠ (x.s 0).id := c2
        match i with
        | 0 => exact c2 rfl
        | 1 => rw [h.s1] at c3; cases c3
        | i + 2 => rw [h.s2 (i + 2) (by omega)] at c3; cases c3
      · rw [hv] at hy
        intro c
        have c := (later_iff.1 c).2.2
        have c : y.bY = 0 ∧ (x.s 0).start < y.start ∨ (x.s 0).start < y.stop := c
        rw [i1] at c
        rcases List.mem_cons.1 hy with q | q
        · subst q
          rcases c with ⟨_, c⟩ | c
          · have c : (3 : Int) < 2 := c; omega
          · have c : (3 : Int) < 0 := c; omega
        · rcases List.mem_cons.1 q with q | q
          · subst q
            rcases c with ⟨_, c⟩ | c
            · have c : (3 : Int) < 2 := c; omega
            · have c : (3 : Int) < 0 := c; omega
          · have := hD y q
            omega
    have len : x.v.length = D.length + 2 := by rw [hv]; rfl
    rw [wr_ok 0 o hno (.inr ht) (fun c => by have c := c.2.2; have c : x.slots ≤ (x.v.length : Int) := c; rw [h.sl, len] at c; omega)]
    refine ⟨_, 0, rfl, rfl, rfl, ?_⟩
    have cw : ((x.count 0).s 0).wrote = (x.s 0).wrote := by rw [ca]
    have ci : ((x.count 0).s 0).id = 2 := by rw [ca]; exact i0
    rw [cw, ci, cv]
    show Ab b (n + 1) { (if o.key ∈ (x.s 0).wrote then x.count 0 else (x.count 0).keepW 0 o.key) with v := MoI.wroteV x.v 2 o (seesI x.v 2 ((x.count 0).s 0).start o.key) (x.v.findIdx? (ownV 2 o.key)) }
    rw [count_wrote]
    refine h.put (wroteT (x.s 0) o.key) ⟨i0, i1, by show (x.s 0).ops + 1 = _; omega⟩ _ ?_
    obtain ⟨at', ea⟩ : ∃ a, seesI x.v 2 ((x.count 0).s 0).start o.key = a := ⟨_, rfl⟩
    rw [ea]
    -- the versions with what was seen ended
    have st : ∃ e1' e2' D', stB x.v (x.v.findIdx? (ownV 2 o.key)) at' = cA e1' :: cB e2' :: D' ∧ (e1' = 0 ∨ e1' = 2) ∧ (e2' = 0 ∨ e2' = 2) ∧ (∀ y ∈ D', y.bY = 2 ∧ y.stop = 0) ∧ D'.length = D.length := by
      cases at' with
      | none => exact ⟨a1, a2, D, hv, h1, h2, hD, rfl⟩
      | some i =>
        rw [stB_some]
        split
        · exact ⟨a1, a2, D, hv, h1, h2, hD, rfl⟩
        · rw [hv]; exact mod_ab i h1 h2 hD
    rw [wroteV_B]
    obtain ⟨V1, eV⟩ : ∃ V, stB x.v (x.v.findIdx? (ownV 2 o.key)) at' = V := ⟨_, rfl⟩
    rw [eV] at st ⊢
    obtain ⟨f1, f2, D', rfl, g1, g2, gD, gl⟩ := st
    cases ho : x.v.findIdx? (ownV 2 o.key) with
    | none =>
      rw [wrB_none]
      split
      · exact ⟨f1, f2, D', rfl, g1, g2, gD, by omega⟩
      · refine ⟨f1, f2, D' ++ [⟨o.key, o.val, 2, 0, 0, 0, false⟩], rfl, g1, g2, fun y hy => ?_, by rw [List.length_append, List.length_singleton]; omega⟩
        rcases List.mem_append.1 hy with q | q
        · exact gD y q
        · rw [List.mem_singleton] at q; subst q; exact ⟨rfl, rfl⟩
    | some j =>
      obtain ⟨lt, p, _⟩ := List.findIdx?_eq_some_iff_getElem.1 ho
      have pb := (own_iff.1 p).2.1
      rw [wrB_some]
      split
      · obtain ⟨e1', e2', D2, q1, q2, q3, q4, q5⟩ := mod_ab j g1 g2 gD
        exact ⟨e1', e2', D2, q1, q2, q3, q4, by omega⟩
      · match j with
        | 0 => simp only [hv] at pb; cases pb
        | 1 => simp only [hv] at pb; cases pb
        | j + 2 =>
          refine ⟨f1, f2, D'.modify j fun y => { y with ended := 0, val := o.val }, rfl, g1, g2, fun y hy => ?_, by rw [List.length_modify]; omega⟩
          rcases mem_modify hy with ⟨i, _, hi⟩ | ⟨a, ha, rfl⟩
          · exact gD y (List.mem_of_getElem? hi)
          · exact gD a (List.mem_of_getElem? ha)
/-- Behind the abort: two versions, and dead ones; session 1 has asked for k keys. -/
def rdB (k : Nat) : List RdI := (List.range k).map fun j : Nat => ⟨j, j, decide (j = 1 ∨ j = 2), false⟩
def gB (b : Int) (D : List VrI) (k : Nat) : MoI := ⟨50, 100, cA 0 :: cB 0 :: D, putS (fun _ => tx0) 1 ⟨3, b, k, 4, [], rdB k⟩, 4, 3⟩
def Dead (D : List VrI) : Prop := D.length ≤ 12 ∧ ∀ y ∈ D, y.dead = true
theorem ab_over (h : Ab b n x) (hn : n ≤ 12) : ∃ D, x.doE 0 ⟨7, 0, 0, 0⟩ = 0 ∧ x.doR 0 ⟨7, 0, 0, 0⟩ = ⟨0, 0, [], 4, 1⟩ ∧ x.doM 0 ⟨7, 0, 0, 0⟩ = gB b D 0 ∧ Dead D ∧ (gB b D 0).v.length = x.v.length := by
 obtain ⟨i0, i1, i2⟩ := h.s0
 have e : x.doE 0 ⟨7, 0, 0, 0⟩ = 0 := by
  unfold MoI.doE
  rw [if_neg (by decide)]
  refine (if_neg (fun c => ?_)).trans (if_pos (.inl rfl))
  rcases c with c | c
  ·have c : (x.s 0).id = 0 := c
   omega
  ·cases c
 have r : x.run 0 ⟨7, 0, 0, 0⟩ = (⟨0, 0, [], 4, 1⟩, x.over 0) := by unfold MoI.run; rw [if_pos rfl]
 obtain ⟨a1, a2, D, hv, h1, h2, hD, hl⟩ := h.v
 refine ⟨D.map (goneV 2), e, by unfold MoI.doR; rw [if_pos e]; exact congrArg Prod.fst r, ?_, ⟨by rw [List.length_map]; omega, fun y hy => ?_⟩, by rw [hv]; show (D.map (goneV 2)).length + 2 = D.length + 2; rw [List.length_map]⟩
 ·have r2 : x.doM 0 ⟨7, 0, 0, 0⟩ = x.over 0 := by unfold MoI.doM; rw [if_pos e]; exact congrArg Prod.snd r
  rw [r2]
  unfold MoI.over
  rw [i0, hv]
  refine MoI.ext h.sl h.l ?_ ?_ h.t h.m
  ·show cA a1 |> goneV 2 |> fun y => (y :: _ : List VrI) = _
   have q1 : goneV 2 (cA a1) = cA 0 := by rcases h1 with q | q <;> subst q <;> rfl
   have q2 : goneV 2 (cB a2) = cB 0 := by rcases h2 with q | q <;> subst q <;> rfl
   show goneV 2 (cA a1) :: goneV 2 (cB a2) :: D.map (goneV 2) = _
   rw [q1, q2]
   rfl
  ·show putS x.s 0 tx0 = putS (fun _ => tx0) 1 ⟨3, b, 0, 4, [], rdB 0⟩
   funext i
   match i with
   | 0 => rw [putS_self]; rfl
   | 1 => rw [putS_ne _ _ (by decide), putS_self]; exact h.s1
   | i + 2 => rw [putS_ne _ _ (by omega), putS_ne _ _ (by omega)]; exact h.s2 _ (by omega)
 ·obtain ⟨a, ha, rfl⟩ := List.mem_map.1 hy
  show (if a.bY = 2 then true else a.dead) = true
  rw [if_pos (hD a ha).1]
variable {D : List VrI} {k : Nat}
theorem dead_find (hD : Dead D) {p : VrI → Bool} (hp : ∀ y, p y = true → y.dead = false) : D.findIdx? p = none := List.findIdx?_eq_none_iff.2 fun y hy => by
 cases q : p y with
 | false => rfl
 | true => have := hp y q; rw [hD.2 y hy] at this; cases this
theorem gB_s : (gB b D k).s 1 = ⟨3, b, k, 4, [], rdB k⟩ := by rfl
theorem gB_sees (hD : Dead D) (e1 : Int) (he : e1 = 0) (key : Int) : seesI (cA e1 :: cB 0 :: D) 3 4 key = if key = 1 then some 0 else if key = 2 then some 1 else none := by
  subst he
  have m : (cA 0 :: cB 0 :: D).findIdx? (mineV 3 key) = none := List.findIdx?_eq_none_iff.2 fun y hy => by
    cases q : mineV 3 key y with
    | false => rfl
    | true =>
      exfalso
      obtain ⟨_, q2, _, q4⟩ := mine_iff.1 q
      rcases List.mem_cons.1 hy with c | c
      · subst c; cases q4
      · rcases List.mem_cons.1 c with c | c
        · subst c; cases q4
        · rw [hD.2 y c] at q2; cases q2
  unfold seesI
  rw [m]
  have dn : D.findIdx? (elderV 3 key 4) = none := dead_find hD fun y h => (elder_iff.1 h).2.1
  have p1 : elderV 3 key 4 (cA 0) = decide (key = 1) := by
    rw [Bool.eq_iff_iff, elder_iff, decide_eq_true_iff]
    exact ⟨fun h => h.1.symm, fun h => ⟨h.symm, rfl, by decide, rfl, by decide, .inr (.inl rfl)⟩⟩
  have p2 : elderV 3 key 4 (cB 0) = decide (key = 2) := by
    rw [Bool.eq_iff_iff, elder_iff, decide_eq_true_iff]
    exact ⟨fun h => h.1.symm, fun h => ⟨h.symm, rfl, by decide, rfl, by decide, .inr (.inl rfl)⟩⟩
  show (cA 0 :: cB 0 :: D).findIdx? (elderV 3 key 4) = _
  rw [List.findIdx?_cons, p1, List.findIdx?_cons, p2, dn]
  by_cases c1 : key = 1
  · simp [c1]
  · by_cases c2 : key = 2
    · simp [c2]
    · simp [c1, c2]
/-- What get tells. -/
def getB (x : MoI) (s key : Int) : Int := if x.doE s ⟨1, key, 0, 0⟩ = 0 ∧ (x.doR s ⟨1, key, 0, 0⟩).e = 0 then (x.doR s ⟨1, key, 0, 0⟩).val else -1
def wantB (k : Nat) : Int := if k = 1 then 10 else if k = 2 then 20 else -1
theorem gB_doE {o : OpI} (ho : okI o = true) (hk : k < 12) : (gB b D k).doE 1 o = 0 := by
 unfold MoI.doE
 rw [if_neg (by decide)]
 show (if ((gB b D k).s 1).id = 0 ∨ okI o = false then (9 : Int) else _) = 0
 rw [gB_s, if_neg (by rw [ho]; simp)]
 split
 ·rfl
 ·exact if_neg (by show ¬ (12 : Int) ≤ ((gB b D k).s 1).ops; rw [gB_s]; show ¬ (12 : Int) ≤ (k : Int); omega)
/-- A key that is asked for. -/
theorem gB_get (hD : Dead D) (hk : k < 8) : getB (gB b D k) 1 k = wantB k ∧ (gB b D k).doM 1 ⟨1, k, 0, 0⟩ = gB b D (k + 1) := by
 have ok : okI ⟨1, k, 0, 0⟩ = true := by unfold okI; rw [if_pos (.inl rfl)]; exact decide_eq_true ⟨by show (0 : Int) ≤ k; omega, by show (k : Int) ≤ 63; omega, rfl, rfl⟩
 have e := gB_doE (b := b) (D := D) ok (show k < 12 by omega)
 have r : (gB b D k).run 1 ⟨1, k, 0, 0⟩ = ((gB b D k).count 1).get 1 ⟨1, k, 0, 0⟩ := by unfold MoI.run; rw [if_neg (show ¬ (1 : Int) = 7 by decide), if_neg (show ¬ (1 : Int) = 6 by decide), if_pos rfl]
 have c1 : ((gB b D k).count 1).s 1 = ⟨3, b, k + 1, 4, [], rdB k⟩ := by rw [count_at, gB_s]
 have sees := gB_sees hD 0 rfl (k : Int)
 have g : ((gB b D k).count 1).get 1 ⟨1, k, 0, 0⟩ = (⟨if wantB k = -1 then 11 else 0, if wantB k = -1 then 0 else wantB k, [], 0, 0⟩, gB b D (k + 1)) := by
  unfold MoI.get
  simp only
  rw [c1]
  show ((match seesI (cA 0 :: cB 0 :: D) 3 4 (k : Int) with | some i => (⟨0, valI (cA 0 :: cB 0 :: D) i, [], 0, 0⟩ : ReI) | none => ⟨11, 0, [], 0, 0⟩), if (k : Int) ∈ ([] : List Int) then (gB b D k).count 1 else ((gB b D k).count 1).keepR 1 ⟨k, k, decide (seesI (cA 0 :: cB 0 :: D) 3 4 (k : Int) ≠ none), false⟩) = _
  have st : ∀ f : Bool, f = decide (k = 1 ∨ k = 2) → ((gB b D k).count 1).keepR 1 ⟨k, k, f, false⟩ = gB b D (k + 1) := fun f hf => by
   subst hf
   rw [count_keepR, gB_s]
   unfold gB rdB
   simp only [putS_put]
   rw [List.range_succ, List.map_append]
   rfl
  rw [if_neg (by simp)]
  unfold wantB
  by_cases k1 : k = 1
  ·have s : seesI (cA 0 :: cB 0 :: D) 3 4 (k : Int) = some 0 := by rw [sees, if_pos (by omega)]
   rw [s, st _ (by simp [k1]), if_pos k1]
   rfl
  ·by_cases k2 : k = 2
   ·have s : seesI (cA 0 :: cB 0 :: D) 3 4 (k : Int) = some 1 := by rw [sees, if_neg (by omega), if_pos (by omega)]
    rw [s, st _ (by simp [k2]), if_neg k1, if_pos k2]
    rfl
   ·have s : seesI (cA 0 :: cB 0 :: D) 3 4 (k : Int) = none := by rw [sees, if_neg (by omega), if_neg (by omega)]
    rw [s, st _ (by simp [k1, k2]), if_neg k1, if_neg k2]
    rfl
 rw [g] at r
 refine ⟨?_, by unfold MoI.doM; rw [if_pos e]; exact congrArg Prod.snd r⟩
 have rr : (gB b D k).doR 1 ⟨1, k, 0, 0⟩ = ⟨if wantB k = -1 then 11 else 0, if wantB k = -1 then 0 else wantB k, [], 0, 0⟩ := by unfold MoI.doR; rw [if_pos e]; exact congrArg Prod.fst r
 unfold getB
 rw [rr, e]
 unfold wantB
 by_cases k1 : k = 1
 ·simp [k1]
 ·by_cases k2 : k = 2
  ·simp [k2]
  ·simp [k1, k2]
/-- Behind the reads: an update, an insert, a commit, a collect. -/
def uB (b : Int) (D : List VrI) : MoI := ⟨50, 100, cA 3 :: cB 0 :: (D ++ [newV 1 77 3]), putS (fun _ => tx0) 1 ⟨3, b, 9, 4, [1], rdB 8⟩, 4, 3⟩
def iB (b : Int) (D : List VrI) : MoI := ⟨50, 100, cA 3 :: cB 0 :: (D ++ [newV 1 77 3] ++ [newV 5 78 3]), putS (fun _ => tx0) 1 ⟨3, b, 10, 4, [1, 5], rdB 8⟩, 4, 3⟩
theorem B_take (v : List VrI) (ops : Int) (l : List Int) (k : Int) (hv : ∀ y ∈ v, laterV k 4 y = false) : (⟨50, 100, v, putS (fun _ => tx0) 1 ⟨3, b, ops, 4, l, rdB 8⟩, 4, 3⟩ : MoI).taken 3 4 k = false := by
 unfold MoI.taken
 rw [Bool.or_eq_false_iff]
 refine ⟨List.any_eq_false.2 fun i hi => ?_, List.any_eq_false.2 fun y hy => by have := hv y hy; rw [this]; decide⟩
 rw [decide_eq_true_iff]
 rintro ⟨c1, c2, c3⟩
 by_cases e : i = 1
 ·subst e
  have c2 : (putS (fun _ => tx0) 1 (⟨3, b, ops, 4, l, rdB 8⟩ : TxI) 1).id ≠ 3 := c2
  rw [putS_self] at c2
  exact c2 rfl
 ·have c1 : (putS (fun _ => tx0) 1 (⟨3, b, ops, 4, l, rdB 8⟩ : TxI) i).id ≠ 0 := c1
  rw [putS_ne _ _ e] at c1
  exact c1 rfl
theorem no_later {y : VrI} {k : Int} (h : y.dead = true ∨ (y.start ≤ 4 ∧ y.stop ≤ 4)) : laterV k 4 y = false := by
  cases q : laterV k 4 y with
  | false => rfl
  | true =>
    obtain ⟨_, q2, q3⟩ := later_iff.1 q
    rcases h with h | h
    · rw [h] at q2; cases q2
    · omega
theorem B_upd (hD : Dead D) : (gB b D 8).doE 1 ⟨3, 1, 0, 77⟩ = 0 ∧ (gB b D 8).doR 1 ⟨3, 1, 0, 77⟩ = ⟨0, 0, [], 0, 0⟩ ∧ (gB b D 8).doM 1 ⟨3, 1, 0, 77⟩ = uB b D := by
 have e := gB_doE (b := b) (D := D) (k := 8) (o := ⟨3, 1, 0, 77⟩) rfl (by decide)
 have r : (gB b D 8).run 1 ⟨3, 1, 0, 77⟩ = ((gB b D 8).count 1).write 1 ⟨3, 1, 0, 77⟩ := by unfold MoI.run; rw [if_neg (by decide), if_neg (by decide), if_neg (by decide), if_neg (by decide)]
 have c1 : ((gB b D 8).count 1).s 1 = ⟨3, b, 9, 4, [], rdB 8⟩ := by rw [count_at, gB_s]; rfl
 have cc : (gB b D 8).count 1 = ⟨50, 100, cA 0 :: cB 0 :: D, putS (fun _ => tx0) 1 ⟨3, b, 9, 4, [], rdB 8⟩, 4, 3⟩ := by
  unfold MoI.count
  rw [gB_s]
  unfold gB
  simp only [putS_put]
  rfl
 have own : (cA 0 :: cB 0 :: D).findIdx? (ownV 3 1) = none := by
  rw [List.findIdx?_cons, List.findIdx?_cons, dead_find hD fun y h => (own_iff.1 h).2.2]
  rfl
 have sees := gB_sees hD 0 rfl 1
 rw [if_pos rfl] at sees
 have g : ((gB b D 8).count 1).write 1 ⟨3, 1, 0, 77⟩ = (re0, uB b D) := by
  rw [wr_ok 1 ⟨3, 1, 0, 77⟩ (by rw [c1]; show ¬ (((3 : Int) = 2 ∧ seesI (cA 0 :: cB 0 :: D) 3 4 1 ≠ none) ∨ ((3 : Int) ≠ 2 ∧ seesI (cA 0 :: cB 0 :: D) 3 4 1 = none)); rw [sees]; simp) (.inr (by
   rw [c1, cc]
   refine B_take _ _ _ _ fun y hy => no_later ?_
   rcases List.mem_cons.1 hy with c | c
   ·subst c; exact .inr (by decide)
   ·rcases List.mem_cons.1 c with c | c
    ·subst c; exact .inr (by decide)
    ·exact .inl (hD.2 y c))) (fun c => by
   have c := c.2.2
   have c : (50 : Int) ≤ ((D.length + 2 : Nat) : Int) := c
   have := hD.1
   omega)]
  rw [c1]
  show (re0, ({ (if (1 : Int) ∈ [] then _ else ((gB b D 8).count 1).keepW 1 1) with v := MoI.wroteV (cA 0 :: cB 0 :: D) 3 ⟨3, 1, 0, 77⟩ (seesI (cA 0 :: cB 0 :: D) 3 4 1) ((cA 0 :: cB 0 :: D).findIdx? (ownV 3 1)) } : MoI)) = _
  rw [sees, own, if_neg (by simp), cc, wroteV_end]
  unfold MoI.keepW uB
  simp only [putS_self, putS_put]
  rfl
 rw [g] at r
 exact ⟨e, by unfold MoI.doR; rw [if_pos e]; exact congrArg Prod.fst r, by unfold MoI.doM; rw [if_pos e]; exact congrArg Prod.snd r⟩
theorem uB_s : (uB b D).s 1 = ⟨3, b, 9, 4, [1], rdB 8⟩ := by rfl
theorem iB_s : (iB b D).s 1 = ⟨3, b, 10, 4, [1, 5], rdB 8⟩ := by rfl
theorem B_ins (hD : Dead D) : (uB b D).doE 1 ⟨2, 5, 0, 78⟩ = 0 ∧ (uB b D).doR 1 ⟨2, 5, 0, 78⟩ = ⟨0, 0, [], 0, 0⟩ ∧ (uB b D).doM 1 ⟨2, 5, 0, 78⟩ = iB b D := by
  have e : (uB b D).doE 1 ⟨2, 5, 0, 78⟩ = 0 := by
    unfold MoI.doE
    rw [if_neg (by decide)]
    show (if ((uB b D).s 1).id = 0 ∨ okI ⟨2, 5, 0, 78⟩ = false then (9 : Int) else if (2 : Int) = 7 ∨ (2 : Int) = 6 then 0 else if 12 ≤ ((uB b D).s 1).ops then 65 else 0) = 0
    rw [uB_s]
    rfl
  have r : (uB b D).run 1 ⟨2, 5, 0, 78⟩ = ((uB b D).count 1).write 1 ⟨2, 5, 0, 78⟩ := by unfold MoI.run; rw [if_neg (by decide), if_neg (by decide), if_neg (by decide), if_neg (by decide)]
  have c1 : ((uB b D).count 1).s 1 = ⟨3, b, 10, 4, [1], rdB 8⟩ := by rw [count_at, uB_s]; rfl
  have cc : (uB b D).count 1 = ⟨50, 100, cA 3 :: cB 0 :: (D ++ [newV 1 77 3]), putS (fun _ => tx0) 1 ⟨3, b, 10, 4, [1], rdB 8⟩, 4, 3⟩ := by
    unfold MoI.count
    rw [uB_s]
    unfold uB
    simp only [putS_put]
    rfl
  have no : ∀ p : VrI → Bool, (∀ y, p y = true → y.dead = false ∧ y.key = 5) → (cA 3 :: cB 0 :: (D ++ [newV 1 77 3])).findIdx? p = none := fun p hp => List.findIdx?_eq_none_iff.2 fun y hy => by
    cases q : p y with
    | false => rfl
    | true =>
      exfalso
      obtain ⟨q1, q2⟩ := hp y q
      rcases List.mem_cons.1 hy with c | c
      · subst c; cases q2
      · rcases List.mem_cons.1 c with c | c
        · subst c; cases q2
        · rcases List.mem_append.1 c with c | c
          · rw [hD.2 y c] at q1; cases q1
          · rw [List.mem_singleton] at c; subst c; cases q2
  have own : (cA 3 :: cB 0 :: (D ++ [newV 1 77 3])).findIdx? (ownV 3 5) = none := no _ fun y h => ⟨(own_iff.1 h).2.2, (own_iff.1 h).1⟩
  have sees : seesI (cA 3 :: cB 0 :: (D ++ [newV 1 77 3])) 3 4 5 = none := by
    unfold seesI
    rw [no (mineV 3 5) fun y h => ⟨(mine_iff.1 h).2.1, (mine_iff.1 h).1⟩]
    exact no _ fun y h => ⟨(elder_iff.1 h).2.1, (elder_iff.1 h).1⟩
  have g : ((uB b D).count 1).write 1 ⟨2, 5, 0, 78⟩ = (re0, iB b D) := by
    rw [wr_ok 1 ⟨2, 5, 0, 78⟩ (by rw [c1]; show ¬ (((2 : Int) = 2 ∧ seesI (cA 3 :: cB 0 :: (D ++ [newV 1 77 3])) 3 4 5 ≠ none) ∨ ((2 : Int) ≠ 2 ∧ seesI (cA 3 :: cB 0 :: (D ++ [newV 1 77 3])) 3 4 5 = none)); rw [sees]; simp) (.inr (by
      rw [c1, cc]
      refine B_take _ _ _ _ fun y hy => no_later ?_
      rcases List.mem_cons.1 hy with c | c
      · subst c; exact .inr (by decide)
      · rcases List.mem_cons.1 c with c | c
        · subst c; exact .inr (by decide)
        · rcases List.mem_append.1 c with c | c
          · exact .inl (hD.2 y c)
          · rw [List.mem_singleton] at c; subst c; exact .inr (by decide))) (fun c => by
      have c := c.2.2
      have c : (50 : Int) ≤ (((D ++ [newV 1 77 3]).length + 2 : Nat) : Int) := c
      have := hD.1
      rw [List.length_append, List.length_singleton] at c
      omega)]
    rw [c1]
    show (re0, ({ (if (5 : Int) ∈ [1] then _ else ((uB b D).count 1).keepW 1 5) with v := MoI.wroteV (cA 3 :: cB 0 :: (D ++ [newV 1 77 3])) 3 ⟨2, 5, 0, 78⟩ (seesI (cA 3 :: cB 0 :: (D ++ [newV 1 77 3])) 3 4 5) ((cA 3 :: cB 0 :: (D ++ [newV 1 77 3])).findIdx? (ownV 3 5)) } : MoI)) = _
    rw [sees, own, if_neg (by decide), cc]
    unfold MoI.keepW iB MoI.wroteV
    simp only [putS_self, putS_put]
    rfl
  rw [g] at r
  exact ⟨e, by unfold MoI.doR; rw [if_pos e]; exact congrArg Prod.fst r, by unfold MoI.doM; rw [if_pos e]; exact congrArg Prod.snd r⟩
def kB (D : List VrI) : MoI := ⟨50, 100, (⟨1, 10, 0, 0, 2, 5, false⟩ : VrI) :: cB 0 :: (D.map (doneV 3 5) ++ [⟨1, 77, 0, 0, 5, 0, false⟩] ++ [⟨5, 78, 0, 0, 5, 0, false⟩]), fun _ => tx0, 5, 3⟩
def zB : MoI := ⟨50, 100, [cB 0, ⟨1, 77, 0, 0, 5, 0, false⟩, ⟨5, 78, 0, 0, 5, 0, false⟩], fun _ => tx0, 5, 3⟩
theorem B_com (hD : Dead D) : (iB b D).doE 1 ⟨6, 0, 0, 0⟩ = 0 ∧ (iB b D).doR 1 ⟨6, 0, 0, 0⟩ = ⟨0, 0, [], 3, 0⟩ ∧ (iB b D).doM 1 ⟨6, 0, 0, 0⟩ = kB D := by
  obtain ⟨d1, d2, d3⟩ := do_commit (x := iB b D) (k := 1) (by decide) (by rw [iB_s]; show (3 : Int) ≠ 0; decide)
  have hh : ({ iB b D with time := (iB b D).time + 1 } : MoI).holds ((iB b D).s 1) = true := by
    unfold MoI.holds
    rw [List.all_eq_true]
    intro r hr
    rw [Bool.or_eq_true]
    right
    rw [List.all_eq_true]
    intro key _
    rw [iB_s]
    show decide ((iB b D).v.findIdx? (thereV key 4) = (iB b D).v.findIdx? (thereV key 5)) = true
    have : ∀ y ∈ (iB b D).v, thereV key 4 y = thereV key 5 y := fun y hy => by
      have hy : y ∈ cA 3 :: cB 0 :: (D ++ [newV 1 77 3] ++ [newV 5 78 3]) := hy
      rw [Bool.eq_iff_iff, there_iff, there_iff]
      rcases List.mem_cons.1 hy with c | c
      · subst c
        exact ⟨fun ⟨h1, h2, h3, h4, h5⟩ => ⟨h1, h2, h3, by decide, .inl rfl⟩, fun ⟨h1, h2, h3, h4, h5⟩ => ⟨h1, h2, h3, by decide, .inl rfl⟩⟩
      · rcases List.mem_cons.1 c with c | c
        · subst c
          exact ⟨fun ⟨h1, h2, h3, h4, h5⟩ => ⟨h1, h2, h3, by decide, .inl rfl⟩, fun ⟨h1, h2, h3, h4, h5⟩ => ⟨h1, h2, h3, by decide, .inl rfl⟩⟩
        · rcases List.mem_append.1 c with c | c
          · rcases List.mem_append.1 c with c | c
            · have := hD.2 y c
              exact ⟨(fun h => by rw [this] at h; cases h.2.1), (fun h => by rw [this] at h; cases h.2.1)⟩
            · rw [List.mem_singleton] at c; subst c
              exact ⟨(fun h => by cases h.2.2.1), (fun h => by cases h.2.2.1)⟩
          · rw [List.mem_singleton] at c; subst c
            exact ⟨(fun h => by cases h.2.2.1), (fun h => by cases h.2.2.1)⟩
    refine decide_eq_true ?_
    have cg : ∀ l : List VrI, (∀ y ∈ l, thereV key 4 y = thereV key 5 y) → l.findIdx? (thereV key 4) = l.findIdx? (thereV key 5) := fun l => by
      induction l with
      | nil => exact fun _ => rfl
      | cons a l ih =>
        intro h
        rw [List.findIdx?_cons, List.findIdx?_cons, h a (List.mem_cons_self ..), ih fun y hy => h y (List.mem_cons_of_mem _ hy)]
    exact cg _ this
  have e : (iB b D).commit 1 = (⟨0, 0, [], 3, 0⟩, kB D) := by
    unfold MoI.commit
    rw [if_neg (by show ¬ (100 : Int) ≤ 4; decide)]
    simp only
    rw [if_neg (fun c => by have := c.2; rw [hh] at this; cases this), iB_s]
    refine congrArg _ (MoI.ext rfl rfl ?_ ?_ rfl rfl)
    · show (cA 3 :: cB 0 :: (D ++ [newV 1 77 3] ++ [newV 5 78 3])).map (doneV 3 5) = _
      rw [List.map_cons, List.map_cons, List.map_append, List.map_append]
      rfl
    · show putS (putS (fun _ => tx0) 1 _) 1 tx0 = fun _ => tx0
      rw [putS_put]
      funext a
      unfold putS
      split <;> rfl
  rw [e] at d2 d3
  exact ⟨d1, d2, d3⟩
theorem B_end (hD : Dead D) : (kB D).collect = zB ∧ (zB.v.length : Int) = 3 ∧ zB.time = 5 ∧ zB.pairs 5 = [(1, 77), (2, 20), (5, 78)] := by
 refine ⟨?_, rfl, rfl, rfl⟩
 have lw : (kB D).low = 5 := rfl
 unfold MoI.collect
 rw [lw]
 refine MoI.ext rfl rfl ?_ rfl rfl rfl
 show ((⟨1, 10, 0, 0, 2, 5, false⟩ : VrI) :: cB 0 :: (D.map (doneV 3 5) ++ [⟨1, 77, 0, 0, 5, 0, false⟩] ++ [⟨5, 78, 0, 0, 5, 0, false⟩])).filter (MoI.keepV 5) = _
 have dd : (D.map (doneV 3 5)).filter (MoI.keepV 5) = [] := List.filter_eq_nil_iff.2 fun y hy c => by
  obtain ⟨a, ha, rfl⟩ := List.mem_map.1 hy
  unfold MoI.keepV at c
  have : (doneV 3 5 a).dead = true := hD.2 a ha
  rw [this] at c
  cases c
 rw [List.filter_cons, List.filter_cons, List.filter_append, List.filter_append, dd]
 rfl
end
end Go.Proofs.Ytkkjofefjepodaa
