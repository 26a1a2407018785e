/- A Model of whole calls in plain lists, for ModelAlone: one transaction alone, beside what one would write down. No dump; no condition. -/
import Derived.Test.YtkkjofefjepodaaModelBaseZaa
namespace Go.Proofs.Ytkkjofefjepodaa
set_option linter.unusedVariables false
set_option linter.unusedSimpArgs false
/-- Session 3 (number 1) alone, n calls behind it; th, vl: what one would have written down. -/
structure Al (l : Int) (n : Nat) (th : Nat → Bool) (vl : Nat → Int) (x : MoI) : Prop where
 sl : x.slots = 200
 lm : x.limit = 50
 t : x.time = 1
 s3 : (x.s 3).id = 1 ∧ (x.s 3).level = l ∧ (x.s 3).start = 1 ∧ (x.s 3).ops = n
 so : ∀ i, i ≠ 3 → x.s i = tx0
 v : ∀ y ∈ x.v, y.bY = 1 ∧ y.stop = 0 ∧ y.dead = false ∧ (y.ended = 0 ∨ y.ended = 1)
 u : x.v.Pairwise fun y z => y.key ≠ z.key
 len : x.v.length ≤ n
 wr : ∀ y ∈ x.v, y.key ∈ (x.s 3).wrote
 at' : ∀ k : Nat, th k = true ↔ ∃ y ∈ x.v, y.key = (k : Int) ∧ y.ended = 0
 vl' : ∀ k : Nat, th k = true → ∀ y ∈ x.v, y.key = (k : Int) → y.val = vl k
def put1 {α : Type} (f : Nat → α) (k : Nat) (a : α) : Nat → α := fun j => if j = k then a else f j
theorem put1_self {α : Type} (f : Nat → α) (k : Nat) (a : α) : put1 f k a k = a := if_pos rfl
theorem put1_ne {α : Type} (f : Nat → α) {k j : Nat} (a : α) (h : j ≠ k) : put1 f k a j = f j := if_neg h
section
variable {l : Int} {n : Nat} {th : Nat → Bool} {vl : Nat → Int} {x : MoI} {o : OpI} {k : Nat}
theorem al_new (l : Int) (lv : 1 ≤ l ∧ l ≤ 3) : ∃ y, (new0 200 50).begE 3 l = 0 ∧ (new0 200 50).begN 3 l = 1 ∧ (new0 200 50).beg 3 l = y ∧ Al l 0 (fun _ => false) (fun _ => 0) y := by
 obtain ⟨e, n1, b1⟩ := beg_in (x := new0 200 50) (k := 3) (by decide) rfl l lv (by decide) (by decide)
 refine ⟨_, e, n1, b1, rfl, rfl, rfl, ⟨rfl, rfl, rfl, rfl⟩, fun i hi => ?_, (fun y hy => by cases hy), List.Pairwise.nil, Nat.le_refl _, (fun y hy => by cases hy), fun k => ⟨(fun h => by cases h), (fun ⟨y, hy, _⟩ => by cases hy)⟩, (fun k h => by cases h)⟩
 show putS (fun _ => tx0) 3 _ i = tx0
 rw [putS_ne _ _ hi]
/-- The version of a key, if there is one. -/
theorem Al.own (h : Al l n th vl x) (k : Nat) : (x.v.findIdx? (ownV 1 k) = none ∧ (∀ y ∈ x.v, y.key ≠ (k : Int)) ∧ th k = false) ∨ ∃ i y, x.v.findIdx? (ownV 1 k) = some i ∧ x.v[i]? = some y ∧ y.key = (k : Int) ∧ (th k = true ↔ y.ended = 0) := by
  cases e : x.v.findIdx? (ownV 1 k) with
  | none =>
    left
    have no : ∀ y ∈ x.v, y.key ≠ (k : Int) := fun y hy c => by
      have := List.findIdx?_eq_none_iff.1 e y hy
      rw [own_iff.2 ⟨c, (h.v y hy).1, (h.v y hy).2.2.1⟩] at this
      cases this
    refine ⟨rfl, no, ?_⟩
    cases q : th k with
    | false => rfl
    | true => obtain ⟨y, hy, c, _⟩ := (h.at' k).1 q; exact absurd c (no y hy)
  | some i =>
    right
    obtain ⟨lt, p, _⟩ := List.findIdx?_eq_some_iff_getElem.1 e
    obtain ⟨p1, p2, p3⟩ := own_iff.1 p
    have hi : x.v[i]? = some x.v[i] := List.getElem?_eq_getElem lt
    refine ⟨i, x.v[i], rfl, hi, p1, fun q => ?_, fun q => (h.at' k).2 ⟨_, List.mem_of_getElem? hi, p1, q⟩⟩
    obtain ⟨y, hy, c, d⟩ := (h.at' k).1 q
    obtain ⟨j, hj⟩ := List.mem_iff_getElem?.1 hy
    obtain ⟨lj, ej⟩ := List.getElem?_eq_some_iff.1 hj
    have : i = j := Decidable.byContradiction fun ne => by
      have P := List.pairwise_iff_getElem.1 h.u
      rcases Nat.lt_or_gt_of_ne ne with c1 | c1
      · have := P i j lt lj c1; rw [ej, p1, c] at this; exact this rfl
      · have := P j i lj lt c1; rw [ej, p1, c] at this; exact this rfl
    subst this
    rw [ej]; exact d
theorem Al.sees (h : Al l n th vl x) (k : Nat) : seesI x.v 1 1 k = if th k = true then x.v.findIdx? (ownV 1 k) else none := by
  have el : x.v.findIdx? (elderV 1 k 1) = none := List.findIdx?_eq_none_iff.2 fun y hy => by
    cases q : elderV 1 k 1 y with
    | false => rfl
    | true => have := (elder_iff.1 q).2.2.2.1; have := (h.v y hy).1; omega
  unfold seesI
  rw [el]
  have mn : x.v.findIdx? (mineV 1 k) = if th k = true then x.v.findIdx? (ownV 1 k) else none := by
    rcases h.own k with ⟨e, no, t⟩ | ⟨i, y, e, hi, ky, t⟩
    · rw [t, if_neg (by simp)]
      exact List.findIdx?_eq_none_iff.2 fun y hy => by
        cases q : mineV 1 k y with
        | false => rfl
        | true => exact absurd (mine_iff.1 q).1 (no y hy)
    · by_cases c : th k = true
      · rw [if_pos c]
        have cg : ∀ l : List VrI, (∀ z ∈ l, mineV 1 k z = ownV 1 k z) → l.findIdx? (mineV 1 k) = l.findIdx? (ownV 1 k) := fun l => by
          induction l with
          | nil => exact fun _ => rfl
          | cons a l ih =>
            intro hh
            rw [List.findIdx?_cons, List.findIdx?_cons, hh a (List.mem_cons_self ..), ih fun z hz => hh z (List.mem_cons_of_mem _ hz)]
        refine cg _ fun z hz => ?_
        have vz := h.v z hz
        rw [Bool.eq_iff_iff, mine_iff, own_iff]
        refine ⟨fun ⟨a, b, c, d⟩ => ⟨a, d, b⟩, fun ⟨a, b, d⟩ => ⟨a, d, ?_, b⟩⟩
        obtain ⟨y2, hy2, k2, e2⟩ := (h.at' k).1 c
        obtain ⟨p, hp⟩ := List.mem_iff_getElem?.1 hz
        obtain ⟨q, hq⟩ := List.mem_iff_getElem?.1 hy2
        obtain ⟨lp, ep⟩ := List.getElem?_eq_some_iff.1 hp
        obtain ⟨lq, eq⟩ := List.getElem?_eq_some_iff.1 hq
        have : p = q := Decidable.byContradiction fun ne => by
          have P := List.pairwise_iff_getElem.1 h.u
          rcases Nat.lt_or_gt_of_ne ne with c1 | c1
          · have := P p q lp lq c1; rw [ep, eq, a, k2] at this; exact this rfl
          · have := P q p lq lp c1; rw [ep, eq, a, k2] at this; exact this rfl
        subst this
        rw [ep] at eq
        rw [eq, e2]
        decide
      · rw [if_neg c]
        refine List.findIdx?_eq_none_iff.2 fun z hz => ?_
        cases q : mineV 1 k z with
        | false => rfl
        | true =>
          obtain ⟨a, b, c2, d⟩ := mine_iff.1 q
          have := (h.v z hz).2.2.2
          exact absurd ((h.at' k).2 ⟨z, hz, a, by omega⟩) c
  rw [mn]
  generalize (if th k = true then x.v.findIdx? (ownV 1 k) else none) = q
  cases q <;> rfl
theorem Al.val (h : Al l n th vl x) {k i : Nat} (t : th k = true) (e : x.v.findIdx? (ownV 1 k) = some i) : valI x.v i = vl k := by
 obtain ⟨lt, p, _⟩ := List.findIdx?_eq_some_iff_getElem.1 e
 have hi : x.v[i]? = some x.v[i] := List.getElem?_eq_getElem lt
 unfold valI
 rw [hi]
 exact h.vl' k t _ (List.mem_of_getElem? hi) (own_iff.1 p).1
/-- What one would write down. -/
def keysN (lo hi : Nat) : List Nat := (List.range (hi + 1 - lo)).map (lo + ·)
def pairsN (th : Nat → Bool) (vl : Nat → Int) (lo hi : Nat) : List (Int × Int) := (keysN lo hi).flatMap fun k => if th k = true then [((k : Int), vl k)] else []
theorem keysI_N (lo n : Nat) : keysI lo n = (List.range n).map fun j => ((lo + j : Nat) : Int) := by
  induction n generalizing lo with
  | zero => rfl
  | succ n ih =>
    rw [List.range_succ_eq_map, List.map_cons, List.map_map]
    show (lo : Int) :: keysI ((lo : Int) + 1) n = _
    have := ih (lo + 1)
    rw [show (((lo + 1 : Nat) : Int)) = (lo : Int) + 1 by omega] at this
    rw [this]
    congr 1
    refine List.map_congr_left fun j _ => ?_
    show ((lo + 1 + j : Nat) : Int) = ((lo + (j + 1) : Nat) : Int)
    omega
theorem Al.scan (h : Al l n th vl x) (lo hi : Nat) : scanI x.v 1 1 lo hi = pairsN th vl lo hi := by
 unfold scanI pairsN keysN
 rw [show ((hi : Int) + 1 - lo).toNat = hi + 1 - lo by omega, keysI_N, List.flatMap_map, List.flatMap_map]
 congr 1
 funext j
 unfold pairI
 have s := h.sees (lo + j)
 rw [s]
 by_cases t : th (lo + j) = true
 ·rw [if_pos t]
  rcases h.own (lo + j) with ⟨_, _, c⟩ | ⟨i, y, e, hi, ky, _⟩
  ·rw [c] at t; cases t
  ·rw [e]
   simp only [Function.comp, t, if_true]
   rw [h.val t e]
 ·rw [if_neg t]
  simp only [Function.comp, t]
  rfl
/-- The session's count and reads alone. -/
theorem Al.put (h : Al l n th vl x) (u : TxI) (hu : u.id = 1 ∧ u.level = l ∧ u.start = 1 ∧ u.ops = ((n + 1 : Nat) : Int)) (hw : u.wrote = (x.s 3).wrote) : Al l (n + 1) th vl { x with s := putS x.s 3 u } :=
 ⟨h.sl, h.lm, h.t, by show (putS x.s 3 u 3).id = 1 ∧ (putS x.s 3 u 3).level = l ∧ (putS x.s 3 u 3).start = 1 ∧ (putS x.s 3 u 3).ops = _; rw [putS_self]; exact hu, fun i hi => by show putS x.s 3 u i = tx0; rw [putS_ne _ _ hi]; exact h.so i hi, h.v, h.u, by have := h.len; show x.v.length ≤ n + 1; omega, fun y hy => by show y.key ∈ (putS x.s 3 u 3).wrote; rw [putS_self, hw]; exact h.wr y hy, h.at', h.vl'⟩
theorem Al.doE (h : Al l n th vl x) (hn : n ≤ 12) (hok : okI o = true) (hk : o.kind ≤ 5) : x.doE 3 o = if n = 12 then 65 else 0 := by
 obtain ⟨i0, i1, i2, i3⟩ := h.s3
 unfold MoI.doE
 rw [if_neg (by decide)]
 refine (if_neg (fun c => ?_)).trans ((if_neg (by omega)).trans ?_)
 ·rcases c with c | c
  ·have c : (x.s 3).id = 0 := c
   omega
  ·rw [hok] at c; cases c
 ·show (if (12 : Int) ≤ (x.s 3).ops then (65 : Int) else 0) = _
  rw [i3]
  by_cases c : n = 12
  ·rw [if_pos c, if_pos (by omega)]
  ·rw [if_neg c, if_neg (by omega)]
theorem Al.bad (h : Al l n th vl x) (hok : okI o = false) : x.doE 3 o = 9 ∧ x.doR 3 o = re0 ∧ x.doM 3 o = x := by
 have e : x.doE 3 o = 9 := by
  unfold MoI.doE
  rw [if_neg (by decide)]
  exact if_pos (.inr hok)
 exact ⟨e, by unfold MoI.doR; rw [e]; rfl, by unfold MoI.doM; rw [e]; rfl⟩
theorem Al.many (h : Al l 12 th vl x) (hok : okI o = true) (hk : o.kind ≤ 5) : x.doE 3 o = 65 ∧ x.doR 3 o = re0 ∧ x.doM 3 o = x := by
 have e : x.doE 3 o = 65 := by rw [h.doE (Nat.le_refl _) hok hk]; rfl
 exact ⟨e, by unfold MoI.doR; rw [e]; rfl, by unfold MoI.doM; rw [e]; rfl⟩
theorem Al.go (h : Al l n th vl x) (hn : n < 12) (hok : okI o = true) (hk : o.kind ≤ 5) : x.doE 3 o = 0 ∧ x.doR 3 o = (x.run 3 o).1 ∧ x.doM 3 o = (x.run 3 o).2 := by
 have e : x.doE 3 o = 0 := by rw [h.doE (by omega) hok hk, if_neg (by omega)]
 exact ⟨e, by unfold MoI.doR; rw [if_pos e]; rfl, by unfold MoI.doM; rw [if_pos e]; rfl⟩
theorem al_get (h : Al l n th vl x) (hn : n < 12) (hok : okI ⟨1, k, 0, 0⟩ = true) : ∃ y, x.doE 3 ⟨1, k, 0, 0⟩ = 0 ∧ x.doR 3 ⟨1, k, 0, 0⟩ = ⟨if th k = true then 0 else 11, if th k = true then vl k else 0, [], 0, 0⟩ ∧ x.doM 3 ⟨1, k, 0, 0⟩ = y ∧ Al l (n + 1) th vl y := by
 obtain ⟨e, e1, e2⟩ := h.go hn hok (by show (1 : Int) ≤ 5; decide)
 obtain ⟨i0, i1, i2, i3⟩ := h.s3
 have r : x.run 3 ⟨1, k, 0, 0⟩ = (x.count 3).get 3 ⟨1, k, 0, 0⟩ := by unfold MoI.run; rw [if_neg (show ¬ (1 : Int) = 7 by decide), if_neg (show ¬ (1 : Int) = 6 by decide), if_pos rfl]
 rw [e, e1, e2, r]
 have ca := count_at x 3
 have s : seesI (x.count 3).v ((x.count 3).s 3).id ((x.count 3).s 3).start k = if th k = true then x.v.findIdx? (ownV 1 k) else none := by
  rw [ca]
  show seesI x.v (x.s 3).id (x.s 3).start k = _
  rw [i0, i2]; exact h.sees k
 unfold MoI.get
 simp only
 rw [s]
 refine ⟨_, trivial, ?_, rfl, ?_⟩
 ·by_cases t : th k = true
  ·rw [if_pos t, if_pos t, if_pos t]
   rcases h.own k with ⟨_, _, c⟩ | ⟨i, y, e, hi, ky, _⟩
   ·rw [c] at t; cases t
   ·rw [e]
    show (⟨0, valI x.v i, [], 0, 0⟩ : ReI) = _
    rw [h.val t e]
  ·rw [if_neg t, if_neg t, if_neg t]
 ·split
  ·exact h.put _ ⟨i0, i1, i2, by show (x.s 3).ops + 1 = _; omega⟩ rfl
  ·rw [count_keepR]
   exact h.put _ ⟨i0, i1, i2, by show (x.s 3).ops + 1 = _; omega⟩ rfl
theorem al_scan (h : Al l n th vl x) (hn : n < 12) {lo hi : Nat} (hok : okI ⟨5, lo, hi, 0⟩ = true) : ∃ y, x.doE 3 ⟨5, lo, hi, 0⟩ = 0 ∧ x.doR 3 ⟨5, lo, hi, 0⟩ = ⟨0, 0, pairsN th vl lo hi, 0, 0⟩ ∧ x.doM 3 ⟨5, lo, hi, 0⟩ = y ∧ Al l (n + 1) th vl y := by
 obtain ⟨e, e1, e2⟩ := h.go hn hok (by show (5 : Int) ≤ 5; decide)
 obtain ⟨i0, i1, i2, i3⟩ := h.s3
 have r : x.run 3 ⟨5, lo, hi, 0⟩ = (x.count 3).scan 3 ⟨5, lo, hi, 0⟩ := by unfold MoI.run; rw [if_neg (show ¬ (5 : Int) = 7 by decide), if_neg (show ¬ (5 : Int) = 6 by decide), if_neg (show ¬ (5 : Int) = 1 by decide), if_pos rfl]
 rw [e, e1, e2, r]
 have ca := count_at x 3
 refine ⟨_, rfl, ?_, rfl, ?_⟩
 ·show (⟨0, 0, scanI (x.count 3).v ((x.count 3).s 3).id ((x.count 3).s 3).start lo hi, 0, 0⟩ : ReI) = _
  rw [ca]
  show (⟨0, 0, scanI x.v (x.s 3).id (x.s 3).start lo hi, 0, 0⟩ : ReI) = _
  rw [i0, i2, h.scan]
 ·show Al l (n + 1) th vl ((x.count 3).keepR 3 _)
  rw [count_keepR]
  exact h.put _ ⟨i0, i1, i2, by show (x.s 3).ops + 1 = _; omega⟩ rfl
/-- A write: what it answers, and what one would write down. -/
def wrE (th : Nat → Bool) (kd : Int) (k : Nat) : Int := if kd = 2 then (if th k = true then 12 else 0) else if th k = true then 0 else 11
def wrT (th : Nat → Bool) (kd : Int) (k : Nat) : Nat → Bool := if kd = 2 then put1 th k true else if kd = 4 then put1 th k false else th
def wrV (th : Nat → Bool) (vl : Nat → Int) (kd : Int) (k : Nat) (v : Int) : Nat → Int := if kd = 4 ∨ ((kd = 2) ↔ th k = true) then vl else put1 vl k v
theorem Al.same (h : Al l n th vl x) {th' : Nat → Bool} {vl' : Nat → Int} (e1 : th' = th) (e2 : vl' = vl) : Al l n th' vl' x := by rw [e1, e2]; exact h
theorem al_write (h : Al l n th vl x) (hn : n < 12) {kd v : Int} (hkd : kd = 2 ∨ kd = 3 ∨ kd = 4) (hok : okI ⟨kd, k, 0, v⟩ = true) : ∃ y, x.doE 3 ⟨kd, k, 0, v⟩ = 0 ∧ x.doR 3 ⟨kd, k, 0, v⟩ = ⟨wrE th kd k, 0, [], 0, 0⟩ ∧ x.doM 3 ⟨kd, k, 0, v⟩ = y ∧ Al l (n + 1) (wrT th kd k) (wrV th vl kd k v) y := by
 obtain ⟨e, e1, e2⟩ := h.go hn hok (by show kd ≤ 5; omega)
 obtain ⟨i0, i1, i2, i3⟩ := h.s3
 have r : x.run 3 ⟨kd, k, 0, v⟩ = (x.count 3).write 3 ⟨kd, k, 0, v⟩ := by unfold MoI.run; rw [if_neg (show ¬ kd = 7 by omega), if_neg (show ¬ kd = 6 by omega), if_neg (show ¬ kd = 1 by omega), if_neg (show ¬ kd = 5 by omega)]
 rw [e, e1, e2, r]
 have ca := count_at x 3
 have s : seesI (x.count 3).v ((x.count 3).s 3).id ((x.count 3).s 3).start k = if th k = true then x.v.findIdx? (ownV 1 k) else none := by
  rw [ca]
  show seesI x.v (x.s 3).id (x.s 3).start k = _
  rw [i0, i2]; exact h.sees k
 have sn : seesI (x.count 3).v ((x.count 3).s 3).id ((x.count 3).s 3).start k = none ↔ th k = false := by
  rw [s]
  by_cases t : th k = true
  ·rw [if_pos t]
   rcases h.own k with ⟨_, _, c⟩ | ⟨i, y, e, hi, ky, _⟩
   ·rw [c] at t; cases t
   ·rw [e, t]; simp
  ·rw [if_neg t]; simp at t; rw [t]; simp
 by_cases hno : (kd = 2 ∧ th k = true) ∨ (kd ≠ 2 ∧ th k = false)
 ·have hno' : (kd = 2 ∧ seesI (x.count 3).v ((x.count 3).s 3).id ((x.count 3).s 3).start k ≠ none) ∨ (kd ≠ 2 ∧ seesI (x.count 3).v ((x.count 3).s 3).id ((x.count 3).s 3).start k = none) := by
   rcases hno with ⟨a, b⟩ | ⟨a, b⟩
   ·exact .inl ⟨a, fun c => by rw [sn] at c; rw [b] at c; cases c⟩
   ·exact .inr ⟨a, sn.2 b⟩
  rw [wr_no 3 ⟨kd, k, 0, v⟩ hno']
  refine ⟨_, rfl, ?_, rfl, ?_⟩
  ·show (⟨if seesI (x.count 3).v ((x.count 3).s 3).id ((x.count 3).s 3).start k = none then 11 else 12, 0, [], 0, 0⟩ : ReI) = _
   unfold wrE
   rcases hno with ⟨a, b⟩ | ⟨a, b⟩
   ·rw [if_neg (fun c => by rw [sn, b] at c; cases c), if_pos a, if_pos b]
   ·rw [if_pos (sn.2 b), if_neg a, if_neg (by rw [b]; decide)]
  ·have hs : wrT th kd k = th ∧ wrV th vl kd k v = vl := by
    unfold wrT wrV
    rcases hno with ⟨a, b⟩ | ⟨a, b⟩
    ·refine ⟨?_, by rw [if_pos (.inr (by simp [a, b]))]⟩
     rw [if_pos a]
     funext j
     by_cases c : j = k
     ·rw [c, put1_self, b]
     ·rw [put1_ne _ _ c]
    ·refine ⟨?_, by rw [if_pos (.inr (by simp [a, b]))]⟩
     rw [if_neg a]
     split
     ·funext j
      by_cases c : j = k
      ·rw [c, put1_self, b]
      ·rw [put1_ne _ _ c]
     ·rfl
   refine Al.same ?_ hs.1 hs.2
   simp only
   split
   ·exact h.put _ ⟨i0, i1, i2, by show (x.s 3).ops + 1 = _; omega⟩ rfl
   ·rw [count_keepR]
    exact h.put _ ⟨i0, i1, i2, by show (x.s 3).ops + 1 = _; omega⟩ rfl
 ·have hno' : ¬ ((kd = 2 ∧ seesI (x.count 3).v ((x.count 3).s 3).id ((x.count 3).s 3).start k ≠ none) ∨ (kd ≠ 2 ∧ seesI (x.count 3).v ((x.count 3).s 3).id ((x.count 3).s 3).start k = none)) := by
   rintro (⟨a, b⟩ | ⟨a, b⟩)
   ·refine hno (.inl ⟨a, ?_⟩)
    cases q : th k with
    | true => rfl
    | false => exact absurd (sn.2 q) b
   ·exact hno (.inr ⟨a, sn.1 b⟩)
  have ht : (x.count 3).taken ((x.count 3).s 3).id ((x.count 3).s 3).start k = false := by
   rw [count_taken, ca]
   show x.taken (x.s 3).id (x.s 3).start k = false
   unfold MoI.taken
   rw [Bool.or_eq_false_iff]
   refine ⟨List.any_eq_false.2 fun i hi => ?_, List.any_eq_false.2 fun y hy => ?_⟩
   ·rw [decide_eq_true_iff]
    rintro ⟨c1, c2, c3⟩
    by_cases q : i = 3
    ·rw [q] at c2; exact c2 rfl
    ·rw [h.so i q] at c3; cases c3
   ·intro c
    have c := (later_iff.1 c).2.2
    have := h.v y hy
    omega
  have len := h.len
  rw [wr_ok 3 ⟨kd, k, 0, v⟩ hno' (.inr ht) (fun c => by have c := c.2.2; have c : x.slots ≤ (x.v.length : Int) := c; rw [h.sl] at c; omega)]
  refine ⟨_, rfl, ?_, rfl, ?_⟩
  ·unfold wrE re0
   by_cases a : kd = 2
   ·rw [if_pos a]
    have : th k = false := by cases q : th k with
     | true => exact absurd (.inl ⟨a, q⟩) hno
     | false => rfl
    rw [this]; rfl
   ·rw [if_neg a]
    have : th k = true := by cases q : th k with
     | false => exact absurd (.inr ⟨a, q⟩) hno
     | true => rfl
    rw [this]; rfl
  ·have cw : ((x.count 3).s 3).wrote = (x.s 3).wrote := by rw [ca]
   have ci : ((x.count 3).s 3).id = 1 := by rw [ca]; exact i0
   rw [s, cw, ci]
   show Al l (n + 1) _ _ { (if (k : Int) ∈ (x.s 3).wrote then x.count 3 else (x.count 3).keepW 3 k) with v := MoI.wroteV x.v 1 ⟨kd, k, 0, v⟩ (if th k = true then x.v.findIdx? (ownV 1 k) else none) (x.v.findIdx? (ownV 1 k)) }
   rw [count_wrote]
   have wrm : ∀ j : Int, j ∈ (wroteT (x.s 3) k).wrote ↔ j ∈ (x.s 3).wrote ∨ j = k := fun j => wroteT_mem _ _ _
   have S3 : (putS x.s 3 (wroteT (x.s 3) k) 3).id = 1 ∧ (putS x.s 3 (wroteT (x.s 3) k) 3).level = l ∧ (putS x.s 3 (wroteT (x.s 3) k) 3).start = 1 ∧ (putS x.s 3 (wroteT (x.s 3) k) 3).ops = ((n + 1 : Nat) : Int) := by
    rw [putS_self]
    exact ⟨i0, i1, i2, by show (x.s 3).ops + 1 = _; omega⟩
   have SO : ∀ i, i ≠ 3 → putS x.s 3 (wroteT (x.s 3) k) i = tx0 := fun i hi => by rw [putS_ne _ _ hi]; exact h.so i hi
   rcases h.own k with ⟨ho, no, tf⟩ | ⟨i, a, ho, hi, ky, tt⟩
   ·have k2 : kd = 2 := Decidable.byContradiction fun c => hno (.inr ⟨c, tf⟩)
    subst k2
    rw [ho, tf]
    have V : MoI.wroteV x.v 1 ⟨2, k, 0, v⟩ (if (false : Bool) = true then (none : Option Nat) else none) none = x.v ++ [newV k v 1] := rfl
    rw [V]
    have T : wrT th 2 k = put1 th k true := if_pos rfl
    have L : wrV th vl 2 k v = put1 vl k v := if_neg (fun c => by rcases c with c | c; omega; have := c.1 rfl; rw [tf] at this; cases this)
    rw [T, L]
    refine ⟨h.sl, h.lm, h.t, S3, SO, fun y hy => ?_, ?_, by show (x.v ++ [newV k v 1]).length ≤ n + 1; rw [List.length_append, List.length_singleton]; omega, fun y hy => ?_, fun j => ?_, fun j hj y hy ek => ?_⟩
    ·rcases List.mem_append.1 hy with q | q
     ·exact h.v y q
     ·rw [List.mem_singleton] at q; subst q; exact ⟨rfl, rfl, rfl, .inl rfl⟩
    ·refine List.pairwise_append.2 ⟨h.u, List.pairwise_singleton _ _, fun y hy z hz => ?_⟩
     rw [List.mem_singleton] at hz
     subst hz
     exact no y hy
    ·show y.key ∈ (putS x.s 3 (wroteT (x.s 3) k) 3).wrote
     rw [putS_self, wrm]
     rcases List.mem_append.1 hy with q | q
     ·exact .inl (h.wr y q)
     ·rw [List.mem_singleton] at q; subst q; exact .inr rfl
    ·by_cases c : j = k
     ·subst c
      rw [put1_self]
      exact ⟨fun _ => ⟨newV j v 1, List.mem_append.2 (.inr (List.mem_singleton.2 rfl)), rfl, rfl⟩, fun _ => rfl⟩
     ·rw [put1_ne _ _ c, h.at' j]
      refine ⟨fun ⟨y, hy, q⟩ => ⟨y, List.mem_append.2 (.inl hy), q⟩, fun ⟨y, hy, q1, q2⟩ => ?_⟩
      rcases List.mem_append.1 hy with q | q
      ·exact ⟨y, q, q1, q2⟩
      ·rw [List.mem_singleton] at q; subst q
       have q1 : (k : Int) = j := q1
       omega
    ·by_cases c : j = k
     ·subst c
      rw [put1_self]
      rcases List.mem_append.1 hy with q | q
      ·exact absurd ek (no y q)
      ·rw [List.mem_singleton] at q; subst q; rfl
     ·rw [put1_ne _ _ c] at hj ⊢
      rcases List.mem_append.1 hy with q | q
      ·exact h.vl' j hj y q ek
      ·rw [List.mem_singleton] at q; subst q
       have q1 : (k : Int) = j := ek
       omega
   ·rw [ho]
    obtain ⟨f, hf⟩ : ∃ f : VrI → VrI, f = if kd = 4 then (fun y => { y with ended := 1 }) else (fun y => { y with ended := 0, val := v }) := ⟨_, rfl⟩
    have V : MoI.wroteV x.v 1 ⟨kd, k, 0, v⟩ (if th k = true then some i else none) (some i) = setV x.v i f := by
     rw [wroteV_own (fun j c => by
      split at c
      ·exact c
      ·cases c), hf]
     by_cases c : kd = 4
     ·rw [if_pos c]; simp only [c, if_true]
     ·simp only [if_neg c]
    rw [V]
    have fk : ∀ y, (f y).key = y.key ∧ (f y).bY = y.bY ∧ (f y).stop = y.stop ∧ (f y).dead = y.dead := fun y => by rw [hf]; split <;> exact ⟨rfl, rfl, rfl, rfl⟩
    have hget : ∀ j, (setV x.v i f)[j]? = if i = j then (x.v[j]?).map f else x.v[j]? := fun j => by
     show (x.v.modify i f)[j]? = _
     rw [List.getElem?_modify]
     by_cases c : i = j
     ·rw [if_pos c]; cases x.v[j]? <;> simp [c]
     ·rw [if_neg c]; cases x.v[j]? <;> simp [c]
    have mm : ∀ y ∈ setV x.v i f, (y = f a) ∨ (y ∈ x.v ∧ y.key ≠ (k : Int)) := fun y hy => by
     obtain ⟨j, hj⟩ := List.mem_iff_getElem?.1 hy
     rw [hget] at hj
     by_cases c : i = j
     ·rw [if_pos c, ← c, hi] at hj; left; exact (Option.some.inj hj).symm
     ·rw [if_neg c] at hj
      refine .inr ⟨List.mem_of_getElem? hj, fun e => ?_⟩
      obtain ⟨li, ei⟩ := List.getElem?_eq_some_iff.1 hi
      obtain ⟨lj, ej⟩ := List.getElem?_eq_some_iff.1 hj
      have P := List.pairwise_iff_getElem.1 h.u
      rcases Nat.lt_or_gt_of_ne c with c1 | c1
      ·have := P i j li lj c1; rw [ei, ej, ky, e] at this; exact this rfl
      ·have := P j i lj li c1; rw [ei, ej, ky, e] at this; exact this rfl
    have ma : f a ∈ setV x.v i f := List.mem_of_getElem? (by rw [hget, if_pos rfl, hi]; rfl)
    have mo : ∀ y ∈ x.v, y.key ≠ (k : Int) → y ∈ setV x.v i f := fun y hy hne => by
     obtain ⟨j, hj⟩ := List.mem_iff_getElem?.1 hy
     have : i ≠ j := fun c => by rw [← c, hi] at hj; cases hj; exact hne ky
     exact List.mem_of_getElem? (by rw [hget, if_neg this]; exact hj)
    have ha := List.mem_of_getElem? hi
    have va := h.v a ha
    have fe : (f a).ended = if kd = 4 then 1 else 0 := by rw [hf]; split <;> rfl
    have T : wrT th kd k k = (if kd = 4 then false else true) ∧ ∀ j, j ≠ k → wrT th kd k j = th j := by
     unfold wrT
     rcases hkd with c | c | c
     ·subst c
      rw [if_pos rfl, if_neg (by decide)]
      exact ⟨put1_self _ _ _, fun j hj => put1_ne _ _ hj⟩
     ·subst c
      rw [if_neg (by decide), if_neg (by decide), if_neg (by decide)]
      refine ⟨?_, fun j hj => rfl⟩
      cases q : th k with
      | true => rfl
      | false => exact absurd (.inr ⟨by decide, q⟩) hno
     ·subst c
      rw [if_neg (by decide), if_pos rfl, if_pos rfl]
      exact ⟨put1_self _ _ _, fun j hj => put1_ne _ _ hj⟩
    have Vv : (kd ≠ 4 → wrV th vl kd k v k = v) ∧ ∀ j, j ≠ k → wrV th vl kd k v j = vl j := by
     unfold wrV
     refine ⟨fun c => ?_, fun j hj => ?_⟩
     ·rw [if_neg (fun q => ?_), put1_self]
      rcases q with q | q
      ·exact c q
      ·by_cases a2 : kd = 2
       ·exact hno (.inl ⟨a2, q.1 a2⟩)
       ·cases t : th k with
        | true => exact a2 (q.2 t)
        | false => exact hno (.inr ⟨a2, t⟩)
     ·split
      ·rfl
      ·exact put1_ne _ _ hj
    have fv : kd ≠ 4 → (f a).val = v := fun c => by rw [hf, if_neg c]
    refine ⟨h.sl, h.lm, h.t, S3, SO, fun y hy => ?_, ?_, by show (x.v.modify i f).length ≤ n + 1; rw [List.length_modify]; omega, fun y hy => ?_, fun j => ?_, fun j hj y hy ek => ?_⟩
    ·rcases mm y hy with q | ⟨q, _⟩
     ·rw [q, (fk a).2.1, (fk a).2.2.1, (fk a).2.2.2, fe]
      exact ⟨va.1, va.2.1, va.2.2.1, by split; exact .inr rfl; exact .inl rfl⟩
     ·exact h.v y q
    ·show (x.v.modify i f).Pairwise _
     have e : ∀ v : List VrI, v.Pairwise (fun y z => y.key ≠ z.key) ↔ (v.map VrI.key).Pairwise (· ≠ ·) := fun v => by rw [List.pairwise_map]
     rw [e]
     have : (x.v.modify i f).map VrI.key = x.v.map VrI.key := by
      apply List.ext_getElem?
      intro j
      rw [List.getElem?_map, List.getElem?_map, List.getElem?_modify]
      cases x.v[j]? with
      | none => rfl
      | some y => by_cases e : i = j <;> simp [e, (fk _).1]
     rw [this, ← e]
     exact h.u
    ·show y.key ∈ (putS x.s 3 (wroteT (x.s 3) k) 3).wrote
     rw [putS_self, wrm]
     rcases mm y hy with q | ⟨q, _⟩
     ·right; rw [q, (fk a).1]; exact ky
     ·exact .inl (h.wr y q)
    ·by_cases c : j = k
     ·subst c
      rw [T.1]
      by_cases c4 : kd = 4
      ·rw [if_pos c4] at fe ⊢
       refine ⟨(fun q => by cases q), fun ⟨y, hy, q1, q2⟩ => ?_⟩
       rcases mm y hy with q | ⟨_, q⟩
       ·rw [q, fe] at q2; cases q2
       ·exact absurd q1 q
      ·rw [if_neg c4] at fe ⊢
       exact ⟨fun _ => ⟨f a, ma, (fk a).1.trans ky, fe⟩, fun _ => rfl⟩
     ·rw [T.2 j c, h.at' j]
      have kj : (k : Int) ≠ j := by omega
      refine ⟨fun ⟨y, hy, q1, q2⟩ => ⟨y, mo y hy (by rw [q1]; exact kj.symm), q1, q2⟩, fun ⟨y, hy, q1, q2⟩ => ?_⟩
      rcases mm y hy with q | ⟨q, _⟩
      ·rw [q, (fk a).1, ky] at q1; exact absurd q1 kj
      ·exact ⟨y, q, q1, q2⟩
    ·by_cases c : j = k
     ·subst c
      rw [T.1] at hj
      have c4 : kd ≠ 4 := fun c4 => by rw [if_pos c4] at hj; cases hj
      rw [Vv.1 c4]
      rcases mm y hy with q | ⟨_, q⟩
      ·rw [q]; exact fv c4
      ·exact absurd ek q
     ·rw [T.2 j c] at hj
      rw [Vv.2 j c]
      rcases mm y hy with q | ⟨q, _⟩
      ·rw [q, (fk a).1, ky] at ek; omega
      ·exact h.vl' j hj y q ek
/-- A call that may be, of any kind but the last two: what it answers, and the shapes that it may have. -/
def Arm (th : Nat → Bool) (vl : Nat → Int) (o : OpI) (r : ReI) (th' : Nat → Bool) (vl' : Nat → Int) : Prop :=
 (∃ k : Nat, k < 64 ∧ o = ⟨1, k, 0, 0⟩ ∧ r = ⟨if th k = true then 0 else 11, if th k = true then vl k else 0, [], 0, 0⟩ ∧ th' = th ∧ vl' = vl) ∨
 (∃ (kd : Int) (k : Nat) (v : Int), (kd = 2 ∨ kd = 3 ∨ kd = 4) ∧ k < 64 ∧ o = ⟨kd, k, 0, v⟩ ∧ r = ⟨wrE th kd k, 0, [], 0, 0⟩ ∧ th' = wrT th kd k ∧ vl' = wrV th vl kd k v) ∨
 (∃ lo hi : Nat, lo ≤ hi ∧ hi < 64 ∧ o = ⟨5, lo, hi, 0⟩ ∧ r = ⟨0, 0, pairsN th vl lo hi, 0, 0⟩ ∧ th' = th ∧ vl' = vl)
theorem al_do (h : Al l n th vl x) (hn : n < 12) (hok : okI o = true) (hk : o.kind ≤ 5) : ∃ e vv ps y th' vl', x.doE 3 o = 0 ∧ x.doR 3 o = ⟨e, vv, ps, 0, 0⟩ ∧ x.doM 3 o = y ∧ Al l (n + 1) th' vl' y ∧ Arm th vl o ⟨e, vv, ps, 0, 0⟩ th' vl' := by
 obtain ⟨kind, key, hi, val⟩ := o
 obtain ⟨q1, q2, q3, q4, q5⟩ := okI_key hok hk
 have q1 : 1 ≤ kind := q1
 have q2 : 0 ≤ key := q2
 have q3 : key ≤ 63 := q3
 have hk : kind ≤ 5 := hk
 obtain ⟨k, rfl⟩ : ∃ k : Nat, key = (k : Int) := ⟨key.toNat, by omega⟩
 have k64 : k < 64 := by omega
 by_cases k1 : kind = 1
 ·subst k1
  have z : hi = 0 ∧ val = 0 := by unfold okI at hok; have := of_decide_eq_true hok; exact ⟨this.2.2.1, this.2.2.2⟩
  obtain ⟨rfl, rfl⟩ := z
  obtain ⟨y, e1, e2, e3, e4⟩ := al_get h hn hok
  exact ⟨_, _, _, y, th, vl, e1, e2, e3, e4, .inl ⟨k, k64, rfl, rfl, rfl, rfl⟩⟩
 ·by_cases k5 : kind = 5
  ·subst k5
   obtain ⟨p1, p2⟩ := q4 rfl
   have p1 : (k : Int) ≤ hi := p1
   have p2 : hi ≤ 63 := p2
   obtain ⟨h2, rfl⟩ : ∃ h2 : Nat, hi = (h2 : Int) := ⟨hi.toNat, by omega⟩
   have z : val = 0 := by unfold okI at hok; have := of_decide_eq_true hok; exact this.2.2.2.2
   subst z
   obtain ⟨y, e1, e2, e3, e4⟩ := al_scan h hn hok
   exact ⟨_, _, _, y, th, vl, e1, e2, e3, e4, .inr (.inr ⟨k, h2, by omega, by omega, rfl, rfl, rfl, rfl⟩)⟩
  ·have kk : kind = 2 ∨ kind = 3 ∨ kind = 4 := by omega
   have z : hi = 0 := by
    unfold okI at hok
    rcases kk with c | c | c
    ·subst c; have := of_decide_eq_true hok; exact this.2.2.2.2
    ·subst c; have := of_decide_eq_true hok; exact this.2.2.2.2
    ·subst c; have := of_decide_eq_true hok; exact this.2.2.1
   subst z
   obtain ⟨y, e1, e2, e3, e4⟩ := al_write h hn kk hok
   exact ⟨_, _, _, y, _, _, e1, e2, e3, e4, .inr (.inl ⟨kind, k, val, kk, k64, rfl, rfl, rfl, rfl⟩)⟩
theorem al_commit (h : Al l n th vl x) : ∃ y, x.doE 3 ⟨6, 0, 0, 0⟩ = 0 ∧ x.doR 3 ⟨6, 0, 0, 0⟩ = ⟨0, 0, [], 3, 0⟩ ∧ x.doM 3 ⟨6, 0, 0, 0⟩ = y := by
 obtain ⟨i0, i1, i2, i3⟩ := h.s3
 obtain ⟨d1, d2, d3⟩ := do_commit (x := x) (k := 3) (by decide) (by omega)
 have hh : ({ x with time := x.time + 1 } : MoI).holds (x.s 3) = true := by
  unfold MoI.holds
  rw [List.all_eq_true]
  intro r hr
  rw [Bool.or_eq_true]
  right
  rw [List.all_eq_true]
  intro key _
  have no : ∀ t, x.v.findIdx? (thereV key t) = none := fun t => List.findIdx?_eq_none_iff.2 fun y hy => by
   cases q : thereV key t y with
   | false => rfl
   | true => have := (there_iff.1 q).2.2.1; have := (h.v y hy).1; omega
  show decide (x.v.findIdx? (thereV key _) = x.v.findIdx? (thereV key _)) = true
  rw [no, no]
  rfl
 have e : (x.commit 3).1 = ⟨0, 0, [], 3, 0⟩ := by
  unfold MoI.commit
  rw [if_neg (by rw [h.lm, h.t]; decide)]
  simp only
  rw [if_neg (fun c => by have := c.2; rw [hh] at this; cases this)]
 exact ⟨_, d1, d2.trans e, rfl⟩
end
end Go.Proofs.Ytkkjofefjepodaa
