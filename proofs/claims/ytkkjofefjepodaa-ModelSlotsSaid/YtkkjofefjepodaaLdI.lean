/- Package model as landed, in plain lists: fates, versions by key, transactions; and how that tells what a Model of whole calls is (Lr). No dump; no condition. -/
import Derived.Test.YtkkjofefjepodaaMoW
namespace Go.Proofs.Ytkkjofefjepodaa
set_option linter.unusedVariables false
set_option linter.unusedSimpArgs false

/-- A fate: 1 active, 3 committed at a time, 4 aborted. -/
structure FtI where
  st : Int
  fin : Int
/-- A version: its block, its value, whose it is, who ended it. -/
structure VeI where
  b : Nat
  val : Int
  mr : Nat
  en : Option Nat
/-- A transaction: its block, its numbers, what it relies on, its fate. -/
structure TtI where
  b : Nat
  id : Int
  level : Int
  start : Int
  ops : Int
  again : Nat → Bool
  f : Nat
structure LdI where
  slots : Int
  limit : Int
  clock : Int
  begun : Int
  s : Nat → Option TtI
  k : Nat → List VeI
  F : Nat → FtI
def updF (F : Nat → FtI) (g : Nat) (x : FtI) : Nat → FtI := fun j => if j = g then x else F j
theorem updF_self (F : Nat → FtI) (g : Nat) (x : FtI) : updF F g x g = x := if_pos rfl
theorem updF_ne (F : Nat → FtI) {g j : Nat} (x : FtI) (h : j ≠ g) : updF F g x j = F j := if_neg h
def putT (s : Nat → Option TtI) (i : Nat) (x : Option TtI) : Nat → Option TtI := fun j => if j = i then x else s j
theorem putT_self (s : Nat → Option TtI) (i : Nat) (x : Option TtI) : putT s i x i = x := if_pos rfl
theorem putT_ne (s : Nat → Option TtI) {i j : Nat} (x : Option TtI) (h : j ≠ i) : putT s i x j = s j := if_neg h
def putK (k : Nat → List VeI) (i : Nat) (l : List VeI) : Nat → List VeI := fun j => if j = i then l else k j
theorem putK_self (k : Nat → List VeI) (i : Nat) (l : List VeI) : putK k i l i = l := if_pos rfl
theorem putK_ne (k : Nat → List VeI) {i j : Nat} (l : List VeI) (h : j ≠ i) : putK k i l j = k j := if_neg h
def byF (F : Nat → FtI) (f : Option Nat) (at' : Int) : Bool := match f with | none => false | some g => decide ((F g).st = 3) && decide ((F g).fin ≤ at')
def sinceF (F : Nat → FtI) (f : Option Nat) (at' : Int) : Bool := match f with | none => false | some g => decide ((F g).st = 1) || (decide ((F g).st = 3) && decide (at' < (F g).fin))
def existV (F : Nat → FtI) (at' : Int) (v : VeI) : Bool := byF F (some v.mr) at' && !byF F v.en at'
def knowsF (F : Nat → FtI) (t : TtI) (f : Option Nat) : Bool := decide (f = some t.f) || byF F f t.start
def seesV (F : Nat → FtI) (t : TtI) (v : VeI) : Bool := knowsF F t (some v.mr) && !knowsF F t v.en
def madeV (t : TtI) (v : VeI) : Bool := decide (v.mr = t.f)
def confV (F : Nat → FtI) (t : TtI) (v : VeI) : Bool := (decide (v.mr ≠ t.f) && sinceF F (some v.mr) t.start) || (decide (v.en ≠ some t.f) && sinceF F v.en t.start)
def garbV (F : Nat → FtI) (low : Int) (v : VeI) : Bool := decide ((F v.mr).st = 4) || byF F v.en low
def endO (F : Nat → FtI) (io : Nat → Int) (en : Option Nat) : Int := match en with | none => 0 | some e => if (F e).st = 1 then io e else 0
def stopO (F : Nat → FtI) (en : Option Nat) : Int := match en with | none => 0 | some e => if (F e).st = 3 then (F e).fin else 0
/-- A version as the document's Model has it. -/
def verOf (F : Nat → FtI) (io : Nat → Int) (p : Nat × VeI) : VrI :=
  { key := p.1, val := p.2.val, bY := if (F p.2.mr).st = 3 then 0 else io p.2.mr,
    ended := endO F io p.2.en,
    start := if (F p.2.mr).st = 3 then (F p.2.mr).fin else 0,
    stop := stopO F p.2.en,
    dead := decide ((F p.2.mr).st = 4) }
theorem verOf_congr {F F' : Nat → FtI} {io io' : Nat → Int} {p : Nat × VeI} (h1 : F' p.2.mr = F p.2.mr) (h2 : io' p.2.mr = io p.2.mr) (h3 : ∀ e, p.2.en = some e → F' e = F e ∧ io' e = io e) : verOf F' io' p = verOf F io p := by
  obtain ⟨k, b, val, mr, en⟩ := p
  have e1 : endO F' io' en = endO F io en := by
    cases en with
    | none => rfl
    | some e => unfold endO; simp only; rw [(h3 e rfl).1, (h3 e rfl).2]
  have e2 : stopO F' en = stopO F en := by
    cases en with
    | none => rfl
    | some e => unfold stopO; simp only; rw [(h3 e rfl).1]
  simp only at h1 h2
  unfold verOf
  simp only [h1, h2, e1, e2]
/-- What a transaction's reads ask to be looked at again. -/
def needs (x : TxI) (k : Int) : Prop := ∃ r ∈ x.reads, ¬ (x.level = 2 ∧ r.found = false) ∧ r.lo ≤ k ∧ k ≤ r.hi
/-- A fate that is in use. -/
structure UsO (N : Int) (s : Nat → Option TtI) (F : Nat → FtI) (io : Nat → Int) (g : Nat) : Prop where
  st : (F g).st = 1 ∨ (F g).st = 3 ∨ (F g).st = 4
  one : (F g).st = 1 → ∃ i t, i < 8 ∧ s i = some t ∧ t.f = g
  fin : (F g).st = 3 → 1 ≤ (F g).fin
  le : 1 ≤ io g ∧ io g ≤ N
  own : ∀ i t, i < 8 → s i = some t → io g = t.id → g = t.f
theorem UsO.nz {N : Int} {s : Nat → Option TtI} {F : Nat → FtI} {io : Nat → Int} {g : Nat} (u : UsO N s F io g) : io g ≠ 0 := by have := u.le; omega
/-- A transaction, as the document's Model has it. -/
structure TsO (L : List (Nat × VeI)) (F : Nat → FtI) (io : Nat → Int) (t : TtI) (x : TxI) : Prop where
  id : x.id = t.id
  nz : t.id ≠ 0
  level : x.level = t.level
  start : x.start = t.start
  ops : x.ops = t.ops
  st : (F t.f).st = 1
  io : io t.f = t.id
  wr : ∀ k, k ∈ x.wrote → ∃ p ∈ L, (p.1 : Int) = k ∧ (p.2.mr = t.f ∨ p.2.en = some t.f)
  ag : ∀ k : Nat, k < 64 → t.again k = true → 2 ≤ t.level ∧ (needs x k ∨ (k : Int) ∈ x.wrote)
  an : ∀ k : Nat, k < 64 → 2 ≤ t.level → needs x k → t.again k = true
structure LrL (L : List (Nat × VeI)) (io : Nat → Int) (z : LdI) (x : MoI) : Prop where
  c1 : x.slots = z.slots
  c2 : x.limit = z.limit
  c3 : x.time = z.clock
  c4 : x.made = z.begun
  v : x.v = L.map (verOf z.F io)
  k : ∀ k, k < 64 → z.k k = (L.filter (fun p => decide (p.1 = k))).map (·.2)
  lt : ∀ p ∈ L, p.1 < 64
  nd : (L.map (·.2.b)).Nodup
  mu : ∀ p ∈ L, UsO z.begun z.s z.F io p.2.mr
  en : ∀ p ∈ L, ∀ e, p.2.en = some e → UsO z.begun z.s z.F io e
  no : ∀ i, i < 8 → z.s i = none → x.s i = tx0
  ts : ∀ i t, i < 8 → z.s i = some t → TsO L z.F io t (x.s i)
/-- What is landed tells the document's Model. -/
def Lr (z : LdI) (x : MoI) : Prop := ∃ L io, LrL L io z x
section
variable {L : List (Nat × VeI)} {io : Nat → Int} {z : LdI} {x : MoI}
theorem LrL.ses0 (h : LrL L io z x) {i : Nat} (hi : i < 8) : z.s i = none ↔ (x.s i).id = 0 := by
  refine ⟨fun e => by rw [h.no i hi e]; rfl, fun e => ?_⟩
  cases c : z.s i with
  | none => rfl
  | some t =>
    have := h.ts i t hi c
    exact absurd (this.id.symm.trans e) this.nz
theorem LrL.sess (h : LrL L io z x) {i : Nat} (hi : i < 8) (hx : (x.s i).id ≠ 0) : ∃ t, z.s i = some t := by
  cases c : z.s i with
  | none => exact absurd ((h.ses0 hi).1 c) hx
  | some t => exact ⟨t, rfl⟩
/-- Two sessions have two fates. -/
theorem LrL.apart (h : LrL L io z x) (g : Good x) {i j : Nat} {t u : TtI} (hi : i < 8) (hj : j < 8) (ht : z.s i = some t) (hu : z.s j = some u) (e : t.f = u.f) : i = j := by
  have a := h.ts i t hi ht
  have b := h.ts j u hj hu
  refine g.ids i j hi hj (by rw [a.id]; exact a.nz) ?_
  rw [a.id, b.id, ← a.io, ← b.io, e]
theorem find_map {α β : Type} (f : α → β) (p : β → Bool) (l : List α) : (l.map f).find? p = (l.find? (fun a => p (f a))).map f := by
  induction l with
  | nil => rfl
  | cons a l ih =>
    rw [List.map_cons, List.find?_cons, List.find?_cons]
    cases p (f a) with
    | true => rfl
    | false => exact ih
/-- The first version of a key that is so, and where it stands. -/
theorem lfind_at (k : Nat) (P : VeI → Bool) (Q : VrI → Bool) (F : Nat → FtI) : ∀ (L : List (Nat × VeI)), (∀ p ∈ L, Q (verOf F io p) = (decide (p.1 = k) && P p.2)) →
    ((L.filter (fun p => decide (p.1 = k))).map (·.2)).find? P = ((L.map (verOf F io)).findIdx? Q).bind fun i => (L[i]?).map (·.2) := by
  intro L
  induction L with
  | nil => intro _; rfl
  | cons p L ih =>
    intro h
    have hp := h p (by simp)
    have ih := ih (fun q hq => h q (by simp [hq]))
    rw [List.map_cons, List.findIdx?_cons, hp, List.filter_cons]
    by_cases e : p.1 = k
    · rw [decide_eq_true e, if_pos rfl, List.map_cons, List.find?_cons]
      cases c : P p.2 with
      | true => rfl
      | false =>
        simp only [Bool.true_and, Bool.false_eq_true, if_false]
        rw [ih]
        cases (L.map (verOf F io)).findIdx? Q with
        | none => rfl
        | some i => rfl
    · rw [decide_eq_false e]
      simp only [Bool.false_and, Bool.false_eq_true, if_false]
      rw [ih]
      cases (L.map (verOf F io)).findIdx? Q with
      | none => rfl
      | some i => rfl
theorem findIdx_some {α : Type} {Q : α → Bool} {l : List α} {i : Nat} (h : l.findIdx? Q = some i) : ∃ a, l[i]? = some a ∧ Q a = true := by
  obtain ⟨hi, hq, _⟩ := List.findIdx?_eq_some_iff_getElem.1 h
  exact ⟨l[i], List.getElem?_eq_getElem hi, hq⟩
theorem findIdx_congr {α : Type} (P Q : α → Bool) (l : List α) (h : ∀ a ∈ l, P a = Q a) : l.findIdx? P = l.findIdx? Q := by
  induction l with
  | nil => rfl
  | cons a l ih =>
    rw [List.findIdx?_cons, List.findIdx?_cons, h a (by simp), ih fun b hb => h b (by simp [hb])]
theorem LrL.find (h : LrL L io z x) {k : Nat} (hk : k < 64) {P : VeI → Bool} {Q : VrI → Bool} (hq : ∀ p ∈ L, Q (verOf z.F io p) = (decide (p.1 = k) && P p.2)) :
    (z.k k).find? P = (x.v.findIdx? Q).bind fun i => (L[i]?).map (·.2) := by
  rw [h.k k hk, h.v]
  exact lfind_at k P Q z.F L hq
theorem LrL.find_none (h : LrL L io z x) {k : Nat} (hk : k < 64) {P : VeI → Bool} {Q : VrI → Bool} (hq : ∀ p ∈ L, Q (verOf z.F io p) = (decide (p.1 = k) && P p.2)) (hn : x.v.findIdx? Q = none) : (z.k k).find? P = none := by
  rw [h.find hk hq, hn]; rfl
theorem LrL.find_some (h : LrL L io z x) {k : Nat} (hk : k < 64) {P : VeI → Bool} {Q : VrI → Bool} (hq : ∀ p ∈ L, Q (verOf z.F io p) = (decide (p.1 = k) && P p.2)) {i : Nat} (hn : x.v.findIdx? Q = some i) :
    ∃ v, L[i]? = some (k, v) ∧ P v = true ∧ x.v[i]? = some (verOf z.F io (k, v)) ∧ (z.k k).find? P = some v := by
  obtain ⟨y, hy, hQ⟩ := findIdx_some hn
  have hy2 := hy
  rw [h.v, List.getElem?_map] at hy2
  cases c : L[i]? with
  | none => rw [c] at hy2; cases hy2
  | some p =>
    rw [c] at hy2
    have e : verOf z.F io p = y := by simpa using hy2
    have := hq p (List.mem_of_getElem? c)
    rw [e, hQ] at this
    have t := Bool.and_eq_true_iff.1 this.symm
    obtain rfl : p.1 = k := of_decide_eq_true t.1
    refine ⟨p.2, rfl, t.2, by rw [e]; exact hy, ?_⟩
    rw [h.find hk hq, hn, Option.bind_some, c]
    rfl
theorem LrL.at (h : LrL L io z x) {i : Nat} {p : Nat × VeI} (hp : L[i]? = some p) : x.v[i]? = some (verOf z.F io p) := by rw [h.v, List.getElem?_map, hp]; rfl
theorem LrL.mem (h : LrL L io z x) {p : Nat × VeI} (hp : p ∈ L) : verOf z.F io p ∈ x.v := by rw [h.v]; exact List.mem_map_of_mem hp
/-- There at a time. -/
theorem LrL.q_exist (h : LrL L io z x) (k : Nat) (at' : Int) : ∀ p ∈ L, thereV k at' (verOf z.F io p) = (decide (p.1 = k) && existV z.F at' p.2) := by
  intro p hp
  have um := h.mu p hp
  rw [Bool.eq_iff_iff, there_iff, Bool.and_eq_true, decide_eq_true_iff]
  obtain ⟨k', b, val, mk, en⟩ := p
  have hk : ((k' : Int) = k) ↔ k' = k := by omega
  unfold existV byF verOf endO stopO
  simp only [hk, Bool.and_eq_true, decide_eq_true_iff, decide_eq_false_iff_not, Bool.not_eq_true']
  have us := um.st
  have uf := um.fin
  simp only at us uf
  cases en with
  | none =>
    by_cases s3 : (z.F mk).st = 3
    · simp only [if_pos s3]; simp; omega
    · have := um.nz
      simp only at this
      simp only [if_neg s3]; simp; omega
  | some e =>
    have ue := h.en _ hp e rfl
    have es := ue.st
    have ef := ue.fin
    by_cases s3 : (z.F mk).st = 3
    · by_cases e3 : (z.F e).st = 3
      · have := ef e3
        simp only [if_pos s3, if_pos e3]; simp; omega
      · simp only [if_pos s3, if_neg e3]; simp; omega
    · have := um.nz
      simp only at this
      simp only [if_neg s3]; simp; omega
section
variable {i : Nat} {t : TtI}
/-- One's own. -/
theorem LrL.own_f (h : LrL L io z x) (hi : i < 8) (ht : z.s i = some t) {g : Nat} (u : UsO z.begun z.s z.F io g) : io g = (x.s i).id ↔ g = t.f := by
  have ts := h.ts i t hi ht
  rw [ts.id]
  exact ⟨u.own i t hi ht, fun e => by rw [e]; exact ts.io⟩
theorem LrL.q_made (h : LrL L io z x) (hi : i < 8) (ht : z.s i = some t) (k : Nat) : ∀ p ∈ L, ownV (x.s i).id k (verOf z.F io p) = (decide (p.1 = k) && madeV t p.2) := by
  intro p hp
  have um := h.mu p hp
  have ts := h.ts i t hi ht
  have of := h.own_f hi ht um
  rw [Bool.eq_iff_iff, own_iff, Bool.and_eq_true, decide_eq_true_iff]
  obtain ⟨k', b, val, mk, en⟩ := p
  have hk : ((k' : Int) = k) ↔ k' = k := by omega
  unfold madeV verOf
  simp only [hk, decide_eq_true_iff, decide_eq_false_iff_not]
  simp only at of
  by_cases e : mk = t.f
  · have st := ts.st
    rw [← e] at st
    rw [if_neg (by omega), of]
    exact ⟨fun q => ⟨q.1, e⟩, fun q => ⟨q.1, e, by omega⟩⟩
  · refine ⟨fun q => ?_, fun q => absurd q.2 e⟩
    have q2 := q.2.1
    by_cases s3 : (z.F mk).st = 3
    · rw [if_pos s3, ts.id] at q2; exact absurd q2.symm ts.nz
    · rw [if_neg s3] at q2; exact absurd (of.1 q2) e
/-- What one sees. -/
theorem LrL.q_sees (h : LrL L io z x) (g : Good x) (hi : i < 8) (ht : z.s i = some t) (k : Nat) : ∀ p ∈ L, (mineV (x.s i).id k (verOf z.F io p) || elderV (x.s i).id k (x.s i).start (verOf z.F io p)) = (decide (p.1 = k) && seesV z.F t p.2) := by
  intro p hp
  have um := h.mu p hp
  have ts := h.ts i t hi ht
  have of := h.own_f hi ht um
  have vo := g.ver _ (h.mem hp)
  rw [Bool.eq_iff_iff, Bool.or_eq_true, mine_iff, elder_iff, Bool.and_eq_true, decide_eq_true_iff]
  obtain ⟨k', b, val, mk, en⟩ := p
  have hk : ((k' : Int) = k) ↔ k' = k := by omega
  have us := um.st
  have uf := um.fin
  have un := um.nz
  have vb := vo.by'
  unfold seesV knowsF byF
  unfold verOf endO stopO at vb ⊢
  simp only at of us uf un vb
  rw [ts.start]
  have id0 : (x.s i).id ≠ 0 := by rw [ts.id]; exact ts.nz
  simp only [hk, Bool.and_eq_true, Bool.or_eq_true, decide_eq_true_iff, decide_eq_false_iff_not, Bool.not_eq_true', Bool.or_eq_false_iff, Option.some.injEq]
  by_cases e : mk = t.f
  · have st := ts.st
    rw [← e] at st
    have i1 := of.2 e
    cases en with
    | none =>
      simp [if_neg (show ¬ (z.F mk).st = 3 by omega), e, st, i1]
      rw [← e, i1]
      simp [st]
      omega
    | some d =>
      have ue := h.en _ hp d rfl
      have od := h.own_f hi ht ue
      have es := ue.st
      have ef := ue.fin
      rw [if_neg (show ¬ (z.F mk).st = 3 by omega)] at vb ⊢
      have v1 := (vb un).1
      have d3 : (z.F d).st ≠ 3 := fun c => by simp only at v1; rw [if_pos c] at v1; have := ef c; omega
      by_cases dd : d = t.f
      · have i2 := od.2 dd
        have s1 : (z.F d).st = 1 := by rw [dd]; exact ts.st
        subst dd
        simp [s1, i2]
      · have i2 : io d ≠ (x.s i).id := fun c => dd (od.1 c)
        rw [i1]
        by_cases s1 : (z.F d).st = 1
        · simp [s1, i2, dd, e, st]; rw [← e, st]; simp; omega
        · simp [s1, dd, e, d3]; rw [← e, st]; simp; omega
  · have i1 : io mk ≠ (x.s i).id := fun c => e (of.1 c)
    by_cases s3 : (z.F mk).st = 3
    · cases en with
      | none =>
        simp [s3, e]; omega
      | some d =>
        have ue := h.en _ hp d rfl
        have od := h.own_f hi ht ue
        have es := ue.st
        have ef := ue.fin
        have un2 := ue.nz
        by_cases dd : d = t.f
        · have i2 := od.2 dd
          have s1 : (z.F d).st = 1 := by rw [dd]; exact ts.st
          subst dd
          simp [s1, i2]
        · have i2 : io d ≠ (x.s i).id := fun c => dd (od.1 c)
          by_cases s1 : (z.F d).st = 1
          · simp [s3, s1, i2, dd, e, un2]; omega
          · by_cases d3 : (z.F d).st = 3
            · have := ef d3
              simp [s3, d3, dd, e]; omega
            · simp [s3, s1, d3, dd, e]; omega
    · simp [s3, e, i1, un]
end
end
end Go.Proofs.Ytkkjofefjepodaa
