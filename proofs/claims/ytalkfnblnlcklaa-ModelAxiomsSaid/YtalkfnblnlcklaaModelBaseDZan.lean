/- Several texts, one behind the other: LdI, LdR, LdW, MoE. -/
import Derived.Test.YtalkfnblnlcklaaModelBaseDZai
/- Package model as landed, in plain lists: fates, versions by key, transactions; and how that tells what a Model of whole calls is (Lr). No dump; no condition. -/
namespace Go.Proofs.Ytalkfnblnlcklaa
set_option linter.unusedVariables false
set_option linter.unusedSimpArgs false

/-- A fate: 1 active, 3 committed at a time, 4 aborted. -/
structure FtI where
 st : Int
 fin : Int
/-- A version: its block, its value, whose it is, who ended it. -/
structure VeI where
 b : Nat
 val : Int
 mr : Nat
 en : Option Nat
/-- A transaction: its block, its numbers, what it relies on, its fate. -/
structure TtI where
 b : Nat
 id : Int
 level : Int
 start : Int
 ops : Int
 again : Nat → Bool
 f : Nat
structure LdI where
 slots : Int
 limit : Int
 clock : Int
 begun : Int
 s : Nat → Option TtI
 k : Nat → List VeI
 F : Nat → FtI
def updF (F : Nat → FtI) (g : Nat) (x : FtI) : Nat → FtI := fun j => if j = g then x else F j
theorem updF_self (F : Nat → FtI) (g : Nat) (x : FtI) : updF F g x g = x := if_pos rfl
theorem updF_ne (F : Nat → FtI) {g j : Nat} (x : FtI) (h : j ≠ g) : updF F g x j = F j := if_neg h
def putT (s : Nat → Option TtI) (i : Nat) (x : Option TtI) : Nat → Option TtI := fun j => if j = i then x else s j
theorem putT_self (s : Nat → Option TtI) (i : Nat) (x : Option TtI) : putT s i x i = x := if_pos rfl
theorem putT_ne (s : Nat → Option TtI) {i j : Nat} (x : Option TtI) (h : j ≠ i) : putT s i x j = s j := if_neg h
def putK (k : Nat → List VeI) (i : Nat) (l : List VeI) : Nat → List VeI := fun j => if j = i then l else k j
theorem putK_self (k : Nat → List VeI) (i : Nat) (l : List VeI) : putK k i l i = l := if_pos rfl
theorem putK_ne (k : Nat → List VeI) {i j : Nat} (l : List VeI) (h : j ≠ i) : putK k i l j = k j := if_neg h
def byF (F : Nat → FtI) (f : Option Nat) (at' : Int) : Bool := match f with | none => false | some g => decide ((F g).st = 3) && decide ((F g).fin ≤ at')
def sinceF (F : Nat → FtI) (f : Option Nat) (at' : Int) : Bool := match f with | none => false | some g => decide ((F g).st = 1) || (decide ((F g).st = 3) && decide (at' < (F g).fin))
def existV (F : Nat → FtI) (at' : Int) (v : VeI) : Bool := byF F (some v.mr) at' && !byF F v.en at'
def knowsF (F : Nat → FtI) (t : TtI) (f : Option Nat) : Bool := decide (f = some t.f) || byF F f t.start
def seesV (F : Nat → FtI) (t : TtI) (v : VeI) : Bool := knowsF F t (some v.mr) && !knowsF F t v.en
def madeV (t : TtI) (v : VeI) : Bool := decide (v.mr = t.f)
def confV (F : Nat → FtI) (t : TtI) (v : VeI) : Bool := (decide (v.mr ≠ t.f) && sinceF F (some v.mr) t.start) || (decide (v.en ≠ some t.f) && sinceF F v.en t.start)
def garbV (F : Nat → FtI) (low : Int) (v : VeI) : Bool := decide ((F v.mr).st = 4) || byF F v.en low
def endO (F : Nat → FtI) (io : Nat → Int) (en : Option Nat) : Int := match en with | none => 0 | some e => if (F e).st = 1 then io e else 0
def stopO (F : Nat → FtI) (en : Option Nat) : Int := match en with | none => 0 | some e => if (F e).st = 3 then (F e).fin else 0
/-- A version as the document's Model has it. -/
def verOf (F : Nat → FtI) (io : Nat → Int) (p : Nat × VeI) : VrI :=
  { key := p.1, val := p.2.val, bY := if (F p.2.mr).st = 3 then 0 else io p.2.mr,
    ended := endO F io p.2.en,
    start := if (F p.2.mr).st = 3 then (F p.2.mr).fin else 0,
    stop := stopO F p.2.en,
    dead := decide ((F p.2.mr).st = 4) }
theorem verOf_congr {F F' : Nat → FtI} {io io' : Nat → Int} {p : Nat × VeI} (h1 : F' p.2.mr = F p.2.mr) (h2 : io' p.2.mr = io p.2.mr) (h3 : ∀ e, p.2.en = some e → F' e = F e ∧ io' e = io e) : verOf F' io' p = verOf F io p := by
 obtain ⟨k, b, val, mr, en⟩ := p
 have e1 : endO F' io' en = endO F io en := by
  cases en with
  | none => rfl
  | some e => unfold endO; simp only; rw [(h3 e rfl).1, (h3 e rfl).2]
 have e2 : stopO F' en = stopO F en := by
  cases en with
  | none => rfl
  | some e => unfold stopO; simp only; rw [(h3 e rfl).1]
 simp only at h1 h2
 unfold verOf
 simp only [h1, h2, e1, e2]
/-- What a transaction's reads ask to be looked at again. -/
def needs (x : TxI) (k : Int) : Prop := ∃ r ∈ x.reads, ¬ (x.level = 2 ∧ r.found = false) ∧ r.lo ≤ k ∧ k ≤ r.hi
/-- A fate that is in use. -/
structure UsO (N : Int) (s : Nat → Option TtI) (F : Nat → FtI) (io : Nat → Int) (g : Nat) : Prop where
 st : (F g).st = 1 ∨ (F g).st = 3 ∨ (F g).st = 4
 one : (F g).st = 1 → ∃ i t, i < 8 ∧ s i = some t ∧ t.f = g
 fin : (F g).st = 3 → 1 ≤ (F g).fin
 le : 1 ≤ io g ∧ io g ≤ N
 own : ∀ i t, i < 8 → s i = some t → io g = t.id → g = t.f
theorem UsO.nz {N : Int} {s : Nat → Option TtI} {F : Nat → FtI} {io : Nat → Int} {g : Nat} (u : UsO N s F io g) : io g ≠ 0 := by have := u.le; omega
/-- A transaction, as the document's Model has it. -/
structure TsO (L : List (Nat × VeI)) (F : Nat → FtI) (io : Nat → Int) (t : TtI) (x : TxI) : Prop where
 id : x.id = t.id
 nz : t.id ≠ 0
 level : x.level = t.level
 start : x.start = t.start
 ops : x.ops = t.ops
 st : (F t.f).st = 1
 io : io t.f = t.id
 wr : ∀ k, k ∈ x.wrote → ∃ p ∈ L, (p.1 : Int) = k ∧ (p.2.mr = t.f ∨ p.2.en = some t.f)
 ag : ∀ k : Nat, k < 64 → t.again k = true → 2 ≤ t.level ∧ (needs x k ∨ (k : Int) ∈ x.wrote)
 an : ∀ k : Nat, k < 64 → 2 ≤ t.level → needs x k → t.again k = true
structure LrL (L : List (Nat × VeI)) (io : Nat → Int) (z : LdI) (x : MoI) : Prop where
 c1 : x.slots = z.slots
 c2 : x.limit = z.limit
 c3 : x.time = z.clock
 c4 : x.made = z.begun
 v : x.v = L.map (verOf z.F io)
 k : ∀ k, k < 64 → z.k k = (L.filter (fun p => decide (p.1 = k))).map (·.2)
 lt : ∀ p ∈ L, p.1 < 64
 nd : (L.map (·.2.b)).Nodup
 mu : ∀ p ∈ L, UsO z.begun z.s z.F io p.2.mr
 en : ∀ p ∈ L, ∀ e, p.2.en = some e → UsO z.begun z.s z.F io e
 no : ∀ i, i < 8 → z.s i = none → x.s i = tx0
 ts : ∀ i t, i < 8 → z.s i = some t → TsO L z.F io t (x.s i)
/-- What is landed tells the document's Model. -/
def Lr (z : LdI) (x : MoI) : Prop := ∃ L io, LrL L io z x
section
variable {L : List (Nat × VeI)} {io : Nat → Int} {z : LdI} {x : MoI}
theorem LrL.ses0 (h : LrL L io z x) {i : Nat} (hi : i < 8) : z.s i = none ↔ (x.s i).id = 0 := by
  refine ⟨fun e => by rw [h.no i hi e]; rfl, fun e => ?_⟩
  cases c : z.s i with
  | none => rfl
  | some t =>
    have := h.ts i t hi c
    exact absurd (this.id.symm.trans e) this.nz
theorem LrL.sess (h : LrL L io z x) {i : Nat} (hi : i < 8) (hx : (x.s i).id ≠ 0) : ∃ t, z.s i = some t := by
 cases c : z.s i with
 | none => exact absurd ((h.ses0 hi).1 c) hx
 | some t => exact ⟨t, rfl⟩
/-- Two sessions have two fates. -/
theorem LrL.apart (h : LrL L io z x) (g : Good x) {i j : Nat} {t u : TtI} (hi : i < 8) (hj : j < 8) (ht : z.s i = some t) (hu : z.s j = some u) (e : t.f = u.f) : i = j := by
 have a := h.ts i t hi ht
 have b := h.ts j u hj hu
 refine g.ids i j hi hj (by rw [a.id]; exact a.nz) ?_
 rw [a.id, b.id, ← a.io, ← b.io, e]
theorem find_map {α β : Type} (f : α → β) (p : β → Bool) (l : List α) : (l.map f).find? p = (l.find? (fun a => p (f a))).map f := by
  induction l with
  | nil => rfl
  | cons a l ih =>
    rw [List.map_cons, List.find?_cons, List.find?_cons]
    cases p (f a) with
    | true => rfl
    | false => exact ih
/-- The first version of a key that is so, and where it stands. -/
theorem lfind_at (k : Nat) (P : VeI → Bool) (Q : VrI → Bool) (F : Nat → FtI) : ∀ (L : List (Nat × VeI)), (∀ p ∈ L, Q (verOf F io p) = (decide (p.1 = k) && P p.2)) →
    ((L.filter (fun p => decide (p.1 = k))).map (·.2)).find? P = ((L.map (verOf F io)).findIdx? Q).bind fun i => (L[i]?).map (·.2) := by
  intro L
  induction L with
  | nil => intro _; rfl
  | cons p L ih =>
    intro h
    have hp := h p (by simp)
    have ih := ih (fun q hq => h q (by simp [hq]))
    rw [List.map_cons, List.findIdx?_cons, hp, List.filter_cons]
    by_cases e : p.1 = k
    · rw [decide_eq_true e, if_pos rfl, List.map_cons, List.find?_cons]
      cases c : P p.2 with
      | true => rfl
      | false =>
        simp only [Bool.true_and, Bool.false_eq_true, if_false]
        rw [ih]
        cases (L.map (verOf F io)).findIdx? Q with
        | none => rfl
        | some i => rfl
    · rw [decide_eq_false e]
      simp only [Bool.false_and, Bool.false_eq_true, if_false]
      rw [ih]
      cases (L.map (verOf F io)).findIdx? Q with
      | none => rfl
      | some i => rfl
theorem findIdx_some {α : Type} {Q : α → Bool} {l : List α} {i : Nat} (h : l.findIdx? Q = some i) : ∃ a, l[i]? = some a ∧ Q a = true := by
 obtain ⟨hi, hq, _⟩ := List.findIdx?_eq_some_iff_getElem.1 h
 exact ⟨l[i], List.getElem?_eq_getElem hi, hq⟩
theorem findIdx_congr {α : Type} (P Q : α → Bool) (l : List α) (h : ∀ a ∈ l, P a = Q a) : l.findIdx? P = l.findIdx? Q := by
  induction l with
  | nil => rfl
  | cons a l ih =>
    rw [List.findIdx?_cons, List.findIdx?_cons, h a (by simp), ih fun b hb => h b (by simp [hb])]
theorem LrL.find (h : LrL L io z x) {k : Nat} (hk : k < 64) {P : VeI → Bool} {Q : VrI → Bool} (hq : ∀ p ∈ L, Q (verOf z.F io p) = (decide (p.1 = k) && P p.2)) :
  (z.k k).find? P = (x.v.findIdx? Q).bind fun i => (L[i]?).map (·.2) := by
 rw [h.k k hk, h.v]
 exact lfind_at k P Q z.F L hq
theorem LrL.find_none (h : LrL L io z x) {k : Nat} (hk : k < 64) {P : VeI → Bool} {Q : VrI → Bool} (hq : ∀ p ∈ L, Q (verOf z.F io p) = (decide (p.1 = k) && P p.2)) (hn : x.v.findIdx? Q = none) : (z.k k).find? P = none := by
 rw [h.find hk hq, hn]; rfl
theorem LrL.find_some (h : LrL L io z x) {k : Nat} (hk : k < 64) {P : VeI → Bool} {Q : VrI → Bool} (hq : ∀ p ∈ L, Q (verOf z.F io p) = (decide (p.1 = k) && P p.2)) {i : Nat} (hn : x.v.findIdx? Q = some i) :
    ∃ v, L[i]? = some (k, v) ∧ P v = true ∧ x.v[i]? = some (verOf z.F io (k, v)) ∧ (z.k k).find? P = some v := by
  obtain ⟨y, hy, hQ⟩ := findIdx_some hn
  have hy2 := hy
  rw [h.v, List.getElem?_map] at hy2
  cases c : L[i]? with
  | none => rw [c] at hy2; cases hy2
  | some p =>
    rw [c] at hy2
    have e : verOf z.F io p = y := by simpa using hy2
    have := hq p (List.mem_of_getElem? c)
    rw [e, hQ] at this
    have t := Bool.and_eq_true_iff.1 this.symm
    obtain rfl : p.1 = k := of_decide_eq_true t.1
    refine ⟨p.2, rfl, t.2, by rw [e]; exact hy, ?_⟩
    rw [h.find hk hq, hn, Option.bind_some, c]
    rfl
theorem LrL.at (h : LrL L io z x) {i : Nat} {p : Nat × VeI} (hp : L[i]? = some p) : x.v[i]? = some (verOf z.F io p) := by rw [h.v, List.getElem?_map, hp]; rfl
theorem LrL.mem (h : LrL L io z x) {p : Nat × VeI} (hp : p ∈ L) : verOf z.F io p ∈ x.v := by rw [h.v]; exact List.mem_map_of_mem hp
/-- There at a time. -/
theorem LrL.q_exist (h : LrL L io z x) (k : Nat) (at' : Int) : ∀ p ∈ L, thereV k at' (verOf z.F io p) = (decide (p.1 = k) && existV z.F at' p.2) := by
  intro p hp
  have um := h.mu p hp
  rw [Bool.eq_iff_iff, there_iff, Bool.and_eq_true, decide_eq_true_iff]
  obtain ⟨k', b, val, mk, en⟩ := p
  have hk : ((k' : Int) = k) ↔ k' = k := by omega
  unfold existV byF verOf endO stopO
  simp only [hk, Bool.and_eq_true, decide_eq_true_iff, decide_eq_false_iff_not, Bool.not_eq_true']
  have us := um.st
  have uf := um.fin
  simp only at us uf
  cases en with
  | none =>
    by_cases s3 : (z.F mk).st = 3
    · simp only [if_pos s3]; simp; omega
    · have := um.nz
      simp only at this
      simp only [if_neg s3]; simp; omega
  | some e =>
    have ue := h.en _ hp e rfl
    have es := ue.st
    have ef := ue.fin
    by_cases s3 : (z.F mk).st = 3
    · by_cases e3 : (z.F e).st = 3
      · have := ef e3
        simp only [if_pos s3, if_pos e3]; simp; omega
      · simp only [if_pos s3, if_neg e3]; simp; omega
    · have := um.nz
      simp only at this
      simp only [if_neg s3]; simp; omega
section
variable {i : Nat} {t : TtI}
/-- One's own. -/
theorem LrL.own_f (h : LrL L io z x) (hi : i < 8) (ht : z.s i = some t) {g : Nat} (u : UsO z.begun z.s z.F io g) : io g = (x.s i).id ↔ g = t.f := by
 have ts := h.ts i t hi ht
 rw [ts.id]
 exact ⟨u.own i t hi ht, fun e => by rw [e]; exact ts.io⟩
theorem LrL.q_made (h : LrL L io z x) (hi : i < 8) (ht : z.s i = some t) (k : Nat) : ∀ p ∈ L, ownV (x.s i).id k (verOf z.F io p) = (decide (p.1 = k) && madeV t p.2) := by
 intro p hp
 have um := h.mu p hp
 have ts := h.ts i t hi ht
 have of := h.own_f hi ht um
 rw [Bool.eq_iff_iff, own_iff, Bool.and_eq_true, decide_eq_true_iff]
 obtain ⟨k', b, val, mk, en⟩ := p
 have hk : ((k' : Int) = k) ↔ k' = k := by omega
 unfold madeV verOf
 simp only [hk, decide_eq_true_iff, decide_eq_false_iff_not]
 simp only at of
 by_cases e : mk = t.f
 ·have st := ts.st
  rw [← e] at st
  rw [if_neg (by omega), of]
  exact ⟨fun q => ⟨q.1, e⟩, fun q => ⟨q.1, e, by omega⟩⟩
 ·refine ⟨fun q => ?_, fun q => absurd q.2 e⟩
  have q2 := q.2.1
  by_cases s3 : (z.F mk).st = 3
  ·rw [if_pos s3, ts.id] at q2; exact absurd q2.symm ts.nz
  ·rw [if_neg s3] at q2; exact absurd (of.1 q2) e
/-- What one sees. -/
theorem LrL.q_sees (h : LrL L io z x) (g : Good x) (hi : i < 8) (ht : z.s i = some t) (k : Nat) : ∀ p ∈ L, (mineV (x.s i).id k (verOf z.F io p) || elderV (x.s i).id k (x.s i).start (verOf z.F io p)) = (decide (p.1 = k) && seesV z.F t p.2) := by
  intro p hp
  have um := h.mu p hp
  have ts := h.ts i t hi ht
  have of := h.own_f hi ht um
  have vo := g.ver _ (h.mem hp)
  rw [Bool.eq_iff_iff, Bool.or_eq_true, mine_iff, elder_iff, Bool.and_eq_true, decide_eq_true_iff]
  obtain ⟨k', b, val, mk, en⟩ := p
  have hk : ((k' : Int) = k) ↔ k' = k := by omega
  have us := um.st
  have uf := um.fin
  have un := um.nz
  have vb := vo.by'
  unfold seesV knowsF byF
  unfold verOf endO stopO at vb ⊢
  simp only at of us uf un vb
  rw [ts.start]
  have id0 : (x.s i).id ≠ 0 := by rw [ts.id]; exact ts.nz
  simp only [hk, Bool.and_eq_true, Bool.or_eq_true, decide_eq_true_iff, decide_eq_false_iff_not, Bool.not_eq_true', Bool.or_eq_false_iff, Option.some.injEq]
  by_cases e : mk = t.f
  · have st := ts.st
    rw [← e] at st
    have i1 := of.2 e
    cases en with
    | none =>
      simp [if_neg (show ¬ (z.F mk).st = 3 by omega), e, st, i1]
      rw [← e, i1]
      simp [st]
      omega
    | some d =>
      have ue := h.en _ hp d rfl
      have od := h.own_f hi ht ue
      have es := ue.st
      have ef := ue.fin
      rw [if_neg (show ¬ (z.F mk).st = 3 by omega)] at vb ⊢
      have v1 := (vb un).1
      have d3 : (z.F d).st ≠ 3 := fun c => by simp only at v1; rw [if_pos c] at v1; have := ef c; omega
      by_cases dd : d = t.f
      · have i2 := od.2 dd
        have s1 : (z.F d).st = 1 := by rw [dd]; exact ts.st
        subst dd
        simp [s1, i2]
      · have i2 : io d ≠ (x.s i).id := fun c => dd (od.1 c)
        rw [i1]
        by_cases s1 : (z.F d).st = 1
        · simp [s1, i2, dd, e, st]; rw [← e, st]; simp; omega
        · simp [s1, dd, e, d3]; rw [← e, st]; simp; omega
  · have i1 : io mk ≠ (x.s i).id := fun c => e (of.1 c)
    by_cases s3 : (z.F mk).st = 3
    · cases en with
      | none =>
        simp [s3, e]; omega
      | some d =>
        have ue := h.en _ hp d rfl
        have od := h.own_f hi ht ue
        have es := ue.st
        have ef := ue.fin
        have un2 := ue.nz
        by_cases dd : d = t.f
        · have i2 := od.2 dd
          have s1 : (z.F d).st = 1 := by rw [dd]; exact ts.st
          subst dd
          simp [s1, i2]
        · have i2 : io d ≠ (x.s i).id := fun c => dd (od.1 c)
          by_cases s1 : (z.F d).st = 1
          · simp [s3, s1, i2, dd, e, un2]; omega
          · by_cases d3 : (z.F d).st = 3
            · have := ef d3
              simp [s3, d3, dd, e]; omega
            · simp [s3, s1, d3, dd, e]; omega
    · simp [s3, e, i1, un]
end
end
end Go.Proofs.Ytalkfnblnlcklaa
/- Package model as landed, in plain lists, second part: what each of its steps makes of what it tells (Lr). No dump; no condition. -/
namespace Go.Proofs.Ytalkfnblnlcklaa
set_option linter.unusedVariables false
set_option linter.unusedSimpArgs false
section
variable {L : List (Nat × VeI)} {io : Nat → Int} {z : LdI} {x : MoI} {i : Nat} {t : TtI}
/-- A version that bars a write. -/
theorem LrL.conf_none (h : LrL L io z x) (g : Good x) (hi : i < 8) (ht : z.s i = some t) {k : Nat} (hk : k < 64) : (z.k k).find? (confV z.F t) ≠ none ↔ ((k : Int) ∉ (x.s i).wrote ∧ x.taken (x.s i).id (x.s i).start k = true) := by
  have ts := h.ts i t hi ht
  have id0 : (x.s i).id ≠ 0 := by rw [ts.id]; exact ts.nz
  have lv := (g.ses i hi).lv id0
  constructor
  · intro hne
    cases c : (z.k k).find? (confV z.F t) with
    | none => exact absurd c hne
    | some v =>
      have hv := List.mem_of_find?_eq_some c
      have hc := List.find?_some c
      rw [h.k k hk] at hv
      obtain ⟨p, hpf, e⟩ := List.mem_map.1 hv
      obtain ⟨hp, ekd⟩ := List.mem_filter.1 hpf
      have ek := of_decide_eq_true ekd
      clear hpf ekd
      obtain ⟨k', v'⟩ := p
      have e : v' = v := e
      subst e
      have ek : k' = k := ek
      subst ek
      have hy := h.mem hp
      have vo := g.ver _ hy
      have um := h.mu _ hp
      obtain ⟨b, val, mk, en⟩ := v'
      -- one that another live one has made or ended
      have live : ∀ d, UsO z.begun z.s z.F io d → d ≠ t.f → (z.F d).st = 1 → Wr x.s (io d) k' → ((k' : Int) ∉ (x.s i).wrote ∧ x.taken (x.s i).id (x.s i).start k' = true) := by
        intro d ud hd s1 hw
        obtain ⟨j, hj, ej, hkj⟩ := hw
        have nij : j ≠ i := fun c => hd ((h.own_f hi ht ud).1 (by rw [← c]; exact ej.symm))
        refine ⟨fun c => nij (g.dis j i k' hj hi hkj c), ?_⟩
        unfold MoI.taken
        rw [Bool.or_eq_true]
        left
        rw [List.any_eq_true]
        refine ⟨j, List.mem_range.2 hj, decide_eq_true ⟨g.wrote_live hj hkj, fun c => nij (g.ids j i hj hi (by rw [c]; exact id0) c), hkj⟩⟩
      have later : laterV k' (x.s i).start (verOf z.F io (k', ⟨b, val, mk, en⟩)) = true → ((k' : Int) ∉ (x.s i).wrote ∧ x.taken (x.s i).id (x.s i).start k' = true) := by
        intro hl
        have l := later_iff.1 hl
        refine ⟨fun c => ?_, by unfold MoI.taken; rw [Bool.or_eq_true]; exact .inr (List.any_eq_true.2 ⟨_, hy, hl⟩)⟩
        by_cases b0 : (verOf z.F io (k', ⟨b, val, mk, en⟩)).bY = 0
        · have f := g.fst i k' hi c _ hy l.1 l.2.1 b0
          rcases l.2.2 with q | q
          · have := q.2; omega
          · omega
        · have f := (vo.by' b0).1
          rcases l.2.2 with q | q
          · exact b0 q.1
          · rw [f] at q; omega
      unfold confV sinceF at hc
      rw [Bool.or_eq_true, Bool.and_eq_true, Bool.and_eq_true] at hc
      rcases hc with ⟨n1, s1⟩ | ⟨n1, s1⟩
      · have n1 : mk ≠ t.f := of_decide_eq_true n1
        simp only [Bool.or_eq_true, Bool.and_eq_true, decide_eq_true_iff] at s1
        rcases s1 with s1 | ⟨s3, lt⟩
        · refine live mk um n1 s1 ?_
          have := (vo.by' (by unfold verOf; simp only; rw [if_neg (by omega)]; exact um.nz)).2.2 (by unfold verOf; simp only; rw [decide_eq_false_iff_not]; omega)
          unfold verOf endO stopO at this
          simp only at this
          rw [if_neg (by omega)] at this
          exact this
        · apply later
          rw [later_iff]
          unfold verOf endO stopO
          simp only
          rw [if_pos s3, if_pos s3]
          exact ⟨by trivial, by rw [decide_eq_false_iff_not]; omega, .inl ⟨by trivial, by rw [ts.start]; exact lt⟩⟩
      · cases en with
        | none => cases s1
        | some d =>
          have ud := h.en _ hp d rfl
          have n1 : d ≠ t.f := fun c => (of_decide_eq_true n1) (by rw [c])
          simp only [Bool.or_eq_true, Bool.and_eq_true, decide_eq_true_iff] at s1
          rcases s1 with s1 | ⟨s3, lt⟩
          · refine live d ud n1 s1 ?_
            have := (vo.en (by unfold verOf endO; simp only; rw [if_pos s1]; exact ud.nz)).2.2
            unfold verOf endO stopO at this
            simp only at this
            rw [if_pos s1] at this
            exact this
          · apply later
            have f1 := ud.fin s3
            have st : (z.F mk).st = 3 := by
              by_cases c3 : (z.F mk).st = 3
              · exact c3
              · have := (vo.by' (by unfold verOf; simp only; rw [if_neg c3]; exact um.nz)).1
                unfold verOf endO stopO at this
                simp only at this
                rw [if_pos s3] at this
                omega
            rw [later_iff]
            unfold verOf endO stopO
            simp only
            rw [if_pos s3]
            exact ⟨by trivial, by rw [decide_eq_false_iff_not]; omega, .inr (by rw [ts.start]; exact lt)⟩
  · rintro ⟨hnw, htk⟩ hnone
    have no : ∀ p ∈ L, p.1 = k → confV z.F t p.2 = false := fun p hp e => by
      have : p.2 ∈ z.k k := by rw [h.k k hk]; exact List.mem_map.2 ⟨p, List.mem_filter.2 ⟨hp, decide_eq_true e⟩, rfl⟩
      have := List.find?_eq_none.1 hnone _ this
      simpa using this
    unfold MoI.taken at htk
    rw [Bool.or_eq_true] at htk
    rcases htk with a | a
    · obtain ⟨j, hj, hd⟩ := List.any_eq_true.1 a
      have hj := List.mem_range.1 hj
      obtain ⟨d1, d2, d3⟩ := of_decide_eq_true hd
      obtain ⟨u, hu⟩ := h.sess hj d1
      have tu := h.ts j u hj hu
      obtain ⟨p, hp, ep, hm⟩ := tu.wr _ d3
      have nf : u.f ≠ t.f := fun c => d2 (by rw [tu.id, ts.id, ← tu.io, ← ts.io, c])
      have := no p hp (by omega)
      unfold confV sinceF at this
      rw [Bool.or_eq_false_iff] at this
      rcases hm with hm | hm
      · have q := this.1
        rw [hm] at q
        simp [nf, tu.st] at q
      · have q := this.2
        rw [hm] at q
        simp [nf, tu.st] at q
    · obtain ⟨y, hy, hl⟩ := List.any_eq_true.1 a
      rw [h.v] at hy
      obtain ⟨p, hp, rfl⟩ := List.mem_map.1 hy
      obtain ⟨l1, l2, l3⟩ := later_iff.1 hl
      have um := h.mu p hp
      obtain ⟨k', b, val, mk, en⟩ := p
      have ek : k' = k := by have : ((k' : Nat) : Int) = k := l1; omega
      have hn := no _ hp ek
      have us := um.st
      have un := um.nz
      unfold confV sinceF at hn
      unfold verOf endO stopO at l2 l3
      rw [ts.start] at l3
      rw [ts.start] at lv
      simp only at hn l2 l3 us un
      rw [Bool.or_eq_false_iff] at hn
      rcases l3 with ⟨b0, lt⟩ | lt
      · have s3 : (z.F mk).st = 3 := by
          by_cases c : (z.F mk).st = 3
          · exact c
          · rw [if_neg c] at b0; exact absurd b0 un
        rw [if_pos s3] at lt
        have nf : mk ≠ t.f := fun c => by rw [c, ts.st] at s3; omega
        have q := hn.1
        simp [nf, s3, lt] at q
      · cases en with
        | none => simp only at lt; omega
        | some d =>
          simp only at lt
          have s3 : (z.F d).st = 3 := by
            by_cases c : (z.F d).st = 3
            · exact c
            · rw [if_neg c] at lt; omega
          rw [if_pos s3] at lt
          have nf : d ≠ t.f := fun c => by rw [c, ts.st] at s3; omega
          have q := hn.2
          simp [nf, s3, lt] at q
/-- What a Collect keeps. -/
theorem LrL.q_garb (h : LrL L io z x) (low : Int) : ∀ p ∈ L, MoI.keepV low (verOf z.F io p) = !garbV z.F low p.2 := by
  intro p hp
  obtain ⟨k', b, val, mk, en⟩ := p
  unfold MoI.keepV garbV byF verOf endO stopO
  cases en with
  | none => simp
  | some d =>
    have ud := h.en _ hp d rfl
    have uf := ud.fin
    by_cases s3 : (z.F d).st = 3
    · have := uf s3
      simp [s3]
      have e : decide ((z.F d).fin = 0) = false := by rw [decide_eq_false_iff_not]; omega
      rw [e]; simp
    · simp [s3]
/-- A session's transaction is another one; its fate is the same. -/
theorem LrL.putS (h : LrL L io z x) (hi : i < 8) (ht : z.s i = some t) (t' : TtI) (x' : TxI) (ef : t'.f = t.f) (ei : t'.id = t.id) (ts : TsO L z.F io t' x') :
  LrL L io { z with s := putT z.s i (some t') } { x with s := Go.Proofs.Ytalkfnblnlcklaa.putS x.s i x' } := by
 have us : ∀ g, UsO z.begun z.s z.F io g → UsO z.begun (putT z.s i (some t')) z.F io g := fun g u => by
  refine ⟨u.st, fun c => ?_, u.fin, u.le, fun j v hj hv e => ?_⟩
  ·obtain ⟨j, v, hj, hv, e⟩ := u.one c
   by_cases ji : j = i
   ·subst ji
    obtain rfl : t = v := by rw [ht] at hv; exact Option.some.inj hv
    exact ⟨j, t', hj, putT_self _ _ _, ef.trans e⟩
   ·exact ⟨j, v, hj, (putT_ne _ _ ji).trans hv, e⟩
  ·by_cases ji : j = i
   ·subst ji
    rw [putT_self] at hv
    obtain rfl : t' = v := Option.some.inj hv
    rw [ef]
    exact u.own j t hj ht (e.trans ei)
   ·rw [putT_ne _ _ ji] at hv
    exact u.own j v hj hv e
 refine ⟨h.c1, h.c2, h.c3, h.c4, h.v, h.k, h.lt, h.nd, fun p hp => us _ (h.mu p hp), fun p hp e he => us _ (h.en p hp e he), fun j hj e => ?_, fun j u hj hu => ?_⟩
 ·have e : putT z.s i (some t') j = none := e
  by_cases ji : j = i
  ·subst ji; rw [show (putT z.s j (some t')) j = some t' from putT_self _ _ _] at e; cases e
  ·show Go.Proofs.Ytalkfnblnlcklaa.putS x.s i x' j = tx0
   rw [putS_ne _ _ ji]
   rw [show (putT z.s i (some t')) j = z.s j from putT_ne _ _ ji] at e
   exact h.no j hj e
 ·have hu : putT z.s i (some t') j = some u := hu
  show TsO L z.F io u (Go.Proofs.Ytalkfnblnlcklaa.putS x.s i x' j)
  by_cases ji : j = i
  ·subst ji
   rw [show (putT z.s j (some t')) j = some t' from putT_self _ _ _] at hu
   obtain rfl : t' = u := Option.some.inj hu
   rw [putS_self]; exact ts
  ·rw [show (putT z.s i (some t')) j = z.s j from putT_ne _ _ ji] at hu
   rw [putS_ne _ _ ji]; exact h.ts j u hj hu
/-- The clock goes on. -/
theorem LrL.tick (h : LrL L io z x) (c : Int) : LrL L io { z with clock := c } { x with time := c } :=
 ⟨h.c1, h.c2, rfl, h.c4, h.v, h.k, h.lt, h.nd, h.mu, h.en, h.no, h.ts⟩
/-- A session's transaction ends: its fate is told, and the session has none more. -/
theorem LrL.fate (h : LrL L io z x) (g : Good x) (hi : i < 8) (ht : z.s i = some t) (ft : FtI) (hf : ft.st = 3 ∨ ft.st = 4) (h1 : ft.st = 3 → 1 ≤ ft.fin) (v' : List VrI) (hv : v' = L.map (verOf (updF z.F t.f ft) io)) :
  LrL L io { z with F := updF z.F t.f ft, s := putT z.s i none } { x with v := v', s := Go.Proofs.Ytalkfnblnlcklaa.putS x.s i tx0 } := by
 have ts := h.ts i t hi ht
 have us : ∀ g, UsO z.begun z.s z.F io g → UsO z.begun (putT z.s i none) (updF z.F t.f ft) io g := fun d u => by
  by_cases e : d = t.f
  ·subst e
   refine ⟨by rw [updF_self]; omega, fun c => by rw [updF_self] at c; omega, fun c => by rw [updF_self] at c ⊢; exact h1 c, u.le, fun j v hj hv e => ?_⟩
   by_cases ji : j = i
   ·subst ji; rw [putT_self] at hv; cases hv
   ·rw [putT_ne _ _ ji] at hv; exact u.own j v hj hv e
  ·refine ⟨by rw [updF_ne _ _ e]; exact u.st, fun c => ?_, fun c => by rw [updF_ne _ _ e] at c ⊢; exact u.fin c, u.le, fun j v hj hv e => ?_⟩
   ·rw [updF_ne _ _ e] at c
    obtain ⟨j, v, hj, hv, e2⟩ := u.one c
    have ji : j ≠ i := fun q => by subst q; rw [ht] at hv; cases hv; exact e e2.symm
    exact ⟨j, v, hj, (putT_ne _ _ ji).trans hv, e2⟩
   ·by_cases ji : j = i
    ·subst ji; rw [putT_self] at hv; cases hv
    ·rw [putT_ne _ _ ji] at hv; exact u.own j v hj hv e
 refine ⟨h.c1, h.c2, h.c3, h.c4, hv, h.k, h.lt, h.nd, fun p hp => us _ (h.mu p hp), fun p hp e he => us _ (h.en p hp e he), fun j hj e => ?_, fun j u hj hu => ?_⟩
 ·have e : putT z.s i none j = none := e
  show Go.Proofs.Ytalkfnblnlcklaa.putS x.s i tx0 j = tx0
  by_cases ji : j = i
  ·subst ji; rw [putS_self]
  ·rw [putS_ne _ _ ji]
   rw [show (putT z.s i none) j = z.s j from putT_ne _ _ ji] at e
   exact h.no j hj e
 ·have hu : putT z.s i none j = some u := hu
  show TsO L (updF z.F t.f ft) io u (Go.Proofs.Ytalkfnblnlcklaa.putS x.s i tx0 j)
  by_cases ji : j = i
  ·subst ji; rw [show (putT z.s j none) j = none from putT_self _ _ _] at hu; cases hu
  ·rw [show (putT z.s i none) j = z.s j from putT_ne _ _ ji] at hu
   rw [putS_ne _ _ ji]
   have tu := h.ts j u hj hu
   have nf : u.f ≠ t.f := fun c => ji (h.apart g hj hi hu ht c)
   exact ⟨tu.id, tu.nz, tu.level, tu.start, tu.ops, by rw [updF_ne _ _ nf]; exact tu.st, tu.io, tu.wr, tu.ag, tu.an⟩
theorem LrL.gone (h : LrL L io z x) (g : Good x) (hi : i < 8) (ht : z.s i = some t) (e0 : Int) : LrL L io { z with F := updF z.F t.f ⟨4, e0⟩, s := putT z.s i none } (x.over i) := by
  refine h.fate g hi ht ⟨4, e0⟩ (.inr rfl) (fun c => absurd (show (4 : Int) = 3 from c) (by decide)) _ ?_
  rw [h.v, List.map_map]
  refine List.map_congr_left fun p hp => ?_
  have um := h.mu p hp
  have om := h.own_f hi ht um
  have ts := h.ts i t hi ht
  obtain ⟨k', b, val, mk, en⟩ := p
  show goneV (x.s i).id (verOf z.F io (k', ⟨b, val, mk, en⟩)) = verOf _ io (k', ⟨b, val, mk, en⟩)
  have id0 : (x.s i).id ≠ 0 := by rw [ts.id]; exact ts.nz
  unfold goneV verOf
  simp only at om ⊢
  have E : ∀ en : Option Nat, (∀ e, en = some e → UsO z.begun z.s z.F io e) → (if endO z.F io en = (x.s i).id then (0 : Int) else endO z.F io en) = endO (updF z.F t.f ⟨4, e0⟩) io en := by
    intro en he
    (try unfold endO)
    (try unfold stopO)
    cases en with
    | none => simp only; split <;> rfl
    | some e =>
      simp only
      have oe := h.own_f hi ht (he e rfl)
      by_cases c : e = t.f
      · rw [oe.2 c, c, updF_self, ts.st]; simp
      · rw [updF_ne _ _ c]
        have : io e ≠ (x.s i).id := fun q => c (oe.1 q)
        by_cases s1 : (z.F e).st = 1
        · rw [if_pos s1, if_neg this]
        · rw [if_neg s1]; split <;> rfl
  have S : ∀ en : Option Nat, (∀ e, en = some e → UsO z.begun z.s z.F io e) → stopO z.F en = stopO (updF z.F t.f ⟨4, e0⟩) en := by
    intro en he
    (try unfold endO)
    (try unfold stopO)
    cases en with
    | none => rfl
    | some e =>
      simp only
      by_cases c : e = t.f
      · rw [c, updF_self, ts.st]; simp
      · rw [updF_ne _ _ c]
  have he := h.en _ hp
  rw [E en he, ← S en he]
  by_cases c : mk = t.f
  · have s1 : (z.F mk).st = 1 := by rw [c]; exact ts.st
    rw [if_neg (show ¬ (z.F mk).st = 3 by omega), if_neg (show ¬ (z.F mk).st = 3 by omega), om.2 c, c, updF_self]
    simp
  · rw [updF_ne _ _ c]
    by_cases s3 : (z.F mk).st = 3
    · rw [if_pos s3, if_pos s3, if_neg (Ne.symm id0)]
    · rw [if_neg s3, if_neg s3, if_neg (fun q => c (om.1 q))]
theorem LrL.done (h : LrL L io z x) (g : Good x) (hi : i < 8) (ht : z.s i = some t) (fin : Int) (h1 : 1 ≤ fin) : LrL L io { z with F := updF z.F t.f ⟨3, fin⟩, s := putT z.s i none } { x with v := x.v.map (doneV (x.s i).id fin), s := Go.Proofs.Ytalkfnblnlcklaa.putS x.s i tx0 } := by
  refine h.fate g hi ht ⟨3, fin⟩ (.inl rfl) (fun c => h1) _ ?_
  rw [h.v, List.map_map]
  refine List.map_congr_left fun p hp => ?_
  have um := h.mu p hp
  have om := h.own_f hi ht um
  have ts := h.ts i t hi ht
  obtain ⟨k', b, val, mk, en⟩ := p
  show doneV (x.s i).id fin (verOf z.F io (k', ⟨b, val, mk, en⟩)) = verOf _ io (k', ⟨b, val, mk, en⟩)
  have id0 : (x.s i).id ≠ 0 := by rw [ts.id]; exact ts.nz
  unfold doneV verOf
  simp only at om ⊢
  have E : ∀ en : Option Nat, (∀ e, en = some e → UsO z.begun z.s z.F io e) → (if endO z.F io en = (x.s i).id then (0 : Int) else endO z.F io en) = endO (updF z.F t.f ⟨3, fin⟩) io en := by
    intro en he
    (try unfold endO)
    (try unfold stopO)
    cases en with
    | none => simp only; split <;> rfl
    | some e =>
      simp only
      have oe := h.own_f hi ht (he e rfl)
      by_cases c : e = t.f
      · rw [oe.2 c, c, updF_self, ts.st]; simp
      · rw [updF_ne _ _ c]
        have : io e ≠ (x.s i).id := fun q => c (oe.1 q)
        by_cases s1 : (z.F e).st = 1
        · rw [if_pos s1, if_neg this]
        · rw [if_neg s1]; split <;> rfl
  have S : ∀ en : Option Nat, (∀ e, en = some e → UsO z.begun z.s z.F io e) → (if endO z.F io en = (x.s i).id then fin else stopO z.F en) = stopO (updF z.F t.f ⟨3, fin⟩) en := by
    intro en he
    (try unfold endO)
    (try unfold stopO)
    cases en with
    | none => simp only; rw [if_neg (Ne.symm id0)]
    | some e =>
      simp only
      have oe := h.own_f hi ht (he e rfl)
      by_cases c : e = t.f
      · rw [oe.2 c, c, updF_self, ts.st]; simp
      · rw [updF_ne _ _ c]
        have : io e ≠ (x.s i).id := fun q => c (oe.1 q)
        by_cases s1 : (z.F e).st = 1
        · rw [if_pos s1, if_neg this]
        · rw [if_neg s1, if_neg (Ne.symm id0)]
  have he := h.en _ hp
  rw [E en he, S en he]
  by_cases c : mk = t.f
  · have s1 : (z.F mk).st = 1 := by rw [c]; exact ts.st
    rw [if_neg (show ¬ (z.F mk).st = 3 by omega), if_neg (show ¬ (z.F mk).st = 3 by omega), om.2 c, c, updF_self, ts.st]
    simp
  · rw [updF_ne _ _ c]
    by_cases s3 : (z.F mk).st = 3
    · rw [if_pos s3, if_pos s3, if_neg (Ne.symm id0), if_neg (Ne.symm id0)]
    · rw [if_neg s3, if_neg s3, if_neg (fun q => c (om.1 q)), if_neg (fun q => c (om.1 q))]
/-- A Collect. -/
theorem LrL.filt (h : LrL L io z x) (low : Int) (hw : ∀ i u, i < 8 → z.s i = some u → ∀ p ∈ L, (p.2.mr = u.f ∨ p.2.en = some u.f) → garbV z.F low p.2 = false) : LrL (L.filter fun p => !garbV z.F low p.2) io { z with k := fun k => (z.k k).filter fun v => !garbV z.F low v } { x with v := x.v.filter (MoI.keepV low) } := by
 have sub : (L.filter fun p => !garbV z.F low p.2).Sublist L := List.filter_sublist
 refine ⟨h.c1, h.c2, h.c3, h.c4, ?_, fun k hk => ?_, fun p hp => h.lt p (sub.subset hp), h.nd.sublist (sub.map _), fun p hp => h.mu p (sub.subset hp), fun p hp => h.en p (sub.subset hp), h.no, fun i u hi hu => ?_⟩
 ·show x.v.filter (MoI.keepV low) = _
  rw [h.v, List.filter_map]
  refine congrArg _ (List.filter_congr fun p hp => ?_)
  exact h.q_garb low p hp
 ·show (z.k k).filter _ = _
  rw [h.k k hk, List.filter_map, List.filter_filter, List.filter_filter]
  refine congrArg _ (List.filter_congr fun p hp => ?_)
  exact Bool.and_comm _ _
 ·have tu := h.ts i u hi hu
  refine ⟨tu.id, tu.nz, tu.level, tu.start, tu.ops, tu.st, tu.io, fun k hk => ?_, tu.ag, tu.an⟩
  obtain ⟨p, hp, e, hm⟩ := tu.wr k hk
  exact ⟨p, List.mem_filter.2 ⟨hp, by rw [hw i u hi hu p hp hm]; rfl⟩, e, hm⟩
/-- A transaction begins. -/
theorem LrL.beg (h : LrL L io z x) (g : Good x) (hi : i < 8) (hn : z.s i = none) (t : TtI) (hid : t.id = z.begun + 1) (ho : t.ops = 0) (ha : ∀ k, t.again k = false) (hf1 : ∀ p ∈ L, p.2.mr ≠ t.f ∧ p.2.en ≠ some t.f) (hf2 : ∀ j u, j < 8 → z.s j = some u → u.f ≠ t.f) (fin : Int) :
  LrL L (fun d => if d = t.f then t.id else io d) { z with clock := t.start, begun := t.id, s := putT z.s i (some t), F := updF z.F t.f ⟨1, fin⟩ } { x with time := t.start, made := t.id, s := Go.Proofs.Ytalkfnblnlcklaa.putS x.s i ⟨t.id, t.level, 0, t.start, [], []⟩ } := by
 have mm := g.made
 have c4 := h.c4
 obtain ⟨io', hio⟩ : ∃ io' : Nat → Int, (fun d => if d = t.f then t.id else io d) = io' := ⟨_, rfl⟩
 rw [hio]
 have i1 : io' t.f = t.id := by rw [← hio]; exact if_pos rfl
 have i2 : ∀ d, d ≠ t.f → io' d = io d := fun d hd => by rw [← hio]; exact if_neg hd
 have us : ∀ d, d ≠ t.f → UsO z.begun z.s z.F io d → UsO t.id (putT z.s i (some t)) (updF z.F t.f ⟨1, fin⟩) io' d := fun d nd u => by
  have le := u.le
  refine ⟨by rw [updF_ne _ _ nd]; exact u.st, fun c => ?_, fun c => by rw [updF_ne _ _ nd] at c ⊢; exact u.fin c, by rw [i2 d nd]; omega, fun j v hj hv e => ?_⟩
  ·rw [updF_ne _ _ nd] at c
   obtain ⟨j, v, hj, hv, e⟩ := u.one c
   have ji : j ≠ i := fun q => by subst q; rw [hn] at hv; cases hv
   exact ⟨j, v, hj, (putT_ne _ _ ji).trans hv, e⟩
  ·rw [i2 d nd] at e
   by_cases ji : j = i
   ·subst ji
    rw [putT_self] at hv
    obtain rfl : t = v := Option.some.inj hv
    omega
   ·rw [putT_ne _ _ ji] at hv
    exact u.own j v hj hv e
 refine ⟨h.c1, h.c2, rfl, rfl, ?_, h.k, h.lt, h.nd, fun p hp => us _ (hf1 p hp).1 (h.mu p hp), fun p hp e he => us _ (fun c => (hf1 p hp).2 (by rw [he, c])) (h.en p hp e he), fun j hj e => ?_, fun j u hj hu => ?_⟩
 ·show x.v = _
  rw [h.v]
  refine List.map_congr_left fun p hp => ?_
  have n1 := (hf1 _ hp).1
  have n2 := (hf1 _ hp).2
  exact (verOf_congr (updF_ne _ _ n1) (i2 _ n1) fun e he => ⟨updF_ne _ _ (fun c => n2 (by rw [he, c])), i2 _ (fun c => n2 (by rw [he, c]))⟩).symm
 ·have e : putT z.s i (some t) j = none := e
  by_cases ji : j = i
  ·subst ji; rw [show (putT z.s j (some t)) j = some t from putT_self _ _ _] at e; cases e
  ·show Go.Proofs.Ytalkfnblnlcklaa.putS x.s i _ j = tx0
   rw [putS_ne _ _ ji]
   rw [show (putT z.s i (some t)) j = z.s j from putT_ne _ _ ji] at e
   exact h.no j hj e
 ·have hu : putT z.s i (some t) j = some u := hu
  show TsO L (updF z.F t.f ⟨1, fin⟩) io' u (Go.Proofs.Ytalkfnblnlcklaa.putS x.s i ⟨t.id, t.level, 0, t.start, [], []⟩ j)
  by_cases ji : j = i
  ·subst ji
   rw [show (putT z.s j (some t)) j = some t from putT_self _ _ _] at hu
   obtain rfl : t = u := Option.some.inj hu
   rw [putS_self]
   refine ⟨rfl, by omega, rfl, rfl, ho.symm, by rw [updF_self], i1, (fun k hk => by cases hk), (fun k _ hk => by rw [ha] at hk; cases hk), fun k _ _ hk => ?_⟩
   obtain ⟨r, hr, _⟩ := hk
   cases hr
  ·rw [show (putT z.s i (some t)) j = z.s j from putT_ne _ _ ji] at hu
   rw [putS_ne _ _ ji]
   have tu := h.ts j u hj hu
   have nf := hf2 j u hj hu
   exact ⟨tu.id, tu.nz, tu.level, tu.start, tu.ops, by rw [updF_ne _ _ nf]; exact tu.st, by rw [i2 _ nf]; exact tu.io, tu.wr, tu.ag, tu.an⟩
end
end Go.Proofs.Ytalkfnblnlcklaa
/- Package model as landed, in plain lists, third part: writes; what is seen; what still holds; Pairs; how many there are. No dump; no condition. -/
namespace Go.Proofs.Ytalkfnblnlcklaa
set_option linter.unusedVariables false
set_option linter.unusedSimpArgs false
section
variable {L : List (Nat × VeI)} {io : Nat → Int} {z : LdI} {x : MoI} {i : Nat} {t : TtI}
/-- Blocks tell versions. -/
theorem LrL.uniq (h : LrL L io z x) {j n : Nat} {p q : Nat × VeI} (hj : L[j]? = some p) (hn : L[n]? = some q) (e : p.2.b = q.2.b) : j = n := by
 have a : (L.map (·.2.b))[j]? = some p.2.b := by rw [List.getElem?_map, hj]; rfl
 have b : (L.map (·.2.b))[n]? = some q.2.b := by rw [List.getElem?_map, hn]; rfl
 have lj := (List.getElem?_eq_some_iff.1 a).1
 have ln := (List.getElem?_eq_some_iff.1 b).1
 refine (List.getElem_inj h.nd).1 (?_ : (L.map (·.2.b))[j] = (L.map (·.2.b))[n])
 rw [(List.getElem?_eq_some_iff.1 a).2, (List.getElem?_eq_some_iff.1 b).2, e]
theorem LrL.one (h : LrL L io z x) {p q : Nat × VeI} (hp : p ∈ L) (hq : q ∈ L) (e : p.2.b = q.2.b) : p = q := by
 obtain ⟨j, hj⟩ := List.mem_iff_getElem?.1 hp
 obtain ⟨n, hn⟩ := List.mem_iff_getElem?.1 hq
 obtain rfl := h.uniq hj hn e
 rw [hj] at hn
 exact Option.some.inj hn
def turnB (b : Nat) (f : VeI → VeI) (l : List VeI) : List VeI := l.map fun u => if u.b = b then f u else u
/-- One version is turned. -/
theorem LrL.turn (h : LrL L io z x) {j k : Nat} {v : VeI} (hj : L[j]? = some (k, v)) (f : VeI → VeI) (fy : VrI → VrI) (hb : ∀ u, (f u).b = u.b) (hmk : (f v).mr = v.mr) (hen : ∀ e, (f v).en = some e → UsO z.begun z.s z.F io e)
    (hlost : ∀ i u, i < 8 → z.s i = some u → v.en = some u.f → (f v).en = some u.f ∨ v.mr = u.f) (hfy : verOf z.F io (k, f v) = fy (verOf z.F io (k, v))) :
    ∃ L', LrL L' io { z with k := putK z.k k (turnB v.b f (z.k k)) } { x with v := setV x.v j fy } ∧ ∀ u ∈ L, ∃ u' ∈ L', u'.1 = u.1 ∧ u'.2.mr = u.2.mr ∧ (u' = u ∨ (u = (k, v) ∧ u' = (k, f v))) := by
  have hm := List.mem_of_getElem? hj
  have un : ∀ p ∈ L, p.2.b = v.b → p = (k, v) := fun p hp e => h.one hp hm e
  obtain ⟨L', hL⟩ : ∃ L', (L.map fun p => if p.2.b = v.b then (p.1, f p.2) else p) = L' := ⟨_, rfl⟩
  have inL : ∀ p ∈ L, (if p.2.b = v.b then (p.1, f p.2) else p) ∈ L' := fun p hp => by rw [← hL]; exact List.mem_map_of_mem hp
  have ofL : ∀ q ∈ L', q ∈ L ∨ q = (k, f v) := fun q hq => by
    rw [← hL] at hq
    obtain ⟨p, hp, rfl⟩ := List.mem_map.1 hq
    by_cases e : p.2.b = v.b
    · rw [if_pos e, un p hp e]; exact .inr rfl
    · rw [if_neg e]; exact .inl hp
  refine ⟨L', ⟨h.c1, h.c2, h.c3, h.c4, ?_, fun k' hk' => ?_, fun p hp => ?_, ?_, fun p hp => ?_, fun p hp e he => ?_, h.no, fun a u ha hu => ?_⟩, fun u hu => ?_⟩
  · show setV x.v j fy = L'.map (verOf z.F io)
    unfold setV
    rw [h.v, ← hL]
    refine List.ext_getElem? fun n => ?_
    rw [List.getElem?_modify, List.getElem?_map, List.getElem?_map, List.getElem?_map]
    cases c : L[n]? with
    | none => rfl
    | some p =>
      by_cases e : j = n
      · subst e
        rw [hj] at c
        obtain rfl := Option.some.inj c
        simp [hfy]
      · have : p.2.b ≠ v.b := fun q => e (h.uniq hj c q.symm)
        simp [e, this]
  · show putK z.k k (turnB v.b f (z.k k)) k' = _
    rw [← hL]
    by_cases e : k' = k
    · subst e
      rw [putK_self, h.k k' hk']
      unfold turnB
      rw [List.filter_map, List.map_map, List.map_map]
      have : (L.filter ((fun p : Nat × VeI => decide (p.1 = k')) ∘ fun p => if p.2.b = v.b then (p.1, f p.2) else p)) = L.filter fun p => decide (p.1 = k') := List.filter_congr fun p hp => by
        show decide ((if p.2.b = v.b then (p.1, f p.2) else p).1 = k') = _
        split <;> rfl
      rw [this]
      refine List.map_congr_left fun p hp => ?_
      show (if p.2.b = v.b then f p.2 else p.2) = (if p.2.b = v.b then (p.1, f p.2) else p).2
      split <;> rfl
    · rw [putK_ne _ _ e, h.k k' hk', List.filter_map, List.map_map]
      have : (L.filter ((fun p : Nat × VeI => decide (p.1 = k')) ∘ fun p => if p.2.b = v.b then (p.1, f p.2) else p)) = L.filter fun p => decide (p.1 = k') := List.filter_congr fun p hp => by
        show decide ((if p.2.b = v.b then (p.1, f p.2) else p).1 = k') = _
        split <;> rfl
      rw [this]
      refine List.map_congr_left fun p hp => ?_
      obtain ⟨hp, ek⟩ := List.mem_filter.1 hp
      have ek := of_decide_eq_true ek
      have : p.2.b ≠ v.b := fun q => e (by rw [← ek, un p hp q])
      show p.2 = (if p.2.b = v.b then (p.1, f p.2) else p).2
      rw [if_neg this]
  · rcases ofL p hp with q | q
    · exact h.lt p q
    · rw [q]; exact h.lt (k, v) hm
  · have : L'.map (·.2.b) = L.map (·.2.b) := by
      rw [← hL, List.map_map]
      refine List.map_congr_left fun p hp => ?_
      show (if p.2.b = v.b then (p.1, f p.2) else p).2.b = p.2.b
      split
      · exact hb _
      · rfl
    rw [this]; exact h.nd
  · rcases ofL p hp with q | q
    · exact h.mu p q
    · rw [q]; show UsO _ _ _ _ (f v).mr; rw [hmk]; exact h.mu _ hm
  · rcases ofL p hp with q | q
    · exact h.en p q e he
    · rw [q] at he; exact hen e he
  · have tu := h.ts a u ha hu
    refine ⟨tu.id, tu.nz, tu.level, tu.start, tu.ops, tu.st, tu.io, fun key hk => ?_, tu.ag, tu.an⟩
    obtain ⟨p, hp, e, w⟩ := tu.wr key hk
    refine ⟨_, inL p hp, ?_⟩
    by_cases q : p.2.b = v.b
    · rw [if_pos q]
      obtain rfl := un p hp q
      refine ⟨e, ?_⟩
      show (f v).mr = u.f ∨ (f v).en = some u.f
      rw [hmk]
      rcases w with w | w
      · exact .inl w
      · exact (hlost a u ha hu w).symm
    · rw [if_neg q]; exact ⟨e, w⟩
  · refine ⟨_, inL u hu, ?_⟩
    by_cases q : u.2.b = v.b
    · rw [if_pos q]
      obtain rfl := un u hu q
      exact ⟨rfl, hmk, .inr ⟨rfl, rfl⟩⟩
    · rw [if_neg q]; exact ⟨rfl, rfl, .inl rfl⟩
/-- A version is made. -/
theorem LrL.new (h : LrL L io z x) {k : Nat} (hk : k < 64) (v : VeI) (hb : ∀ p ∈ L, p.2.b ≠ v.b) (um : UsO z.begun z.s z.F io v.mr) (he : v.en = none) : LrL (L ++ [(k, v)]) io { z with k := putK z.k k (z.k k ++ [v]) } { x with v := x.v ++ [verOf z.F io (k, v)] } := by
 refine ⟨h.c1, h.c2, h.c3, h.c4, ?_, fun k' hk' => ?_, fun p hp => ?_, ?_, fun p hp => ?_, fun p hp e he' => ?_, h.no, fun a u ha hu => ?_⟩
 ·show x.v ++ [verOf z.F io (k, v)] = _
  rw [List.map_append, h.v]; rfl
 ·show putK z.k k (z.k k ++ [v]) k' = _
  rw [List.filter_append, List.map_append]
  by_cases e : k' = k
  ·subst e
   rw [putK_self, h.k k' hk']
   simp
  ·rw [putK_ne _ _ e, h.k k' hk']
   simp [Ne.symm e]
 ·rcases List.mem_append.1 hp with q | q
  ·exact h.lt p q
  ·rw [List.mem_singleton.1 q]; exact hk
 ·rw [List.map_append]
  refine List.nodup_append.2 ⟨h.nd, by simp, fun a ha b hb' => ?_⟩
  obtain ⟨p, hp, rfl⟩ := List.mem_map.1 ha
  have : b = v.b := by simpa using hb'
  rw [this]; exact hb p hp
 ·rcases List.mem_append.1 hp with q | q
  ·exact h.mu p q
  ·rw [List.mem_singleton.1 q]; exact um
 ·rcases List.mem_append.1 hp with q | q
  ·exact h.en p q e he'
  ·rw [List.mem_singleton.1 q] at he'; rw [show v.en = some e from he'] at he; cases he
 ·have tu := h.ts a u ha hu
  refine ⟨tu.id, tu.nz, tu.level, tu.start, tu.ops, tu.st, tu.io, fun key hk => ?_, tu.ag, tu.an⟩
  obtain ⟨p, hp, w⟩ := tu.wr key hk
  exact ⟨p, List.mem_append.2 (.inl hp), w⟩
/-- What a session sees of a key. -/
theorem LrL.sees (h : LrL L io z x) (g : Good x) (hi : i < 8) (ht : z.s i = some t) {k : Nat} (hk : k < 64) :
    (seesI x.v (x.s i).id (x.s i).start k = none ∧ (z.k k).find? (seesV z.F t) = none) ∨ ∃ j v, seesI x.v (x.s i).id (x.s i).start k = some j ∧ L[j]? = some (k, v) ∧ (z.k k).find? (seesV z.F t) = some v ∧ seesV z.F t v = true := by
  have ts := h.ts i t hi ht
  have id0 : (x.s i).id ≠ 0 := by rw [ts.id]; exact ts.nz
  have E : seesI x.v (x.s i).id (x.s i).start k = x.v.findIdx? fun y => mineV (x.s i).id k y || elderV (x.s i).id k (x.s i).start y := by
    unfold seesI
    cases c : x.v.findIdx? (mineV (x.s i).id k) with
    | none =>
      show x.v.findIdx? _ = _
      refine findIdx_congr _ _ _ fun y hy => ?_
      rw [List.findIdx?_eq_none_iff.1 c y hy]; rfl
    | some j =>
      obtain ⟨y, hy, q⟩ := findIdx_some c
      obtain ⟨e, d, n, b⟩ := mine_iff.1 q
      have hw := ((g.ver y (List.mem_of_getElem? hy)).by' (by rw [b]; exact id0)).2.2 d
      rw [b, e] at hw
      have hw := g.whose hi rfl id0 hw
      show some j = _
      rw [← c]
      refine findIdx_congr _ _ _ fun y hy => ?_
      rw [g.no_elder hi id0 hw hy, Bool.or_false]
  cases c : seesI x.v (x.s i).id (x.s i).start k with
  | none =>
    rw [E] at c
    exact .inl ⟨rfl, h.find_none hk (h.q_sees g hi ht k) c⟩
  | some j =>
    rw [E] at c
    obtain ⟨v, a1, a2, a3, a4⟩ := h.find_some hk (h.q_sees g hi ht k) c
    exact .inr ⟨j, v, rfl, a1, a4, a2⟩
end
end Go.Proofs.Ytalkfnblnlcklaa
/- A Model of whole calls in plain lists: states that are laid by calls one behind the other; calls that are known to be allowed. No dump; no condition. -/
namespace Go.Proofs.Ytalkfnblnlcklaa
set_option linter.unusedVariables false
namespace MoI
/-- A call that is known to be allowed, of a session that lives. -/
def doE' (m : MoI) (s : Int) (o : OpI) : Int :=
 if s < 0 ∨ 7 < s then 1 else if (m.s s.toNat).id = 0 then 9 else if o.kind = 7 ∨ o.kind = 6 then 0 else if 12 ≤ (m.s s.toNat).ops then 65 else 0
def doR' (m : MoI) (s : Int) (o : OpI) : ReI := if m.doE' s o = 0 then (m.run s.toNat o).1 else re0
def doM' (m : MoI) (s : Int) (o : OpI) : MoI := if m.doE' s o = 0 then (m.run s.toNat o).2 else m
end MoI
section
variable {m : MoI} {s : Int} {o : OpI}
theorem doE_ok (h : okI o = true) : m.doE s o = m.doE' s o := by
 unfold MoI.doE MoI.doE'
 simp [h]
theorem doR_ok (h : okI o = true) : m.doR s o = m.doR' s o := by unfold MoI.doR MoI.doR'; rw [doE_ok h]
theorem doM_ok (h : okI o = true) : m.doM s o = m.doM' s o := by unfold MoI.doM MoI.doM'; rw [doE_ok h]
end
/-- Two transactions over two keys. -/
def pair0 : MoI := (((((new0 50 100).beg 7 1).doM' 7 ⟨2, 1, 0, 10⟩).doM' 7 ⟨2, 2, 0, 20⟩).doM' 7 ⟨6, 0, 0, 0⟩)
def pairM (a b : Int) : MoI := (pair0.beg 0 a).beg 1 b
theorem level_cases {a : Int} (h : 1 ≤ a ∧ a ≤ 3) : a = 1 ∨ a = 2 ∨ a = 3 := by omega
/-- Eight sessions, told one by one. -/
def ses (l : List TxI) : Nat → TxI := fun i => l.getD i tx0
theorem ses_eq {f : Nat → TxI} {l : List TxI} (h0 : f 0 = ses l 0) (h1 : f 1 = ses l 1) (h2 : f 2 = ses l 2) (h3 : f 3 = ses l 3) (h4 : f 4 = ses l 4) (h5 : f 5 = ses l 5) (h6 : f 6 = ses l 6) (h7 : f 7 = ses l 7) (h8 : ∀ n, f (n + 8) = ses l (n + 8)) : f = ses l := by
 funext i
 match i with
 | 0 => exact h0
 | 1 => exact h1
 | 2 => exact h2
 | 3 => exact h3
 | 4 => exact h4
 | 5 => exact h5
 | 6 => exact h6
 | 7 => exact h7
 | n + 8 => exact h8 n
/-- A write's call may be. -/
theorem okv {k key v : Int} (hk : k = 2 ∨ k = 3) (h : 0 ≤ key ∧ key ≤ 63) (hv : 0 ≤ v ∧ v ≤ 65535) : okI ⟨k, key, 0, v⟩ = true := by
 unfold okI
 rcases hk with rfl | rfl <;> simp <;> omega
def pairL (a b : Int) : MoI := ⟨50, 100, [⟨1, 10, 0, 0, 2, 0, false⟩, ⟨2, 20, 0, 0, 2, 0, false⟩], ses [⟨2, a, 0, 3, [], []⟩, ⟨3, b, 0, 4, [], []⟩, tx0, tx0, tx0, tx0, tx0, tx0], 4, 3⟩
theorem pair_lit {a b : Int} (ha : 1 ≤ a ∧ a ≤ 3) (hb : 1 ≤ b ∧ b ≤ 3) : pairM a b = pairL a b := by
 rcases level_cases ha with rfl | rfl | rfl <;> rcases level_cases hb with rfl | rfl | rfl <;> exact MoI.ext rfl rfl rfl (ses_eq rfl rfl rfl rfl rfl rfl rfl rfl (fun _ => rfl)) rfl rfl
end Go.Proofs.Ytalkfnblnlcklaa
