/- Several texts, one behind the other: MoW, AxO, AxQ, AxU. -/
import Derived.Test.YtalkfnblnlcklaaModelBaseDZac
/- A Model of whole calls (layer 19) in plain lists: a write keeps what a Model always keeps; each call does. No dump; no condition. -/
namespace Go.Proofs.Ytalkfnblnlcklaa
set_option linter.unusedVariables false

/-- What Apart speaks of. -/
def coreV (y : VrI) : Int × Bool × Int × Int × Int := (y.key, y.dead, y.bY, y.start, y.stop)
def ApartC (y z : Int × Bool × Int × Int × Int) : Prop := y.1 = z.1 → y.2.1 = false → z.2.1 = false → (y.2.2.1 = 0 → z.2.2.1 = 0 → (y.2.2.2.2 ≠ 0 ∧ y.2.2.2.2 ≤ z.2.2.2.1) ∨ (z.2.2.2.2 ≠ 0 ∧ z.2.2.2.2 ≤ y.2.2.2.1)) ∧ (y.2.2.1 ≠ 0 → y.2.2.1 ≠ z.2.2.1)
theorem apart_core (v : List VrI) : v.Pairwise Apart ↔ (v.map coreV).Pairwise ApartC := by
 rw [List.pairwise_map]
 exact Iff.rfl
theorem core_modify (v : List VrI) (i : Nat) (f : VrI → VrI) (hf : ∀ y, coreV (f y) = coreV y) : (v.modify i f).map coreV = v.map coreV := by
 apply List.ext_getElem?
 intro j
 rw [List.getElem?_map, List.getElem?_map, List.getElem?_modify]
 cases v[j]? with
 | none => rfl
 | some y => by_cases e : i = j <;> simp [e, hf]
theorem mem_modify {v : List VrI} {i : Nat} {f : VrI → VrI} {y : VrI} (h : y ∈ v.modify i f) : (∃ j, j ≠ i ∧ v[j]? = some y) ∨ ∃ a, v[i]? = some a ∧ y = f a := by
 obtain ⟨j, hj⟩ := List.mem_iff_getElem?.1 h
 rw [List.getElem?_modify] at hj
 by_cases e : i = j
 ·subst e
  right
  cases hv : v[i]? with
  | none => rw [hv] at hj; cases hj
  | some a => rw [hv] at hj; simp at hj; exact ⟨a, rfl, hj.symm⟩
 ·left
  refine ⟨j, fun q => e q.symm, ?_⟩
  cases hv : v[j]? with
  | none => rw [hv] at hj; cases hj
  | some a => rw [hv] at hj; simp [e] at hj; rw [hj]
theorem Apart.symm {y z : VrI} (h : Apart y z) : Apart z y := fun e d d' => by
 obtain ⟨p, q⟩ := h e.symm d' d
 refine ⟨fun a b => (p b a).symm, fun a c => ?_⟩
 by_cases b : y.bY = 0
 ·rw [b] at c; exact a c
 ·exact q b c.symm
theorem apart_at {v : List VrI} (h : v.Pairwise Apart) {i j : Nat} {y z : VrI} (hi : v[i]? = some y) (hj : v[j]? = some z) (hne : i ≠ j) : Apart y z := by
 obtain ⟨li, ei⟩ := List.getElem?_eq_some_iff.1 hi
 obtain ⟨lj, ej⟩ := List.getElem?_eq_some_iff.1 hj
 have := List.pairwise_iff_getElem.1 h
 rcases Nat.lt_or_gt_of_ne hne with q | q
 ·have := this i j li lj q
  rwa [ei, ej] at this
 ·have := this j i lj li q
  rw [ei, ej] at this
  exact this.symm
section
variable {x : MoI}
/-- What a session sees of a key. -/
theorem sees_cases {v : List VrI} {id at' key : Int} {i : Nat} (h : seesI v id at' key = some i) : ∃ y, v[i]? = some y ∧ (mineV id key y = true ∨ elderV id key at' y = true) := by
  unfold seesI at h
  cases hm : v.findIdx? (mineV id key) with
  | some j =>
    rw [hm] at h
    cases h
    obtain ⟨lt, p, _⟩ := List.findIdx?_eq_some_iff_getElem.1 hm
    exact ⟨v[i], List.getElem?_eq_getElem lt, .inl p⟩
  | none =>
    rw [hm] at h
    obtain ⟨lt, p, _⟩ := List.findIdx?_eq_some_iff_getElem.1 h
    exact ⟨v[i], List.getElem?_eq_getElem lt, .inr p⟩
theorem sees_none {v : List VrI} {id at' key : Int} (h : seesI v id at' key = none) : (∀ y ∈ v, mineV id key y = false) ∧ ∀ y ∈ v, elderV id key at' y = false := by
  unfold seesI at h
  cases hm : v.findIdx? (mineV id key) with
  | some j => rw [hm] at h; cases h
  | none =>
    rw [hm] at h
    exact ⟨List.findIdx?_eq_none_iff.1 hm, List.findIdx?_eq_none_iff.1 h⟩
theorem mine_iff {id key : Int} {y : VrI} : mineV id key y = true ↔ y.key = key ∧ y.dead = false ∧ y.ended ≠ id ∧ y.bY = id := by unfold mineV; simp
theorem elder_iff {id key at' : Int} {y : VrI} : elderV id key at' y = true ↔ y.key = key ∧ y.dead = false ∧ y.ended ≠ id ∧ y.bY = 0 ∧ y.start ≤ at' ∧ (y.ended ≠ 0 ∨ y.stop = 0 ∨ at' < y.stop) := by unfold elderV; simp
theorem own_iff {id key : Int} {y : VrI} : ownV id key y = true ↔ y.key = key ∧ y.bY = id ∧ y.dead = false := by unfold ownV; simp
theorem later_iff {key at' : Int} {y : VrI} : laterV key at' y = true ↔ y.key = key ∧ y.dead = false ∧ (y.bY = 0 ∧ at' < y.start ∨ at' < y.stop) := by unfold laterV; simp
theorem there_iff {key at' : Int} {y : VrI} : thereV key at' y = true ↔ y.key = key ∧ y.dead = false ∧ y.bY = 0 ∧ y.start ≤ at' ∧ (y.stop = 0 ∨ at' < y.stop) := by unfold thereV; simp
/-- A key that was not written has no version of one's own. -/
theorem Good.own_none (h : Good x) {s : Nat} (hs : s < 8) (h0 : (x.s s).id ≠ 0) {key : Int} (hk : key ∉ (x.s s).wrote) : x.v.findIdx? (ownV (x.s s).id key) = none := by
  refine List.findIdx?_eq_none_iff.2 fun y hy => ?_
  cases q : ownV (x.s s).id key y with
  | false => rfl
  | true =>
    obtain ⟨e, b, d⟩ := own_iff.1 q
    have := ((h.ver y hy).by' (by rw [b]; exact h0)).2.2 d
    rw [b, e] at this
    exact absurd (h.whose hs rfl h0 this) hk
/-- A key that was written has no elder version that is seen. -/
theorem Good.no_elder (h : Good x) {s : Nat} (hs : s < 8) (h0 : (x.s s).id ≠ 0) {key : Int} (hk : key ∈ (x.s s).wrote) {y : VrI} (hy : y ∈ x.v) : elderV (x.s s).id key (x.s s).start y = false := by
  cases q : elderV (x.s s).id key (x.s s).start y with
  | false => rfl
  | true =>
    obtain ⟨e, d, n, b, st, p⟩ := elder_iff.1 q
    obtain ⟨p1, p2, p3⟩ := h.fst s key hs hk y hy e d b
    rcases h.over_by hs rfl h0 hy (by rw [e]; exact hk) d b with c | ⟨c1, c2, c3⟩
    · exact absurd c n
    · rcases p with c | c | c
      · exact absurd c1 c
      · exact absurd c c2
      · omega
/-- What one sees of a key that one wrote is one's own. -/
theorem Good.own_seen (h : Good x) {s : Nat} (hs : s < 8) (h0 : (x.s s).id ≠ 0) {key : Int} (hk : key ∈ (x.s s).wrote) {i : Nat} (ha : seesI x.v (x.s s).id (x.s s).start key = some i) : x.v.findIdx? (ownV (x.s s).id key) = some i := by
  obtain ⟨y, hi, hy⟩ := sees_cases ha
  have hm := List.mem_of_getElem? hi
  rcases hy with hy | hy
  · obtain ⟨e, d, n, b⟩ := mine_iff.1 hy
    cases ho : x.v.findIdx? (ownV (x.s s).id key) with
    | none => exact absurd (own_iff.2 ⟨e, b, d⟩) (by rw [List.findIdx?_eq_none_iff.1 ho y hm]; simp)
    | some j =>
      obtain ⟨lt, p, _⟩ := List.findIdx?_eq_some_iff_getElem.1 ho
      obtain ⟨e2, b2, d2⟩ := own_iff.1 p
      by_cases q : i = j
      · rw [q]
      · have := apart_at h.two hi (List.getElem?_eq_getElem lt) q (e.trans e2.symm) d d2
        exact absurd (b.trans b2.symm) (this.2 (by rw [b]; exact h0))
  · rw [h.no_elder hs h0 hk hm] at hy; cases hy
/-- A version that is seen. -/
theorem Good.seen_at (h : Good x) {s : Nat} (hs : s < 8) (h0 : (x.s s).id ≠ 0) {key : Int} (hk : key ∉ (x.s s).wrote) {i : Nat} (ha : seesI x.v (x.s s).id (x.s s).start key = some i) : ∃ y, x.v[i]? = some y ∧ elderV (x.s s).id key (x.s s).start y = true := by
 obtain ⟨y, hi, hy⟩ := sees_cases ha
 refine ⟨y, hi, hy.resolve_left fun q => ?_⟩
 obtain ⟨e, d, n, b⟩ := mine_iff.1 q
 have := List.findIdx?_eq_none_iff.1 (h.own_none hs h0 hk) y (List.mem_of_getElem? hi)
 rw [own_iff.2 ⟨e, b, d⟩] at this
 cases this
/-- A write that goes through, whatever it makes of the versions. -/
theorem Good.wrote (h : Good x) {s : Nat} (hs : s < 8) (h0 : (x.s s).id ≠ 0) {key : Int} (k0 : 0 ≤ key ∧ key ≤ 63) (t : TxI) (e1 : t.id = (x.s s).id) (e2 : t.level = (x.s s).level) (e3 : t.start = (x.s s).start) (hw : ∀ k, k ∈ t.wrote ↔ k ∈ (x.s s).wrote ∨ k = key)
  (ops : 0 ≤ t.ops ∧ t.ops ≤ 12) (wr : (t.wrote.length : Int) ≤ t.ops) (rd : (t.reads.length : Int) ≤ t.ops) (rb : ∀ r ∈ t.reads, 0 ≤ r.lo ∧ r.lo ≤ r.hi ∧ r.hi ≤ 63)
  (hd : ∀ i, i < 8 → key ∈ (x.s i).wrote → i = s) (v : List VrI) (len : (v.length : Int) ≤ x.slots) (two : v.Pairwise Apart)
  (ver : ∀ y ∈ v, (y ∈ x.v) ∨ VOk (putS x.s s t) x.made x.time y)
  (fo : ∀ y ∈ v, y.key ≠ key → y.dead = false → y.bY = 0 → ∃ a ∈ x.v, a.key = y.key ∧ a.dead = false ∧ a.bY = 0 ∧ a.start = y.start ∧ a.stop = y.stop ∧ a.ended = y.ended)
  (fk : ∀ y ∈ v, y.key = key → y.dead = false → y.bY = 0 → y.start ≤ t.start ∧ y.stop ≤ t.start ∧ (y.ended ≠ 0 ∨ y.stop ≠ 0)) :
  Good { x with s := putS x.s s t, v := v } := by
 have fi : ∀ i, (putS x.s s t i).id = (x.s i).id := fun i => by by_cases e : i = s; subst e; rw [putS_self, e1]; rw [putS_ne _ _ e]
 have fs : ∀ i, (putS x.s s t i).start = (x.s i).start := fun i => by by_cases e : i = s; subst e; rw [putS_self, e3]; rw [putS_ne _ _ e]
 have fw : ∀ i k, k ∈ (putS x.s s t i).wrote ↔ k ∈ (x.s i).wrote ∨ (i = s ∧ k = key) := fun i k => by
  by_cases e : i = s
  ·subst e; rw [putS_self, hw]; simp
  ·rw [putS_ne _ _ e]; simp [e]
 have so := h.ses s hs
 have WR : ∀ id key, id ≠ 0 → Wr x.s id key → Wr (putS x.s s t) id key := by
  rintro id key _ ⟨i, hi, e, hk⟩
  exact ⟨i, hi, by rw [fi]; exact e, (fw i key).2 (.inl hk)⟩
 refine ⟨h.conf, h.time, h.made, len, fun i hi => ?_, fun i j hi hj => ?_, fun y hy => ?_, two, fun i j k hi hj a b => ?_, fun i k hi hk y hy ek d b0 => ?_⟩
 ·show SOk x.made x.time (putS x.s s t i)
  by_cases e : i = s
  ·subst e
   rw [putS_self]
   exact ⟨by rw [e1]; exact so.id, fun q => absurd (e1 ▸ q) h0, fun _ => by rw [e2, e3]; exact so.lv h0, ops, wr, rd, rb, fun k hk => by
    rcases (hw k).1 hk with q | q
    ·exact so.wb k q
    ·rw [q]; exact k0⟩
  ·rw [putS_ne _ _ e]; exact h.ses i hi
 ·show (putS x.s s t i).id ≠ 0 → (putS x.s s t i).id = (putS x.s s t j).id → i = j
  rw [fi, fi]; exact h.ids i j hi hj
 ·rcases ver y hy with q | q
  ·exact (h.ver y q).later (Int.le_refl _) (Int.le_refl _) WR
  ·exact q
 ·rcases (fw i k).1 a with a | ⟨a, a'⟩
  ·rcases (fw j k).1 b with b | ⟨b, b'⟩
   ·exact h.dis i j k hi hj a b
   ·rw [b' ] at a; rw [b]; exact hd i hi a
  ·rcases (fw j k).1 b with b | ⟨b, b'⟩
   ·rw [a'] at b; rw [a]; exact (hd j hj b).symm
   ·rw [a, b]
 ·show y.start ≤ (putS x.s s t i).start ∧ y.stop ≤ (putS x.s s t i).start ∧ _
  by_cases q : k = key
  ·obtain rfl : i = s := by
    rcases (fw i k).1 hk with c | ⟨c, _⟩
    ·exact hd i hi (q ▸ c)
    ·exact c
   rw [putS_self]
   exact fk y hy (ek.trans q) d b0
  ·rw [fs]
   have hk' : k ∈ (x.s i).wrote := ((fw i k).1 hk).resolve_right (fun c => q c.2)
   obtain ⟨a, ha, ak, ad, ab, a1, a2, a3⟩ := fo y hy (by rw [ek]; exact q) d b0
   have := h.fst i k hi hk' a ha (ak.trans ek) ad ab
   rw [a1, a2, a3] at this
   exact this
theorem taken_false {m : MoI} {id at' key : Int} (h : m.taken id at' key = false) : (∀ i, i < 8 → (m.s i).id ≠ 0 → (m.s i).id ≠ id → key ∉ (m.s i).wrote) ∧ ∀ y ∈ m.v, laterV key at' y = false := by
 unfold MoI.taken at h
 rw [Bool.or_eq_false_iff] at h
 refine ⟨fun i hi a b c => ?_, fun y hy => by have := List.any_eq_false.1 h.2 y hy; simpa using this⟩
 have := List.any_eq_false.1 h.1 i (List.mem_range.2 hi)
 simp [a, b, c] at this
/-- What a first write finds of a key. -/
theorem Good.free (h : Good x) {s : Nat} (hs : s < 8) (h0 : (x.s s).id ≠ 0) {key : Int} (hk : key ∉ (x.s s).wrote) (ht : x.taken (x.s s).id (x.s s).start key = false) :
  (∀ i, i < 8 → key ∉ (x.s i).wrote) ∧ ∀ y ∈ x.v, y.key = key → y.dead = false → y.bY = 0 ∧ y.ended = 0 ∧ y.start ≤ (x.s s).start ∧ y.stop ≤ (x.s s).start := by
 obtain ⟨t1, t2⟩ := taken_false ht
 have no : ∀ i, i < 8 → key ∉ (x.s i).wrote := fun i hi hc => by
  have l := h.wrote_live hi hc
  by_cases e : (x.s i).id = (x.s s).id
  ·obtain rfl := h.ids i s hi hs l e; exact hk hc
  ·exact t1 i hi l e hc
 have nw : ∀ id, ¬ Wr x.s id key := fun id ⟨i, hi, _, hc⟩ => no i hi hc
 refine ⟨no, fun y hy e d => ?_⟩
 have o := h.ver y hy
 have b0 : y.bY = 0 := Decidable.byContradiction fun b => nw _ (e ▸ (o.by' b).2.2 d)
 have e0 : y.ended = 0 := Decidable.byContradiction fun b => nw _ (e ▸ (o.en b).2.2)
 have l := t2 y hy
 have : ¬ (y.key = key ∧ y.dead = false ∧ (y.bY = 0 ∧ (x.s s).start < y.start ∨ (x.s s).start < y.stop)) := fun c => by rw [later_iff.2 c] at l; cases l
 refine ⟨b0, e0, ?_, ?_⟩
 ·exact Decidable.byContradiction fun c => this ⟨e, d, .inl ⟨b0, by omega⟩⟩
 ·exact Decidable.byContradiction fun c => this ⟨e, d, .inr (by omega)⟩
/-- The counted state, and a session that wrote. -/
def wroteT (t : TxI) (key : Int) : TxI := { t with ops := t.ops + 1, wrote := if key ∈ t.wrote then t.wrote else t.wrote ++ [key] }
theorem wroteT_mem (t : TxI) (key k : Int) : k ∈ (wroteT t key).wrote ↔ k ∈ t.wrote ∨ k = key := by
 unfold wroteT
 simp only
 by_cases h : key ∈ t.wrote
 ·rw [if_pos h]
  constructor
  ·exact .inl
  ·rintro (q | q)
   ·exact q
   ·rw [q]; exact h
 ·rw [if_neg h, List.mem_append]; simp
theorem wroteT_len (t : TxI) (key : Int) (h : (t.wrote.length : Int) ≤ t.ops) : ((wroteT t key).wrote.length : Int) ≤ (wroteT t key).ops := by
 unfold wroteT
 simp only
 by_cases hk : key ∈ t.wrote
 ·rw [if_pos hk]; omega
 ·rw [if_neg hk, List.length_append]; simp; omega
/-- A new version. -/
def newV (key val id : Int) : VrI := ⟨key, val, id, 0, 0, 0, false⟩
theorem newV_ok {s : Nat → TxI} {made time key val id : Int} (hk : 0 ≤ key ∧ key ≤ 63) (hv : 0 ≤ val ∧ val ≤ 65535) (hi : 0 ≤ id ∧ id ≤ made) (hm : 0 ≤ made) (ht : 0 ≤ time) (hw : Wr s id key) : VOk s made time (newV key val id) :=
 ⟨fun _ => ⟨rfl, .inl rfl, fun _ => hw⟩, fun e => absurd rfl e, fun _ => ⟨Int.le_refl _, ht, .inl rfl⟩, hk, hv, hi, ⟨Int.le_refl _, hm⟩⟩
theorem two_new {v : List VrI} {key val id : Int} (h : v.Pairwise Apart) (h0 : id ≠ 0) (ho : ∀ y ∈ v, ¬ (y.key = key ∧ y.bY = id ∧ y.dead = false)) : (v ++ [newV key val id]).Pairwise Apart := by
 refine List.pairwise_append.2 ⟨h, List.pairwise_singleton _ _, fun a ha b hb => ?_⟩
 rw [List.mem_singleton] at hb
 subst hb
 intro e da _
 refine ⟨fun _ c => absurd c h0, fun b0 c => ho a ha ⟨e, c, da⟩⟩
section
variable {s : Nat} (h : Good x) (hs : s < 8) (h0 : (x.s s).id ≠ 0) (o : OpI) (hop : (x.s s).ops < 12) (k0 : 0 ≤ o.key ∧ o.key ≤ 63)
include h hs h0 hop k0
/-- The first write of a key that is not there. -/
theorem good_insA (hv : 0 ≤ o.val ∧ o.val ≤ 65535) (hk : o.key ∉ (x.s s).wrote) (ht : x.taken (x.s s).id (x.s s).start o.key = false) (ha : seesI x.v (x.s s).id (x.s s).start o.key = none) (hl : ¬ x.slots ≤ x.v.length) :
  Good { x with s := putS x.s s (wroteT (x.s s) o.key), v := x.v ++ [newV o.key o.val (x.s s).id] } := by
 obtain ⟨f1, f2⟩ := h.free hs h0 hk ht
 have so := h.ses s hs
 have own := List.findIdx?_eq_none_iff.1 (h.own_none hs h0 hk)
 have el := (sees_none ha).2
 refine h.wrote hs h0 k0 (wroteT (x.s s) o.key) rfl rfl rfl (wroteT_mem _ _) ⟨by show 0 ≤ (x.s s).ops + 1; have := so.ops; omega, by show (x.s s).ops + 1 ≤ 12; omega⟩ (wroteT_len _ _ so.wr) (by show ((x.s s).reads.length : Int) ≤ (x.s s).ops + 1; have := so.rd; omega) so.rb (fun i hi c => absurd c (f1 i hi)) _ ?_ (two_new h.two h0 fun y hy c => ?_) (fun y hy => ?_) (fun y hy ne d b => ?_) (fun y hy e d b => ?_)
 ·rw [List.length_append, List.length_singleton]; have := h.len; omega
 ·have := own y hy
  rw [own_iff.2 c] at this
  cases this
 ·rcases List.mem_append.1 hy with q | q
  ·exact .inl q
  ·rw [List.mem_singleton] at q
   subst q
   exact .inr (newV_ok k0 hv so.id h.made.1 h.time.1 ⟨s, hs, by rw [putS_self]; rfl, by rw [putS_self]; exact (wroteT_mem _ _ _).2 (.inr rfl)⟩)
 ·rcases List.mem_append.1 hy with q | q
  ·exact ⟨y, q, rfl, d, b, rfl, rfl, rfl⟩
  ·rw [List.mem_singleton] at q; subst q; exact absurd rfl ne
 ·rcases List.mem_append.1 hy with q | q
  ·obtain ⟨p1, p2, p3, p4⟩ := f2 y q e d
   refine ⟨p3, p4, .inr fun c => ?_⟩
   have := el y q
   rw [elder_iff.2 ⟨e, d, by rw [p2]; exact fun z => h0 z.symm, b, p3, .inr (.inl c)⟩] at this
   cases this
  ·rw [List.mem_singleton] at q; subst q; exact absurd b h0
/-- The first write of a key that is there: its version is ended; l: what is put behind. -/
theorem good_endA (l : List VrI) (hl : l = [] ∨ (l = [newV o.key o.val (x.s s).id] ∧ 0 ≤ o.val ∧ o.val ≤ 65535 ∧ ¬ x.slots ≤ x.v.length)) (hk : o.key ∉ (x.s s).wrote) (ht : x.taken (x.s s).id (x.s s).start o.key = false) {i : Nat} (ha : seesI x.v (x.s s).id (x.s s).start o.key = some i) :
  Good { x with s := putS x.s s (wroteT (x.s s) o.key), v := (setV x.v i fun y => { y with ended := (x.s s).id }) ++ l } := by
 obtain ⟨f1, f2⟩ := h.free hs h0 hk ht
 have so := h.ses s hs
 have own := List.findIdx?_eq_none_iff.1 (h.own_none hs h0 hk)
 obtain ⟨a, hi, he⟩ := h.seen_at hs h0 hk ha
 obtain ⟨ek, ed, en, eb, es, ep⟩ := elder_iff.1 he
 have hm := List.mem_of_getElem? hi
 obtain ⟨_, a2, a3, a4⟩ := f2 a hm ek ed
 have st0 : a.stop = 0 := by
  rcases ep with c | c | c
  ·exact absurd a2 c
  ·exact c
  ·omega
 have memV : ∀ y ∈ (setV x.v i fun y => { y with ended := (x.s s).id }) ++ l, (∃ j, j ≠ i ∧ x.v[j]? = some y) ∨ y = { a with ended := (x.s s).id } ∨ y = newV o.key o.val (x.s s).id := fun y hy => by
  rcases List.mem_append.1 hy with q | q
  ·rcases mem_modify q with c | ⟨b, hb, c⟩
   ·exact .inl c
   ·rw [hi] at hb; cases hb; exact .inr (.inl c)
  ·rcases hl with c | ⟨c, _⟩
   ·rw [c] at q; cases q
   ·rw [c, List.mem_singleton] at q; exact .inr (.inr q)
 have wr : Wr (putS x.s s (wroteT (x.s s) o.key)) (x.s s).id o.key := ⟨s, hs, by rw [putS_self]; rfl, by rw [putS_self]; exact (wroteT_mem _ _ _).2 (.inr rfl)⟩
 refine h.wrote hs h0 k0 (wroteT (x.s s) o.key) rfl rfl rfl (wroteT_mem _ _) ⟨by show 0 ≤ (x.s s).ops + 1; have := so.ops; omega, by show (x.s s).ops + 1 ≤ 12; omega⟩ (wroteT_len _ _ so.wr) (by show ((x.s s).reads.length : Int) ≤ (x.s s).ops + 1; have := so.rd; omega) so.rb (fun i hi c => absurd c (f1 i hi)) _ ?_ ?_ (fun y hy => ?_) (fun y hy ne d b => ?_) (fun y hy e d b => ?_)
 ·rw [List.length_append]
  have : (setV x.v i fun y => { y with ended := (x.s s).id }).length = x.v.length := List.length_modify _ _ _
  rw [this]
  have := h.len
  rcases hl with c | ⟨c, _, _, c'⟩
  ·rw [c, List.length_nil]; omega
  ·rw [c, List.length_singleton]; omega
 ·have two1 : (setV x.v i fun y => { y with ended := (x.s s).id }).Pairwise Apart := by
   rw [apart_core]
   unfold setV
   rw [core_modify x.v i (fun y => { y with ended := (x.s s).id }) (fun _ => rfl), ← apart_core]
   exact h.two
  rcases hl with c | ⟨c, _⟩
  ·rw [c, List.append_nil]; exact two1
  ·rw [c]
   refine two_new two1 h0 fun y hy c => ?_
   rcases mem_modify hy with ⟨j, _, hj⟩ | ⟨b, hb, rfl⟩
   ·have := own y (List.mem_of_getElem? hj)
    rw [own_iff.2 c] at this
    cases this
   ·rw [hi] at hb; cases hb
    exact h0 (c.2.1.symm.trans eb)
 ·rcases memV y hy with ⟨j, _, hj⟩ | rfl | rfl
  ·exact .inl (List.mem_of_getElem? hj)
  ·right
   have o := h.ver a hm
   exact ⟨fun e => absurd eb e, fun e => ⟨ed, st0, by show Wr _ (x.s s).id a.key; rw [ek]; exact wr⟩, o.tm, o.ky, o.vl, o.bm, so.id⟩
  ·rcases hl with c | ⟨c, v0, v1, _⟩
   ·rw [c, List.append_nil] at hy
    rcases mem_modify hy with ⟨j, _, hj⟩ | ⟨b, hb, q⟩
    ·exact .inl (List.mem_of_getElem? hj)
    ·rw [hi] at hb; cases hb
     exact absurd (eb.symm.trans (congrArg VrI.bY q).symm) (fun z => h0 z.symm)
   ·exact .inr (newV_ok k0 ⟨v0, v1⟩ so.id h.made.1 h.time.1 wr)
 ·rcases memV y hy with ⟨j, _, hj⟩ | rfl | rfl
  ·exact ⟨y, List.mem_of_getElem? hj, rfl, d, b, rfl, rfl, rfl⟩
  ·exact absurd ek ne
  ·exact absurd rfl ne
 ·rcases memV y hy with ⟨j, hne, hj⟩ | rfl | rfl
  ·obtain ⟨p1, p2, p3, p4⟩ := f2 y (List.mem_of_getElem? hj) e d
   refine ⟨p3, p4, .inr fun c => ?_⟩
   rcases (apart_at h.two hj hi hne (e.trans ek.symm) d ed).1 b eb with ⟨q, _⟩ | ⟨q, _⟩
   ·exact q c
   ·exact q st0
  ·exact ⟨a3, a4, .inl h0⟩
  ·exact absurd b h0
/-- Written before, and no version of one's own: a new one. -/
theorem good_insB (hv : 0 ≤ o.val ∧ o.val ≤ 65535) (hk : o.key ∈ (x.s s).wrote) (ho : x.v.findIdx? (ownV (x.s s).id o.key) = none) (hl : ¬ x.slots ≤ x.v.length) :
  Good { x with s := putS x.s s (wroteT (x.s s) o.key), v := x.v ++ [newV o.key o.val (x.s s).id] } := by
 have so := h.ses s hs
 have own := List.findIdx?_eq_none_iff.1 ho
 refine h.wrote hs h0 k0 (wroteT (x.s s) o.key) rfl rfl rfl (wroteT_mem _ _) ⟨by show 0 ≤ (x.s s).ops + 1; have := so.ops; omega, by show (x.s s).ops + 1 ≤ 12; omega⟩ (wroteT_len _ _ so.wr) (by show ((x.s s).reads.length : Int) ≤ (x.s s).ops + 1; have := so.rd; omega) so.rb (fun i hi c => h.dis i s o.key hi hs c hk) _ ?_ (two_new h.two h0 fun y hy c => ?_) (fun y hy => ?_) (fun y hy ne d b => ?_) (fun y hy e d b => ?_)
 ·rw [List.length_append, List.length_singleton]; have := h.len; omega
 ·have := own y hy
  rw [own_iff.2 c] at this
  cases this
 ·rcases List.mem_append.1 hy with q | q
  ·exact .inl q
  ·rw [List.mem_singleton] at q
   subst q
   exact .inr (newV_ok k0 hv so.id h.made.1 h.time.1 ⟨s, hs, by rw [putS_self]; rfl, by rw [putS_self]; exact (wroteT_mem _ _ _).2 (.inr rfl)⟩)
 ·rcases List.mem_append.1 hy with q | q
  ·exact ⟨y, q, rfl, d, b, rfl, rfl, rfl⟩
  ·rw [List.mem_singleton] at q; subst q; exact absurd rfl ne
 ·rcases List.mem_append.1 hy with q | q
  ·exact h.fst s o.key hs hk y q e d b
  ·rw [List.mem_singleton] at q; subst q; exact absurd b h0
/-- Written before, a version of one's own: it is turned. -/
theorem good_setC (hk : o.key ∈ (x.s s).wrote) {j : Nat} (ho : x.v.findIdx? (ownV (x.s s).id o.key) = some j) (f : VrI → VrI) (hf : (f = fun y => { y with ended := (x.s s).id }) ∨ ((f = fun y => { y with ended := 0, val := o.val }) ∧ 0 ≤ o.val ∧ o.val ≤ 65535)) :
  Good { x with s := putS x.s s (wroteT (x.s s) o.key), v := setV x.v j f } := by
 have so := h.ses s hs
 obtain ⟨lt, p, _⟩ := List.findIdx?_eq_some_iff_getElem.1 ho
 have hj : x.v[j]? = some x.v[j] := List.getElem?_eq_getElem lt
 obtain ⟨a, ea⟩ : ∃ a, x.v[j] = a := ⟨_, rfl⟩
 rw [ea] at p hj
 obtain ⟨ek, eb, ed⟩ := own_iff.1 p
 have hm := List.mem_of_getElem? hj
 have oa := h.ver a hm
 have b1 := oa.by' (by rw [eb]; exact h0)
 have wr : Wr (putS x.s s (wroteT (x.s s) o.key)) (x.s s).id o.key := ⟨s, hs, by rw [putS_self]; rfl, by rw [putS_self]; exact (wroteT_mem _ _ _).2 (.inr rfl)⟩
 have cf : ∀ y, coreV (f y) = coreV y := by rcases hf with c | ⟨c, _⟩ <;> (subst c; exact fun _ => rfl)
 have fb : (f a).bY = (x.s s).id := by rcases hf with c | ⟨c, _⟩ <;> (subst c; exact eb)
 have fk : (f a).key = o.key := by rcases hf with c | ⟨c, _⟩ <;> (subst c; exact ek)
 refine h.wrote hs h0 k0 (wroteT (x.s s) o.key) rfl rfl rfl (wroteT_mem _ _) ⟨by show 0 ≤ (x.s s).ops + 1; have := so.ops; omega, by show (x.s s).ops + 1 ≤ 12; omega⟩ (wroteT_len _ _ so.wr) (by show ((x.s s).reads.length : Int) ≤ (x.s s).ops + 1; have := so.rd; omega) so.rb (fun i hi c => h.dis i s o.key hi hs c hk) _ (by show ((x.v.modify j f).length : Int) ≤ x.slots; rw [List.length_modify]; exact h.len) (by show (x.v.modify j f).Pairwise Apart; rw [apart_core, core_modify _ _ _ cf, ← apart_core]; exact h.two) (fun y hy => ?_) (fun y hy ne d b => ?_) (fun y hy e d b => ?_)
 ·rcases mem_modify hy with ⟨i, _, hi⟩ | ⟨b, hb, rfl⟩
  ·exact .inl (List.mem_of_getElem? hi)
  ·rw [hj] at hb; cases hb
   right
   rcases hf with c | ⟨c, v0, v1⟩
   ·subst c
    exact ⟨fun _ => ⟨b1.1, .inr eb.symm, fun _ => by show Wr _ a.bY a.key; rw [eb, ek]; exact wr⟩, fun _ => ⟨ed, b1.1, by show Wr _ (x.s s).id a.key; rw [ek]; exact wr⟩, oa.tm, oa.ky, oa.vl, oa.bm, so.id⟩
   ·subst c
    exact ⟨fun _ => ⟨b1.1, .inl rfl, fun _ => by show Wr _ a.bY a.key; rw [eb, ek]; exact wr⟩, fun e => absurd rfl e, oa.tm, oa.ky, ⟨v0, v1⟩, oa.bm, ⟨Int.le_refl _, h.made.1⟩⟩
 ·rcases mem_modify hy with ⟨i, _, hi⟩ | ⟨b', hb, rfl⟩
  ·exact ⟨y, List.mem_of_getElem? hi, rfl, d, b, rfl, rfl, rfl⟩
  ·rw [hj] at hb; cases hb
   exact absurd (fb.symm.trans b) h0
 ·rcases mem_modify hy with ⟨i, _, hi⟩ | ⟨b', hb, rfl⟩
  ·exact h.fst s o.key hs hk y (List.mem_of_getElem? hi) e d b
  ·rw [hj] at hb; cases hb
   exact absurd (fb.symm.trans b) h0
end
theorem wroteV_own {v : List VrI} {id : Int} {o : OpI} {at' : Option Nat} {j : Nat} (h : ∀ i, at' = some i → some j = some i) : MoI.wroteV v id o at' (some j) = if o.kind = 4 then setV v j fun y => { y with ended := id } else setV v j fun y => { y with ended := 0, val := o.val } := by
  cases at' with
  | none => rfl
  | some i =>
    have e := h i rfl
    cases e
    unfold MoI.wroteV
    simp
theorem wroteV_end {v : List VrI} {id : Int} {o : OpI} {i : Nat} : MoI.wroteV v id o (some i) none = (setV v i fun y => { y with ended := id }) ++ if o.kind = 4 then [] else [newV o.key o.val id] := by
 unfold MoI.wroteV
 by_cases k : o.kind = 4
 ·simp [k]
 ·simp [k, newV]
theorem count_at (x : MoI) (s : Nat) : (x.count s).s s = { x.s s with ops := (x.s s).ops + 1 } := putS_self _ _ _
theorem count_over (x : MoI) (s : Nat) : (x.count s).over s = x.over s := by
 unfold MoI.over MoI.count
 simp only [putS_self, putS_put]
theorem count_taken (x : MoI) (s : Nat) (id at' key : Int) : (x.count s).taken id at' key = x.taken id at' key := by
 have e : ∀ i, ((x.count s).s i).id = (x.s i).id ∧ ((x.count s).s i).wrote = (x.s i).wrote := fun i => by
  show (putS x.s s _ i).id = _ ∧ (putS x.s s _ i).wrote = _
  by_cases q : i = s
  ·subst q; rw [putS_self]; exact ⟨rfl, rfl⟩
  ·rw [putS_ne _ _ q]; exact ⟨rfl, rfl⟩
 unfold MoI.taken
 congr 1
 congr 1
 funext i
 rw [(e i).1, (e i).2]
theorem count_keepR (x : MoI) (s : Nat) (r : RdI) : (x.count s).keepR s r = { x with s := putS x.s s { x.s s with ops := (x.s s).ops + 1, reads := (x.s s).reads ++ [r] } } := by
 unfold MoI.keepR MoI.count
 simp only [putS_self, putS_put]
theorem count_wrote (x : MoI) (s : Nat) (key : Int) (v : List VrI) : ({ (if key ∈ (x.s s).wrote then x.count s else (x.count s).keepW s key) with v := v } : MoI) = { x with s := putS x.s s (wroteT (x.s s) key), v := v } := by
 unfold wroteT
 by_cases h : key ∈ (x.s s).wrote
 ·rw [if_pos h, if_pos h]; rfl
 ·rw [if_neg h, if_neg h]
  unfold MoI.keepW MoI.count
  simp only [putS_self, putS_put]
theorem wr_no {m : MoI} (s : Nat) (o : OpI) (h : (o.kind = 2 ∧ seesI m.v (m.s s).id (m.s s).start o.key ≠ none) ∨ (o.kind ≠ 2 ∧ seesI m.v (m.s s).id (m.s s).start o.key = none)) :
  m.write s o = (⟨if seesI m.v (m.s s).id (m.s s).start o.key = none then 11 else 12, 0, [], 0, 0⟩, if o.key ∈ (m.s s).wrote then m else m.keepR s ⟨o.key, o.key, false, false⟩) := by
 unfold MoI.write
 simp only
 rw [if_pos h]
 by_cases hm : o.key ∈ (m.s s).wrote <;> simp [hm]
theorem wr_con {m : MoI} (s : Nat) (o : OpI) (h : ¬ ((o.kind = 2 ∧ seesI m.v (m.s s).id (m.s s).start o.key ≠ none) ∨ (o.kind ≠ 2 ∧ seesI m.v (m.s s).id (m.s s).start o.key = none))) (hm : o.key ∉ (m.s s).wrote) (ht : m.taken (m.s s).id (m.s s).start o.key = true) :
  m.write s o = (MoI.bad 2, m.over s) := by
 unfold MoI.write
 simp only
 rw [if_neg h, if_pos ⟨decide_eq_false hm, ht⟩]
theorem wr_full {m : MoI} (s : Nat) (o : OpI) (h : ¬ ((o.kind = 2 ∧ seesI m.v (m.s s).id (m.s s).start o.key ≠ none) ∨ (o.kind ≠ 2 ∧ seesI m.v (m.s s).id (m.s s).start o.key = none))) (ht : o.key ∈ (m.s s).wrote ∨ m.taken (m.s s).id (m.s s).start o.key = false) (h4 : o.kind ≠ 4) (ho : m.v.findIdx? (ownV (m.s s).id o.key) = none) (hf : m.slots ≤ m.v.length) :
  m.write s o = (MoI.bad 5, m.over s) := by
 unfold MoI.write
 simp only
 rw [if_neg h, if_neg (fun e => by rcases ht with q | q; exact of_decide_eq_false e.1 q; rw [q] at e; cases e.2), if_pos ⟨h4, ho, hf⟩]
theorem wr_ok {m : MoI} (s : Nat) (o : OpI) (h : ¬ ((o.kind = 2 ∧ seesI m.v (m.s s).id (m.s s).start o.key ≠ none) ∨ (o.kind ≠ 2 ∧ seesI m.v (m.s s).id (m.s s).start o.key = none))) (ht : o.key ∈ (m.s s).wrote ∨ m.taken (m.s s).id (m.s s).start o.key = false) (hf : ¬ (o.kind ≠ 4 ∧ m.v.findIdx? (ownV (m.s s).id o.key) = none ∧ m.slots ≤ m.v.length)) :
  m.write s o = (re0, { (if o.key ∈ (m.s s).wrote then m else m.keepW s o.key) with v := MoI.wroteV m.v (m.s s).id o (seesI m.v (m.s s).id (m.s s).start o.key) (m.v.findIdx? (ownV (m.s s).id o.key)) }) := by
 unfold MoI.write
 simp only
 rw [if_neg h, if_neg (fun e => by rcases ht with q | q; exact of_decide_eq_false e.1 q; rw [q] at e; cases e.2), if_neg hf]
 by_cases hm : o.key ∈ (m.s s).wrote <;> simp [hm]
/-- What okI says, by kinds. -/
theorem okI_key {o : OpI} (h : okI o = true) (hk : o.kind ≤ 5) : 1 ≤ o.kind ∧ 0 ≤ o.key ∧ o.key ≤ 63 ∧ (o.kind = 5 → o.key ≤ o.hi ∧ o.hi ≤ 63) ∧ (o.kind = 2 ∨ o.kind = 3 → 0 ≤ o.val ∧ o.val ≤ 65535) := by
 unfold okI at h
 split at h
 ·have := of_decide_eq_true h; omega
 ·split at h
  ·have := of_decide_eq_true h; omega
  ·split at h
   ·have := of_decide_eq_true h; omega
   ·split at h
    ·omega
    ·cases h
/-- A read, or a write that fails by what is seen. -/
theorem good_read (h : Good x) {s : Nat} (hs : s < 8) (h0 : (x.s s).id ≠ 0) (hop : (x.s s).ops < 12) (r : RdI) (hr : 0 ≤ r.lo ∧ r.lo ≤ r.hi ∧ r.hi ≤ 63) : Good ((x.count s).keepR s r) := by
 have so := h.ses s hs
 rw [count_keepR]
 refine h.put _ rfl rfl rfl rfl h0 hs ⟨by show 0 ≤ (x.s s).ops + 1; have := so.ops; omega, by show (x.s s).ops + 1 ≤ 12; omega⟩ (by show ((x.s s).wrote.length : Int) ≤ (x.s s).ops + 1; have := so.wr; omega) (by show (((x.s s).reads ++ [r]).length : Int) ≤ (x.s s).ops + 1; have := so.rd; rw [List.length_append, List.length_singleton]; omega) (fun q hq => ?_)
 rcases List.mem_append.1 hq with c | c
 ·exact so.rb q c
 ·rw [List.mem_singleton] at c; rw [c]; exact hr
theorem good_count (h : Good x) {s : Nat} (hs : s < 8) (h0 : (x.s s).id ≠ 0) (hop : (x.s s).ops < 12) : Good (x.count s) := by
 have so := h.ses s hs
 exact h.put _ rfl rfl rfl rfl h0 hs ⟨by show 0 ≤ (x.s s).ops + 1; have := so.ops; omega, by show (x.s s).ops + 1 ≤ 12; omega⟩ (by show ((x.s s).wrote.length : Int) ≤ (x.s s).ops + 1; have := so.wr; omega) (by show ((x.s s).reads.length : Int) ≤ (x.s s).ops + 1; have := so.rd; omega) so.rb
theorem good_write (h : Good x) {s : Nat} (hs : s < 8) (h0 : (x.s s).id ≠ 0) (hop : (x.s s).ops < 12) (o : OpI) (hok : okI o = true) (hk : o.kind = 2 ∨ o.kind = 3 ∨ o.kind = 4) : Good ((x.count s).write s o).2 := by
  obtain ⟨_, k0, k1, _, kv⟩ := okI_key hok (by omega)
  have ca := count_at x s
  have ci : ((x.count s).s s).id = (x.s s).id := by rw [ca]
  have cs : ((x.count s).s s).start = (x.s s).start := by rw [ca]
  have cw : ((x.count s).s s).wrote = (x.s s).wrote := by rw [ca]
  have cv : (x.count s).v = x.v := rfl
  have fin := fun v => count_wrote x s o.key v
  by_cases hno : ((o.kind = 2 ∧ seesI (x.count s).v ((x.count s).s s).id ((x.count s).s s).start o.key ≠ none) ∨ (o.kind ≠ 2 ∧ seesI (x.count s).v ((x.count s).s s).id ((x.count s).s s).start o.key = none))
  · rw [wr_no s o hno]
    simp only
    split
    · exact good_count h hs h0 hop
    · exact good_read h hs h0 hop _ ⟨k0, Int.le_refl _, k1⟩
  · by_cases hcon : o.key ∉ ((x.count s).s s).wrote ∧ (x.count s).taken ((x.count s).s s).id ((x.count s).s s).start o.key = true
    · rw [wr_con s o hno hcon.1 hcon.2]
      show Good ((x.count s).over s)
      rw [count_over]
      exact good_over h hs h0
    · have ht : o.key ∈ ((x.count s).s s).wrote ∨ (x.count s).taken ((x.count s).s s).id ((x.count s).s s).start o.key = false := by
        by_cases q : o.key ∈ ((x.count s).s s).wrote
        · exact .inl q
        · right
          cases c : (x.count s).taken ((x.count s).s s).id ((x.count s).s s).start o.key with
          | false => rfl
          | true => exact absurd ⟨q, c⟩ hcon
      by_cases hf : (o.kind ≠ 4 ∧ (x.count s).v.findIdx? (ownV ((x.count s).s s).id o.key) = none ∧ (x.count s).slots ≤ (x.count s).v.length)
      · rw [wr_full s o hno ht hf.1 hf.2.1 hf.2.2]
        show Good ((x.count s).over s)
        rw [count_over]
        exact good_over h hs h0
      · rw [wr_ok s o hno ht hf]
        show Good { (if o.key ∈ ((x.count s).s s).wrote then x.count s else (x.count s).keepW s o.key) with v := _ }
        rw [cw, fin, ci, cs, cv]
        rw [ci, cs, cw, count_taken] at ht
        rw [ci, cs, cv] at hno
        rw [ci, cv] at hf
        by_cases hm : o.key ∈ (x.s s).wrote
        · cases ho : x.v.findIdx? (ownV (x.s s).id o.key) with
          | none =>
            have hat : seesI x.v (x.s s).id (x.s s).start o.key = none := by
              cases c : seesI x.v (x.s s).id (x.s s).start o.key with
              | none => rfl
              | some i => rw [h.own_seen hs h0 hm c] at ho; cases ho
            have k2 : o.kind = 2 := Decidable.byContradiction fun c => hno (.inr ⟨c, hat⟩)
            rw [hat]
            unfold MoI.wroteV
            simp only
            rw [if_neg (by omega)]
            exact good_insB h hs h0 o hop ⟨k0, k1⟩ (kv (.inl k2)) hm ho (fun c => hf ⟨by omega, ho, c⟩)
          | some j =>
            rw [wroteV_own (fun i c => by have := h.own_seen hs h0 hm c; rw [ho] at this; exact this)]
            by_cases k4 : o.kind = 4
            · rw [if_pos k4]
              exact good_setC h hs h0 o hop ⟨k0, k1⟩ hm ho _ (.inl rfl)
            · rw [if_neg k4]
              exact good_setC h hs h0 o hop ⟨k0, k1⟩ hm ho _ (.inr ⟨rfl, kv (by omega)⟩)
        · have ht' := ht.resolve_left hm
          have ho := h.own_none hs h0 hm
          rw [ho]
          cases hat : seesI x.v (x.s s).id (x.s s).start o.key with
          | none =>
            have k2 : o.kind = 2 := Decidable.byContradiction fun c => hno (.inr ⟨c, hat⟩)
            unfold MoI.wroteV
            simp only
            rw [if_neg (by omega)]
            exact good_insA h hs h0 o hop ⟨k0, k1⟩ (kv (.inl k2)) hm ht' hat (fun c => hf ⟨by omega, ho, c⟩)
          | some i =>
            rw [wroteV_end]
            by_cases k4 : o.kind = 4
            · rw [if_pos k4]
              exact good_endA h hs h0 o hop ⟨k0, k1⟩ [] (.inl rfl) hm ht' hat
            · rw [if_neg k4]
              exact good_endA h hs h0 o hop ⟨k0, k1⟩ [newV o.key o.val (x.s s).id] (.inr ⟨rfl, (kv (by omega)).1, (kv (by omega)).2, fun c => hf ⟨k4, ho, c⟩⟩) hm ht' hat
theorem doE_zero {s : Int} {o : OpI} (h : x.doE s o = 0) : 0 ≤ s ∧ s ≤ 7 ∧ (x.s s.toNat).id ≠ 0 ∧ okI o = true ∧ (o.kind = 6 ∨ o.kind = 7 ∨ (x.s s.toNat).ops < 12) := by
 unfold MoI.doE at h
 split at h
 ·omega
 ·split at h
  ·omega
  ·next h1 h2 =>
   have hok : okI o = true := by
    cases c : okI o with
    | true => rfl
    | false => exact absurd (.inr c) h2
   split at h
   ·next h3 => exact ⟨by omega, by omega, fun c => h2 (.inl c), hok, by omega⟩
   ·split at h
    ·omega
    ·exact ⟨by omega, by omega, fun c => h2 (.inl c), hok, by omega⟩
theorem good_do (h : Good x) (s : Int) (o : OpI) : Good (x.doM s o) := by
 unfold MoI.doM
 by_cases hz : x.doE s o = 0
 ·rw [if_pos hz]
  obtain ⟨s0, s7, h0, hok, hop⟩ := doE_zero hz
  obtain ⟨n, hn⟩ : ∃ n, s.toNat = n := ⟨_, rfl⟩
  rw [hn] at h0 hop ⊢
  have n8 : n < 8 := by omega
  unfold MoI.run
  split
  ·exact good_over h n8 h0
  ·split
   ·exact good_commit h n8 h0
   ·have hop := (hop.resolve_left (by omega)).resolve_left (by omega)
    have hkk : o.kind ≤ 5 := by
     unfold okI at hok
     split at hok
     ·omega
     ·split at hok
      ·omega
      ·split at hok
       ·omega
       ·split at hok
        ·omega
        ·cases hok
    obtain ⟨q0, q1, q2, q3, q4⟩ := okI_key hok hkk
    split
    ·unfold MoI.get
     simp only
     split
     ·exact good_count h n8 h0 hop
     ·exact good_read h n8 h0 hop _ ⟨q1, Int.le_refl _, q2⟩
    ·split
     ·next k5 => exact good_read h n8 h0 hop _ ⟨q1, q3 k5⟩
     ·exact good_write h n8 h0 hop o hok (by omega)
 ·rw [if_neg hz]; exact h
end
end Go.Proofs.Ytalkfnblnlcklaa
/- What is there at a time, as one fold over the committed ones in their order. No dump; no condition. -/
namespace Go.Proofs.Ytalkfnblnlcklaa
set_option linter.unusedVariables false
/-- A committed one that counts at a time. -/
def Base (ds : List DlI) (t but : Int) (i : Nat) : Prop := ∃ d, ds[i]? = some d ∧ d.state = 3 ∧ (i : Int) ≠ but ∧ d.stop ≤ t
def stopP (ds : List DlI) (i : Nat) : Int := match ds[i]? with | some d => d.stop | none => 0
section
variable {ds : List DlI} {t but : Int} {tk : List Bool} {n k : Nat} {out : List (Int × Int)}
theorem stopP_at {d : DlI} (h : ds[k]? = some d) : stopP ds k = d.stop := by unfold stopP; rw [h]
theorem cand_iff {K : Option Nat} (hK : ∀ j, K = some j → j < ds.length) : candP ds t but tk K n = true ↔ Base ds t but n ∧ tk.getD n false = false ∧ ∀ j, K = some j → stopP ds n < stopP ds j := by
  unfold candP
  cases h : ds[n]? with
  | none =>
    refine ⟨(fun c => by cases c), ?_⟩
    rintro ⟨⟨d, e, _⟩, _⟩
    rw [h] at e
    cases e
  | some d =>
    have sp := stopP_at h
    cases K with
    | none =>
      simp only [Bool.and_true, Bool.and_eq_true, decide_eq_true_eq, Bool.not_eq_true']
      constructor
      · rintro ⟨⟨⟨a, b⟩, c⟩, e⟩
        exact ⟨⟨d, h, a, b, e⟩, c, (fun j q => by cases q)⟩
      · rintro ⟨⟨d', h', a, b, e⟩, c, _⟩
        rw [h] at h'; cases h'
        exact ⟨⟨⟨a, b⟩, c⟩, e⟩
    | some j =>
      have jl := hK j rfl
      have hj : ds[j]? = some ds[j] := List.getElem?_eq_getElem jl
      have sj := stopP_at hj
      simp only [Bool.and_eq_true, decide_eq_true_eq, Bool.not_eq_true', hj]
      constructor
      · rintro ⟨⟨⟨⟨a, b⟩, c⟩, e⟩, f⟩
        exact ⟨⟨d, h, a, b, e⟩, c, (fun j' q => by cases q; rw [sp, sj]; exact f)⟩
      · rintro ⟨⟨d', h', a, b, e⟩, c, f⟩
        rw [h] at h'; cases h'
        have := f j rfl
        rw [sp, sj] at this
        exact ⟨⟨⟨⟨a, b⟩, c⟩, e⟩, this⟩
theorem pick_spec (n : Nat) (hn : n ≤ ds.length) : match pickP ds t but tk n with
    | none => ∀ i, i < n → Base ds t but i → tk.getD i false = true
    | some k => (k < n ∧ Base ds t but k ∧ tk.getD k false = false) ∧ ∀ i, i < n → Base ds t but i → tk.getD i false = false → stopP ds k ≤ stopP ds i := by
  induction n with
  | zero => intro i hi; omega
  | succ n ih =>
    have ih := ih (by omega)
    obtain ⟨K, hK⟩ : ∃ K, pickP ds t but tk n = K := ⟨_, rfl⟩
    have kl : ∀ j, K = some j → j < ds.length := fun j e => (pick_some (hK.trans e)).2.1
    have step : pickP ds t but tk (n + 1) = if candP ds t but tk K n = true then some n else K := by
      show (if candP ds t but tk (pickP ds t but tk n) n = true then some n else pickP ds t but tk n) = _
      rw [hK]
    rw [step]
    rw [hK] at ih
    by_cases c : candP ds t but tk K n = true
    · rw [if_pos c]
      obtain ⟨c1, c2, c3⟩ := (cand_iff kl).1 c
      refine ⟨⟨by omega, c1, c2⟩, fun i hi hb ht => ?_⟩
      by_cases e : i = n
      · rw [e]; exact Int.le_refl _
      · cases K with
        | none => exact absurd (ih i (by omega) hb) (by rw [ht]; simp)
        | some k => exact Int.le_trans (Int.le_of_lt (c3 k rfl)) (ih.2 i (by omega) hb ht)
    · rw [if_neg c]
      have c' := fun q => c ((cand_iff kl).2 q)
      cases K with
      | none =>
        intro i hi hb
        by_cases e : i = n
        · subst e
          cases ht : tk.getD i false with
          | true => rfl
          | false => exact absurd ⟨hb, ht, (fun j q => by cases q)⟩ c'
        · exact ih i (by omega) hb
      | some k =>
        refine ⟨⟨by omega, ih.1.2⟩, fun i hi hb ht => ?_⟩
        by_cases e : i = n
        · subst e
          by_cases q : stopP ds k ≤ stopP ds i
          · exact q
          · exact absurd ⟨hb, ht, (fun j q' => by cases q'; omega)⟩ c'
        · exact ih.2 i (by omega) hb ht
/-- The committed ones that count, one behind the other. -/
def foldP (ds : List DlI) (L : List Nat) (out : List (Int × Int)) : List (Int × Int) := L.foldl (fun o i => (opsP ds i).foldl laidP o) out
theorem stL_of (L : List Nat) : ∀ (f : Nat) (tk : List Bool) (out : List (Int × Int)), L.length < f → tk.length = ds.length → L.Pairwise (fun i j => stopP ds i < stopP ds j) → (∀ i, i ∈ L ↔ Base ds t but i ∧ tk.getD i false = false) → stL ds t but f tk out = foldP ds L out := by
  induction L with
  | nil =>
    intro f tk out hf ht _ hm
    have ps := pick_spec (ds := ds) (t := t) (but := but) (tk := tk) ds.length (Nat.le_refl _)
    refine stL_none ?_ (by simpa using hf)
    cases c : pickP ds t but tk ds.length with
    | none => rfl
    | some k =>
      rw [c] at ps
      exact absurd ((hm k).2 ps.1.2) (by simp)
  | cons a L ih =>
    intro f tk out hf ht hp hm
    obtain ⟨f, rfl⟩ : ∃ g, f = g + 1 := ⟨f - 1, by simp at hf; omega⟩
    obtain ⟨ba, ta⟩ := (hm a).1 (List.mem_cons_self ..)
    have al : a < ds.length := by obtain ⟨d, e, _⟩ := ba; exact (List.getElem?_eq_some_iff.1 e).1
    obtain ⟨pa, pl⟩ := List.pairwise_cons.1 hp
    have ps := pick_spec (ds := ds) (t := t) (but := but) (tk := tk) ds.length (Nat.le_refl _)
    have pk : pickP ds t but tk ds.length = some a := by
      cases c : pickP ds t but tk ds.length with
      | none =>
        rw [c] at ps
        exact absurd (ps a al ba) (by rw [ta]; simp)
      | some k =>
        rw [c] at ps
        have h1 := ps.2 a al ba ta
        rcases List.mem_cons.1 ((hm k).2 ps.1.2) with e | e
        · rw [e]
        · exact absurd (pa k e) (by omega)
    rw [stL_some pk]
    show _ = foldP ds L ((opsP ds a).foldl laidP out)
    refine ih f (tk.set a true) _ (by simp at hf; omega) (by rw [List.length_set]; exact ht) pl fun i => ?_
    have tkg : (tk.set a true).getD i false = if i = a then true else tk.getD i false := by
      rw [List.getD_eq_getElem?_getD, List.getD_eq_getElem?_getD, List.getElem?_set]
      by_cases e : a = i
      · subst e
        rw [if_pos rfl, if_pos rfl, if_pos (by omega)]
        rfl
      · rw [if_neg e, if_neg (fun c => e c.symm)]
    rw [tkg]
    by_cases e : i = a
    · subst e
      rw [if_pos rfl]
      refine ⟨fun q => absurd (pa i q) (by omega), ?_⟩
      rintro ⟨_, q⟩
      cases q
    · rw [if_neg e]
      constructor
      · exact fun q => (hm i).1 (List.mem_cons_of_mem _ q)
      · exact fun q => (List.mem_cons.1 ((hm i).2 q)).resolve_left e
theorem state_of (L : List Nat) (hp : L.Pairwise (fun i j => stopP ds i < stopP ds j)) (hm : ∀ i, i ∈ L ↔ Base ds t but i) (hl : L.length ≤ ds.length) : stateP ds t but = foldP ds L [] := by
 unfold stateP
 refine stL_of L _ _ _ (by omega) (by simp) hp fun i => ?_
 rw [hm i]
 refine ⟨fun q => ⟨q, ?_⟩, fun q => q.1⟩
 rw [List.getD_eq_getElem?_getD, List.getElem?_replicate]
 split <;> rfl
end
end Go.Proofs.Ytalkfnblnlcklaa
/- The committed Deals in their order, beside the Deals: what is there at a time, step for step. No dump; no condition. -/
namespace Go.Proofs.Ytalkfnblnlcklaa
set_option linter.unusedVariables false
/-- C: the places of the committed ones, by their ends. -/
structure Ord (ds : List DlI) (C : List Nat) : Prop where
 so : C.Pairwise fun i j => stopP ds i < stopP ds j
 mem : ∀ i, i ∈ C ↔ ∃ d, ds[i]? = some d ∧ d.state = 3
def cutC (ds : List DlI) (C : List Nat) (t but : Int) : List Nat := C.filter fun i => decide (stopP ds i ≤ t) && decide ((i : Int) ≠ but)
def viewP (ds : List DlI) (C : List Nat) (t but : Int) : List (Int × Int) := foldP ds (cutC ds C t but) []
section
variable {ds ds' : List DlI} {C : List Nat} {t but : Int} {k : Nat}
theorem once_le : ∀ {l m : List Nat}, l.Nodup → (∀ x ∈ l, x ∈ m) → l.length ≤ m.length
 | [], m, _, _ => Nat.zero_le _
 | x :: l, m, hn, h => by
  rw [List.nodup_cons] at hn
  have hx := h x (by simp)
  have := once_le (l := l) (m := m.erase x) hn.2 fun y hy => (List.mem_erase_of_ne (fun e => by subst e; exact hn.1 hy)).2 (h y (by simp [hy]))
  rw [List.length_erase_of_mem hx] at this
  have := List.length_pos_of_mem hx
  rw [List.length_cons]
  omega
theorem sorted_len {f : Nat → Int} {n : Nat} {C : List Nat} (hs : C.Pairwise fun i j => f i < f j) (hb : ∀ i ∈ C, i < n) : C.length ≤ n := by
 have nd : C.Nodup := hs.imp fun h e => by rw [e] at h; omega
 have := once_le (m := List.range n) nd (fun i hi => List.mem_range.2 (hb i hi))
 rw [List.length_range] at this
 exact this
theorem Ord.view (o : Ord ds C) (t but : Int) : stateP ds t but = viewP ds C t but := by
 have lt : ∀ i ∈ C, i < ds.length := fun i hi => by
  obtain ⟨d, e, _⟩ := (o.mem i).1 hi
  exact (List.getElem?_eq_some_iff.1 e).1
 refine state_of _ (o.so.filter _) (fun i => ?_) (Nat.le_trans (List.length_filter_le _ _) (sorted_len o.so lt))
 unfold cutC
 rw [List.mem_filter, o.mem i]
 constructor
 ·rintro ⟨⟨d, e, h3⟩, hb⟩
  rw [Bool.and_eq_true] at hb
  have h1 := of_decide_eq_true hb.1
  rw [stopP_at e] at h1
  exact ⟨d, e, h3, of_decide_eq_true hb.2, h1⟩
 ·rintro ⟨d, e, h3, hb, ht⟩
  exact ⟨⟨d, e, h3⟩, by rw [stopP_at e, decide_eq_true ht, decide_eq_true hb]; rfl⟩
theorem fold_congr {L : List Nat} (h : ∀ i ∈ L, ds[i]? = ds'[i]?) : ∀ out, foldP ds L out = foldP ds' L out := by
  induction L with
  | nil => exact fun _ => rfl
  | cons a L ih =>
    intro out
    have e : opsP ds a = opsP ds' a := by unfold opsP; rw [h a (List.mem_cons_self ..)]
    show foldP ds L ((opsP ds a).foldl laidP out) = foldP ds' L ((opsP ds' a).foldl laidP out)
    rw [e]
    exact ih (fun i hi => h i (List.mem_cons_of_mem _ hi)) _
theorem cut_congr (h : ∀ i ∈ C, ds[i]? = ds'[i]?) (t but : Int) : cutC ds C t but = cutC ds' C t but := by
 unfold cutC
 refine List.filter_congr fun i hi => ?_
 have : stopP ds i = stopP ds' i := by unfold stopP; rw [h i hi]
 rw [this]
theorem view_congr (h : ∀ i ∈ C, ds[i]? = ds'[i]?) (t but : Int) : viewP ds C t but = viewP ds' C t but := by
 unfold viewP
 rw [cut_congr h]
 exact fold_congr (fun i hi => h i (List.mem_filter.1 hi).1) _
theorem ord_nil : Ord [] [] := ⟨List.Pairwise.nil, fun i => ⟨(fun h => by cases h), fun ⟨d, e, _⟩ => by cases e⟩⟩
theorem Ord.congr (o : Ord ds C) (h : ∀ i ∈ C, ds[i]? = ds'[i]?) (hm : ∀ (i : Nat) d, ds'[i]? = some d → d.state = 3 → i ∈ C) : Ord ds' C := by
 refine ⟨o.so.imp_of_mem fun {i j} hi hj hij => ?_, fun i => ⟨fun hi => ?_, fun ⟨d, e, h3⟩ => hm i d e h3⟩⟩
 ·have e1 : stopP ds' i = stopP ds i := by unfold stopP; rw [h i hi]
  have e2 : stopP ds' j = stopP ds j := by unfold stopP; rw [h j hj]
  rw [e1, e2]
  exact hij
 ·obtain ⟨d, e, h3⟩ := (o.mem i).1 hi
  exact ⟨d, by rw [← h i hi]; exact e, h3⟩
/-- One more is committed, behind all others. -/
theorem Ord.more (o : Ord ds C) {d : DlI} (hk : ds'[k]? = some d) (h3 : d.state = 3) (kc : k ∉ C) (h : ∀ i, i ≠ k → ds[i]? = ds'[i]?) (ht : ∀ i ∈ C, stopP ds i < d.stop) : Ord ds' (C ++ [k]) := by
 have hC : ∀ i ∈ C, ds[i]? = ds'[i]? := fun i hi => h i (fun e => kc (e ▸ hi))
 refine ⟨List.pairwise_append.2 ⟨o.so.imp_of_mem fun {i j} hi hj hij => ?_, List.pairwise_singleton _ _, fun i hi j hj => ?_⟩, fun i => ?_⟩
 ·have e1 : stopP ds' i = stopP ds i := by unfold stopP; rw [hC i hi]
  have e2 : stopP ds' j = stopP ds j := by unfold stopP; rw [hC j hj]
  rw [e1, e2]
  exact hij
 ·rw [List.mem_singleton.1 hj, stopP_at hk]
  have e1 : stopP ds' i = stopP ds i := by unfold stopP; rw [hC i hi]
  rw [e1]
  exact ht i hi
 ·rw [List.mem_append, List.mem_singleton]
  constructor
  ·rintro (hi | rfl)
   ·obtain ⟨d, e, h3⟩ := (o.mem i).1 hi
    exact ⟨d, by rw [← hC i hi]; exact e, h3⟩
   ·exact ⟨d, hk, h3⟩
  ·rintro ⟨d', e, h3'⟩
   by_cases c : i = k
   ·exact .inr c
   ·exact .inl ((o.mem i).2 ⟨d', by rw [h i c]; exact e, h3'⟩)
theorem view_more {d : DlI} (hk : ds'[k]? = some d) (kc : k ∉ C) (h : ∀ i, i ≠ k → ds[i]? = ds'[i]?) (t but : Int) : viewP ds' (C ++ [k]) t but = if d.stop ≤ t ∧ (k : Int) ≠ but then d.ops.foldl laidP (viewP ds C t but) else viewP ds C t but := by
 have hC : ∀ i ∈ C, ds[i]? = ds'[i]? := fun i hi => h i (fun e => kc (e ▸ hi))
 rw [view_congr hC t but]
 unfold viewP cutC
 rw [List.filter_append]
 by_cases c : d.stop ≤ t ∧ (k : Int) ≠ but
 ·rw [if_pos c]
  have : [k].filter (fun i => decide (stopP ds' i ≤ t) && decide ((i : Int) ≠ but)) = [k] := by
   rw [List.filter_cons_of_pos (by rw [stopP_at hk, decide_eq_true c.1, decide_eq_true c.2]; rfl), List.filter_nil]
  rw [this]
  unfold foldP
  rw [List.foldl_append]
  show (opsP ds' k).foldl laidP _ = _
  have : opsP ds' k = d.ops := by unfold opsP; rw [hk]
  rw [this]
 ·rw [if_neg c]
  have : [k].filter (fun i => decide (stopP ds' i ≤ t) && decide ((i : Int) ≠ but)) = [] := by
   rw [List.filter_cons_of_neg, List.filter_nil]
   intro q
   rw [Bool.and_eq_true, stopP_at hk] at q
   exact c ⟨of_decide_eq_true q.1, of_decide_eq_true q.2⟩
  rw [this, List.append_nil]
end
end Go.Proofs.Ytalkfnblnlcklaa
/- Pairs in the order of their keys: what a call laid over makes of them. No dump; no condition. -/
namespace Go.Proofs.Ytalkfnblnlcklaa
set_option linter.unusedVariables false
/-- In the order of the keys. -/
def Sk (l : List (Int × Int)) : Prop := l.Pairwise fun p q => p.1 < q.1
section
variable {l m : List (Int × Int)} {a p : Int × Int} {key val k : Int} {gone : Bool}
theorem setP_nil : setP [] key val gone = if gone = true then [] else [(key, val)] := by
 unfold setP isK cutK
 simp
theorem setP_lt (h : a.1 < key) : setP (a :: l) key val gone = a :: setP l key val gone := by
 have hc : cutK (a :: l) key = cutK l key + 1 := by
  unfold cutK
  rw [List.takeWhile_cons, if_pos (decide_eq_true h), List.length_cons]
 have hi : isK (a :: l) key = isK l key := by
  unfold isK
  rw [hc, List.getElem?_cons_succ]
 unfold setP
 rw [hc, hi, List.take_succ_cons]
 cases isK l key <;> simp
theorem setP_ge (h : ¬ a.1 < key) : setP (a :: l) key val gone = (if gone = true then [] else [(key, val)]) ++ (if a.1 = key then l else a :: l) := by
 have hc : cutK (a :: l) key = 0 := by
  unfold cutK
  rw [List.takeWhile_cons, if_neg (by simpa using h), List.length_nil]
 have hi : isK (a :: l) key = decide (a.1 = key) := by
  unfold isK
  rw [hc]
  rfl
 unfold setP
 rw [hc, hi]
 by_cases e : a.1 = key
 ·simp [e]
 ·simp [e]
theorem mem_setP (h : Sk l) : p ∈ setP l key val gone ↔ (p ∈ l ∧ p.1 ≠ key) ∨ (gone = false ∧ p = (key, val)) := by
  induction l with
  | nil =>
    rw [setP_nil]
    cases gone <;> simp
  | cons a l ih =>
    obtain ⟨h1, h2⟩ := List.pairwise_cons.1 h
    have ih := ih h2
    by_cases c : a.1 < key
    · rw [setP_lt c, List.mem_cons, ih, List.mem_cons]
      constructor
      · rintro (rfl | ⟨q1, q2⟩ | q)
        · exact .inl ⟨.inl rfl, by omega⟩
        · exact .inl ⟨.inr q1, q2⟩
        · exact .inr q
      · rintro (⟨rfl | q1, q2⟩ | q)
        · exact .inl rfl
        · exact .inr (.inl ⟨q1, q2⟩)
        · exact .inr (.inr q)
    · rw [setP_ge c, List.mem_append]
      have g : p ∈ (if gone = true then [] else [(key, val)]) ↔ gone = false ∧ p = (key, val) := by cases gone <;> simp
      rw [g]
      have r : p ∈ (if a.1 = key then l else a :: l) ↔ p ∈ a :: l ∧ p.1 ≠ key := by
        by_cases e : a.1 = key
        · rw [if_pos e, List.mem_cons]
          constructor
          · intro q
            have := h1 p q
            exact ⟨.inr q, by omega⟩
          · rintro ⟨rfl | q, n⟩
            · exact absurd e n
            · exact q
        · rw [if_neg e]
          refine ⟨fun q => ⟨q, ?_⟩, fun q => q.1⟩
          rcases List.mem_cons.1 q with rfl | q
          · exact e
          · have := h1 p q
            omega
      rw [r]
      exact Or.comm
theorem sk_setP (h : Sk l) : Sk (setP l key val gone) := by
  induction l with
  | nil =>
    rw [setP_nil]
    cases gone
    · exact List.pairwise_singleton _ _
    · exact List.Pairwise.nil
  | cons a l ih =>
    obtain ⟨h1, h2⟩ := List.pairwise_cons.1 h
    have ih := ih h2
    by_cases c : a.1 < key
    · rw [setP_lt c]
      refine List.pairwise_cons.2 ⟨fun p hp => ?_, ih⟩
      rcases (mem_setP h2).1 hp with q | ⟨_, q⟩
      · exact h1 p q.1
      · rw [q]; exact c
    · rw [setP_ge c]
      have t : Sk (if a.1 = key then l else a :: l) := by split; exact h2; exact h
      have b : ∀ p ∈ (if a.1 = key then l else a :: l), key < p.1 := by
        intro p hp
        split at hp
        · next e => have := h1 p hp; omega
        · next e =>
          rcases List.mem_cons.1 hp with rfl | q
          · omega
          · have := h1 p q; omega
      cases gone
      · exact List.pairwise_cons.2 ⟨b, t⟩
      · exact t
theorem sk_laid (h : Sk l) (c : OpI × ReI) : Sk (laidP l c) := by
 unfold laidP
 split
 ·exact h
 ·split
  ·exact sk_setP h
  ·split
   ·exact sk_setP h
   ·exact h
theorem sk_fold (cs : List (OpI × ReI)) (h : Sk l) : Sk (cs.foldl laidP l) := by
 induction cs generalizing l with
 | nil => exact h
 | cons c cs ih => exact ih (sk_laid h c)
theorem find_mem (h : Sk l) {v : Int} : findP l k = some v ↔ (k, v) ∈ l := by
  induction l with
  | nil => simp [findP]
  | cons a l ih =>
    obtain ⟨h1, h2⟩ := List.pairwise_cons.1 h
    unfold findP at ih ⊢
    by_cases e : a.1 = k
    · rw [List.find?_cons_of_pos (by simpa using e), List.mem_cons]
      constructor
      · intro q
        left
        cases q
        rw [← e]
      · rintro (q | q)
        · rw [← q]; rfl
        · have := h1 _ q
          simp at this
          omega
    · rw [List.find?_cons_of_neg (by simpa using e), ih h2, List.mem_cons]
      constructor
      · exact .inr
      · rintro (q | q)
        · rw [← q] at e; exact absurd rfl e
        · exact q
theorem find_ext {b c : Option Int} (h : ∀ v, b = some v ↔ c = some v) : b = c := by
  cases b with
  | some v => exact ((h v).1 rfl).symm
  | none =>
    cases c with
    | none => rfl
    | some v => exact (h v).2 rfl
theorem find_setP (h : Sk l) : findP (setP l key val gone) k = if k = key then (if gone = true then none else some val) else findP l k := by
 refine find_ext fun v => ?_
 rw [find_mem (sk_setP h), mem_setP h]
 by_cases e : k = key
 ·rw [if_pos e]
  subst e
  cases gone
  ·simp [eq_comm]
  ·simp
 ·rw [if_neg e, find_mem h]
  simp [e]
/-- Two in order that tell the same of each key are one. -/
theorem sk_ext : ∀ {l m : List (Int × Int)}, Sk l → Sk m → (∀ p, p ∈ l ↔ p ∈ m) → l = m
 | [], [], _, _, _ => rfl
 | [], b :: m, _, _, h => absurd ((h b).2 (List.mem_cons_self ..)) (by simp)
 | a :: l, [], _, _, h => absurd ((h a).1 (List.mem_cons_self ..)) (by simp)
 | a :: l, b :: m, hl, hm, h => by
  obtain ⟨l1, l2⟩ := List.pairwise_cons.1 hl
  obtain ⟨m1, m2⟩ := List.pairwise_cons.1 hm
  have ab : a = b := by
   rcases List.mem_cons.1 ((h a).1 (List.mem_cons_self ..)) with e | e
   ·exact e
   ·rcases List.mem_cons.1 ((h b).2 (List.mem_cons_self ..)) with e2 | e2
    ·exact e2.symm
    ·have := m1 a e
     have := l1 b e2
     omega
  subst ab
  rw [sk_ext l2 m2 fun p => ?_]
  constructor
  ·intro q
   rcases List.mem_cons.1 ((h p).1 (List.mem_cons_of_mem _ q)) with e | e
   ·have := l1 p q
    rw [e] at this
    omega
   ·exact e
  ·intro q
   rcases List.mem_cons.1 ((h p).2 (List.mem_cons_of_mem _ q)) with e | e
   ·have := m1 p q
    rw [e] at this
    omega
   ·exact e
theorem range_ext (hl : Sk l) (hm : Sk m) {lo hi : Int} (h : ∀ k, lo ≤ k → k ≤ hi → findP l k = findP m k) : l.filter (inR lo hi) = m.filter (inR lo hi) := by
 refine sk_ext (hl.filter _) (hm.filter _) fun p => ?_
 rw [List.mem_filter, List.mem_filter]
 have key : inR lo hi p = true → (p ∈ l ↔ p ∈ m) := fun c => by
  unfold inR at c
  rw [Bool.and_eq_true] at c
  have := h p.1 (of_decide_eq_true c.1) (of_decide_eq_true c.2)
  rw [show p = (p.1, p.2) from rfl, ← find_mem hl, ← find_mem hm, this]
 constructor
 ·rintro ⟨a, c⟩; exact ⟨(key c).1 a, c⟩
 ·rintro ⟨a, c⟩; exact ⟨(key c).2 a, c⟩
end
end Go.Proofs.Ytalkfnblnlcklaa
