/- A Model of whole calls (layer 19) in plain lists: what it always keeps (Good), and that each call keeps it. No dump; no condition. -/
import Derived.Test.YtkkjofefjepodaaMoI
namespace Go.Proofs.Ytkkjofefjepodaa
set_option linter.unusedVariables false

/-- A session's transaction, as it always is. -/
structure SOk (made time : Int) (t : TxI) : Prop where
  id : 0 ≤ t.id ∧ t.id ≤ made
  z : t.id = 0 → t = tx0
  lv : t.id ≠ 0 → 1 ≤ t.level ∧ t.level ≤ 3 ∧ 1 ≤ t.start ∧ t.start ≤ time
  ops : 0 ≤ t.ops ∧ t.ops ≤ 12
  wr : (t.wrote.length : Int) ≤ t.ops
  rd : (t.reads.length : Int) ≤ t.ops
  rb : ∀ r ∈ t.reads, 0 ≤ r.lo ∧ r.lo ≤ r.hi ∧ r.hi ≤ 63
  wb : ∀ k ∈ t.wrote, 0 ≤ k ∧ k ≤ 63
/-- A live session of an id has written a key. -/
def Wr (s : Nat → TxI) (id key : Int) : Prop := ∃ i, i < 8 ∧ (s i).id = id ∧ key ∈ (s i).wrote
/-- A version, as it always is. -/
structure VOk (s : Nat → TxI) (made time : Int) (y : VrI) : Prop where
  by' : y.bY ≠ 0 → y.stop = 0 ∧ (y.ended = 0 ∨ y.ended = y.bY) ∧ (y.dead = false → Wr s y.bY y.key)
  en : y.ended ≠ 0 → y.dead = false ∧ y.stop = 0 ∧ Wr s y.ended y.key
  tm : y.bY = 0 → 0 ≤ y.start ∧ y.start ≤ time ∧ (y.stop = 0 ∨ (y.start ≤ y.stop ∧ y.stop ≤ time))
  ky : 0 ≤ y.key ∧ y.key ≤ 63
  vl : 0 ≤ y.val ∧ y.val ≤ 65535
  bm : 0 ≤ y.bY ∧ y.bY ≤ made
  em : 0 ≤ y.ended ∧ y.ended ≤ made
/-- Two versions of a key do not overlap. -/
def Apart (y z : VrI) : Prop := y.key = z.key → y.dead = false → z.dead = false → (y.bY = 0 → z.bY = 0 → (y.stop ≠ 0 ∧ y.stop ≤ z.start) ∨ (z.stop ≠ 0 ∧ z.stop ≤ y.start)) ∧ (y.bY ≠ 0 → y.bY ≠ z.bY)
/-- A key that a live one has written: what committed ones left of it is elder, and is over. -/
def Fst (s : Nat → TxI) (v : List VrI) : Prop := ∀ i k, i < 8 → k ∈ (s i).wrote → ∀ y ∈ v, y.key = k → y.dead = false → y.bY = 0 → y.start ≤ (s i).start ∧ y.stop ≤ (s i).start ∧ (y.ended ≠ 0 ∨ y.stop ≠ 0)
structure Good (x : MoI) : Prop where
  conf : 1 ≤ x.slots ∧ x.slots ≤ 256 ∧ 1 ≤ x.limit ∧ x.limit ≤ 1099511627776
  time : 0 ≤ x.time ∧ x.time ≤ x.limit
  made : 0 ≤ x.made ∧ x.made ≤ 2000
  len : (x.v.length : Int) ≤ x.slots
  ses : ∀ i, i < 8 → SOk x.made x.time (x.s i)
  ids : ∀ i j, i < 8 → j < 8 → (x.s i).id ≠ 0 → (x.s i).id = (x.s j).id → i = j
  ver : ∀ y ∈ x.v, VOk x.s x.made x.time y
  two : x.v.Pairwise Apart
  dis : ∀ i j k, i < 8 → j < 8 → k ∈ (x.s i).wrote → k ∈ (x.s j).wrote → i = j
  fst : Fst x.s x.v
theorem tx0_ok {made time : Int} (h : 0 ≤ made) : SOk made time tx0 :=
  ⟨⟨Int.le_refl _, h⟩, fun _ => rfl, fun e => absurd rfl e, ⟨by decide, by decide⟩, by decide, by decide, (fun r hr => by cases hr), (fun k hk => by cases hk)⟩
theorem good_new {slots limit : Int} (h : confI slots limit = true) : Good (new0 slots limit) := by
  have h := of_decide_eq_true h
  exact ⟨h, ⟨Int.le_refl _, by show (0 : Int) ≤ limit; omega⟩, ⟨by show (0 : Int) ≤ 0; omega, by show (0 : Int) ≤ 2000; omega⟩, by show (0 : Int) ≤ slots; omega, fun i hi => tx0_ok (Int.le_refl _), fun i j _ _ e => absurd rfl e, (fun y hy => by cases hy), List.Pairwise.nil, (fun i j k _ _ hk => by cases hk), (fun i k _ hk => by cases hk)⟩
section
variable {x : MoI}
/-- A session of an id that is none has written nothing. -/
theorem Good.idle (h : Good x) {i : Nat} (hi : i < 8) (e : (x.s i).id = 0) : x.s i = tx0 := (h.ses i hi).z e
theorem Good.wrote_live (h : Good x) {i : Nat} (hi : i < 8) {k : Int} (hk : k ∈ (x.s i).wrote) : (x.s i).id ≠ 0 := fun e => by rw [h.idle hi e] at hk; cases hk
theorem SOk.later {m t m' t' : Int} {s : TxI} (h : SOk m t s) (hm : m ≤ m') (ht : t ≤ t') : SOk m' t' s :=
  ⟨⟨h.id.1, Int.le_trans h.id.2 hm⟩, h.z, fun e => ⟨(h.lv e).1, (h.lv e).2.1, (h.lv e).2.2.1, Int.le_trans (h.lv e).2.2.2 ht⟩, h.ops, h.wr, h.rd, h.rb, h.wb⟩
theorem VOk.later {s s' : Nat → TxI} {m t m' t' : Int} {y : VrI} (h : VOk s m t y) (hm : m ≤ m') (ht : t ≤ t') (hs : ∀ id key, id ≠ 0 → Wr s id key → Wr s' id key) : VOk s' m' t' y :=
  ⟨fun e => ⟨(h.by' e).1, (h.by' e).2.1, fun d => hs _ _ e ((h.by' e).2.2 d)⟩, fun e => ⟨(h.en e).1, (h.en e).2.1, hs _ _ e (h.en e).2.2⟩, fun e => ⟨(h.tm e).1, Int.le_trans (h.tm e).2.1 ht, (h.tm e).2.2.imp id fun q => ⟨q.1, Int.le_trans q.2 ht⟩⟩, h.ky, h.vl, ⟨h.bm.1, Int.le_trans h.bm.2 hm⟩, ⟨h.em.1, Int.le_trans h.em.2 hm⟩⟩
theorem begE_zero {s level : Int} (h : x.begE s level = 0) : 0 ≤ s ∧ s ≤ 7 ∧ 1 ≤ level ∧ level ≤ 3 ∧ (x.s s.toNat).id = 0 ∧ x.made < 2000 ∧ x.time < x.limit := by
  unfold MoI.begE at h
  by_cases h1 : s < 0 ∨ 7 < s ∨ level < 1 ∨ 3 < level
  · rw [if_pos h1] at h; omega
  · rw [if_neg h1] at h
    by_cases h2 : (x.s s.toNat).id ≠ 0
    · rw [if_pos h2] at h; omega
    · rw [if_neg h2] at h
      by_cases h3 : 2000 ≤ x.made
      · rw [if_pos h3] at h; omega
      · rw [if_neg h3] at h
        by_cases h4 : x.limit ≤ x.time
        · rw [if_pos h4] at h; omega
        · exact ⟨by omega, by omega, by omega, by omega, Decidable.not_not.1 h2, by omega, by omega⟩
theorem good_beg (h : Good x) (s level : Int) : Good (x.beg s level) := by
  unfold MoI.beg
  by_cases hz : x.begE s level = 0
  · rw [if_pos hz]
    obtain ⟨s0, s7, l1, l3, hid, hm, ht⟩ := begE_zero hz
    obtain ⟨n, hn⟩ : ∃ n, s.toNat = n := ⟨_, rfl⟩
    rw [hn] at hid ⊢
    have n8 : n < 8 := by omega
    have e0 := h.idle n8 hid
    obtain ⟨t, et⟩ : ∃ t : TxI, ⟨x.made + 1, level, 0, x.time + 1, [], []⟩ = t := ⟨_, rfl⟩
    rw [et]
    have tw : t.wrote = [] := by rw [← et]
    have ti : t.id = x.made + 1 := by rw [← et]
    have mm := h.made
    have wr : ∀ j k, k ∈ (putS x.s n t j).wrote → j ≠ n ∧ k ∈ (x.s j).wrote := fun j k hk => by
      by_cases e : j = n
      · subst e; rw [putS_self, tw] at hk; cases hk
      · rw [putS_ne _ _ e] at hk; exact ⟨e, hk⟩
    have WR : ∀ id key, id ≠ 0 → Wr x.s id key → Wr (putS x.s n t) id key := by
      rintro id key hne ⟨i, hi, e, hk⟩
      have : i ≠ n := fun q => by subst q; rw [e0] at hk; cases hk
      exact ⟨i, hi, by rw [putS_ne _ _ this]; exact e, by rw [putS_ne _ _ this]; exact hk⟩
    have tim := h.time
    refine ⟨h.conf, ⟨by show 0 ≤ x.time + 1; omega, by show x.time + 1 ≤ x.limit; omega⟩, ⟨by show 0 ≤ x.made + 1; omega, by show x.made + 1 ≤ 2000; omega⟩, h.len, fun i hi => ?_, fun i j hi hj hne e => ?_, fun y hy => (h.ver y hy).later (by show x.made ≤ x.made + 1; omega) (by show x.time ≤ x.time + 1; omega) WR, h.two, fun i j k hi hj a b => h.dis i j k hi hj (wr i k a).2 (wr j k b).2, fun i k hi hk y hy => ?_⟩
    · show SOk (x.made + 1) (x.time + 1) (putS x.s n t i)
      by_cases e : i = n
      · subst e
        rw [putS_self, ← et]
        exact ⟨⟨by show 0 ≤ x.made + 1; omega, Int.le_refl _⟩, fun q => by have q : x.made + 1 = 0 := q; omega, fun _ => ⟨l1, l3, by show 1 ≤ x.time + 1; omega, Int.le_refl _⟩, ⟨(by show (0 : Int) ≤ 0; decide), (by show (0 : Int) ≤ 12; decide)⟩, (by show (0 : Int) ≤ 0; decide), (by show (0 : Int) ≤ 0; decide), (fun r hr => by cases hr), (fun k hk => by cases hk)⟩
      · rw [putS_ne _ _ e]
        exact (h.ses i hi).later (by omega) (by omega)
    · have e : (putS x.s n t i).id = (putS x.s n t j).id := e
      have hne : (putS x.s n t i).id ≠ 0 := hne
      by_cases ei : i = n
      · by_cases ej : j = n
        · rw [ei, ej]
        · rw [ei, putS_self, putS_ne _ _ ej, ti] at e
          have := (h.ses j hj).id.2
          omega
      · by_cases ej : j = n
        · rw [ej, putS_self, putS_ne _ _ ei, ti] at e
          have := (h.ses i hi).id.2
          omega
        · rw [putS_ne _ _ ei, putS_ne _ _ ej] at e
          rw [putS_ne _ _ ei] at hne
          exact h.ids i j hi hj hne e
    · obtain ⟨e, hk'⟩ := wr i k hk
      show y.key = k → y.dead = false → y.bY = 0 → y.start ≤ (putS x.s n t i).start ∧ y.stop ≤ (putS x.s n t i).start ∧ _
      rw [putS_ne _ _ e]
      exact h.fst i k hi hk' y hy
  · rw [if_neg hz]; exact h
/-- A session's count and reads alone. -/
theorem Good.put (h : Good x) {s : Nat} (t : TxI) (e1 : t.id = (x.s s).id) (e2 : t.level = (x.s s).level) (e3 : t.start = (x.s s).start) (e4 : t.wrote = (x.s s).wrote) (hid : (x.s s).id ≠ 0) (hs : s < 8)
    (ops : 0 ≤ t.ops ∧ t.ops ≤ 12) (wr : (t.wrote.length : Int) ≤ t.ops) (rd : (t.reads.length : Int) ≤ t.ops) (rb : ∀ r ∈ t.reads, 0 ≤ r.lo ∧ r.lo ≤ r.hi ∧ r.hi ≤ 63) : Good { x with s := putS x.s s t } := by
  have fi : ∀ i, (putS x.s s t i).id = (x.s i).id := fun i => by by_cases e : i = s; subst e; rw [putS_self, e1]; rw [putS_ne _ _ e]
  have fs : ∀ i, (putS x.s s t i).start = (x.s i).start := fun i => by by_cases e : i = s; subst e; rw [putS_self, e3]; rw [putS_ne _ _ e]
  have fw : ∀ i, (putS x.s s t i).wrote = (x.s i).wrote := fun i => by by_cases e : i = s; subst e; rw [putS_self, e4]; rw [putS_ne _ _ e]
  have so := h.ses s hs
  refine ⟨h.conf, h.time, h.made, h.len, fun i hi => ?_, fun i j hi hj => ?_, fun y hy => (h.ver y hy).later (Int.le_refl _) (Int.le_refl _) ?_, h.two, fun i j k hi hj => ?_, fun i k hi => ?_⟩
  · show SOk x.made x.time (putS x.s s t i)
    by_cases e : i = s
    · subst e
      rw [putS_self]
      exact ⟨by rw [e1]; exact so.id, fun q => absurd (e1 ▸ q) hid, fun _ => by rw [e2, e3]; exact so.lv hid, ops, wr, rd, rb, by rw [e4]; exact so.wb⟩
    · rw [putS_ne _ _ e]; exact h.ses i hi
  · show (putS x.s s t i).id ≠ 0 → (putS x.s s t i).id = (putS x.s s t j).id → i = j
    rw [fi, fi]; exact h.ids i j hi hj
  · rintro id key _ ⟨i, hi, e, hk⟩
    exact ⟨i, hi, by show (putS x.s s t i).id = id; rw [fi]; exact e, by show key ∈ (putS x.s s t i).wrote; rw [fw]; exact hk⟩
  · show k ∈ (putS x.s s t i).wrote → k ∈ (putS x.s s t j).wrote → i = j
    rw [fw, fw]; exact h.dis i j k hi hj
  · show k ∈ (putS x.s s t i).wrote → ∀ y ∈ x.v, y.key = k → y.dead = false → y.bY = 0 → y.start ≤ (putS x.s s t i).start ∧ y.stop ≤ (putS x.s s t i).start ∧ _
    rw [fw, fs]; exact h.fst i k hi
/-- Whose id it is. -/
theorem Good.whose (h : Good x) {s : Nat} (hs : s < 8) {id key : Int} (hid : (x.s s).id = id) (h0 : id ≠ 0) : Wr x.s id key → key ∈ (x.s s).wrote := by
  rintro ⟨i, hi, e, hk⟩
  obtain rfl : s = i := h.ids s i hs hi (by rw [hid]; exact h0) (by rw [hid, e])
  exact hk
/-- An abort. -/
theorem good_over (h : Good x) {s : Nat} (hs : s < 8) (hid : (x.s s).id ≠ 0) : Good (x.over s) := by
  obtain ⟨id, eid⟩ : ∃ id, (x.s s).id = id := ⟨_, rfl⟩
  unfold MoI.over
  rw [eid] at hid ⊢
  have w0 : ∀ j k, k ∈ (putS x.s s tx0 j).wrote → j ≠ s ∧ k ∈ (x.s j).wrote := fun j k hk => by
    by_cases e : j = s
    · subst e; rw [putS_self] at hk; cases hk
    · rw [putS_ne _ _ e] at hk; exact ⟨e, hk⟩
  have WR : ∀ i2 key, i2 ≠ id → Wr x.s i2 key → Wr (putS x.s s tx0) i2 key := by
    rintro i2 key hne ⟨i, hi, e, hk⟩
    have : i ≠ s := fun q => by subst q; exact hne (e.symm.trans eid)
    exact ⟨i, hi, by rw [putS_ne _ _ this]; exact e, by rw [putS_ne _ _ this]; exact hk⟩
  refine ⟨h.conf, h.time, h.made, by show ((x.v.map (goneV id)).length : Int) ≤ x.slots; rw [List.length_map]; exact h.len, fun i hi => ?_, fun i j hi hj hne e => ?_, fun y hy => ?_, ?_, fun i j k hi hj a b => h.dis i j k hi hj (w0 i k a).2 (w0 j k b).2, fun i k hi hk y hy => ?_⟩
  · show SOk x.made x.time (putS x.s s tx0 i)
    by_cases e : i = s
    · subst e; rw [putS_self]; exact tx0_ok h.made.1
    · rw [putS_ne _ _ e]; exact h.ses i hi
  · have e : (putS x.s s tx0 i).id = (putS x.s s tx0 j).id := e
    have hne : (putS x.s s tx0 i).id ≠ 0 := hne
    by_cases ei : i = s
    · rw [ei, putS_self] at hne; exact absurd rfl hne
    · rw [putS_ne _ _ ei] at e hne
      by_cases ej : j = s
      · rw [ej, putS_self] at e; exact absurd e hne
      · rw [putS_ne _ _ ej] at e; exact h.ids i j hi hj hne e
  · have hy : y ∈ x.v.map (goneV id) := hy
    obtain ⟨a, ha, rfl⟩ := List.mem_map.1 hy
    have o := h.ver a ha
    refine ⟨fun e => ?_, fun e => ?_, o.tm, o.ky, o.vl, o.bm, ?_⟩
    · have e : a.bY ≠ 0 := e
      obtain ⟨p1, p2, p3⟩ := o.by' e
      refine ⟨p1, ?_, fun d => ?_⟩
      · show (if a.ended = id then (0 : Int) else a.ended) = 0 ∨ (if a.ended = id then (0 : Int) else a.ended) = a.bY
        by_cases q : a.ended = id
        · rw [if_pos q]; exact .inl rfl
        · rw [if_neg q]; exact p2
      · have d : (if a.bY = id then true else a.dead) = false := d
        by_cases q : a.bY = id
        · rw [if_pos q] at d; cases d
        · rw [if_neg q] at d; exact WR _ _ q (p3 d)
    · have e : (if a.ended = id then (0 : Int) else a.ended) ≠ 0 := e
      by_cases q : a.ended = id
      · rw [if_pos q] at e; exact absurd rfl e
      · rw [if_neg q] at e
        obtain ⟨p1, p2, p3⟩ := o.en e
        refine ⟨?_, p2, ?_⟩
        · show (if a.bY = id then true else a.dead) = false
          by_cases b : a.bY = id
          · rcases (o.by' (by rw [b]; exact hid)).2.1 with c | c
            · exact absurd c e
            · exact absurd (c.trans b) q
          · rw [if_neg b]; exact p1
        · show Wr _ (if a.ended = id then (0 : Int) else a.ended) a.key
          rw [if_neg q]; exact WR _ _ q p3
    · show 0 ≤ (if a.ended = id then (0 : Int) else a.ended) ∧ (if a.ended = id then (0 : Int) else a.ended) ≤ x.made
      split
      · exact ⟨Int.le_refl _, h.made.1⟩
      · exact o.em
  · show (x.v.map (goneV id)).Pairwise Apart
    refine List.pairwise_map.2 (h.two.imp ?_)
    intro a b hab e da db
    have da : (if a.bY = id then true else a.dead) = false := da
    have db : (if b.bY = id then true else b.dead) = false := db
    by_cases qa : a.bY = id
    · rw [if_pos qa] at da; cases da
    · by_cases qb : b.bY = id
      · rw [if_pos qb] at db; cases db
      · rw [if_neg qa] at da
        rw [if_neg qb] at db
        exact hab e da db
  · obtain ⟨hne, hk'⟩ := w0 i k hk
    have hy : y ∈ x.v.map (goneV id) := hy
    obtain ⟨a, ha, rfl⟩ := List.mem_map.1 hy
    intro ek d b0
    show a.start ≤ (putS x.s s tx0 i).start ∧ a.stop ≤ (putS x.s s tx0 i).start ∧ ((if a.ended = id then (0 : Int) else a.ended) ≠ 0 ∨ a.stop ≠ 0)
    rw [putS_ne _ _ hne]
    have b0 : a.bY = 0 := b0
    have d : (if a.bY = id then true else a.dead) = false := d
    rw [if_neg (by rw [b0]; exact fun q => hid q.symm)] at d
    obtain ⟨p1, p2, p3⟩ := h.fst i k hi hk' a ha ek d b0
    refine ⟨p1, p2, ?_⟩
    by_cases q : a.ended = id
    · exfalso
      have := h.whose hs eid hid (q ▸ (h.ver a ha).en (by rw [q]; exact hid) |>.2.2)
      exact hne (h.dis i s k hi hs hk' (ek ▸ this))
    · rw [if_neg q]; exact p3
theorem good_tick (h : Good x) (ht : x.time < x.limit) : Good { x with time := x.time + 1 } := by
  have hx := h.time
  exact ⟨h.conf, ⟨by show 0 ≤ x.time + 1; omega, by show x.time + 1 ≤ x.limit; omega⟩, h.made, h.len, fun i hi => (h.ses i hi).later (Int.le_refl _) (by show x.time ≤ x.time + 1; omega), h.ids, fun y hy => (h.ver y hy).later (Int.le_refl _) (by show x.time ≤ x.time + 1; omega) (fun _ _ _ w => w), h.two, h.dis, h.fst⟩
/-- A committed version of a key that a live one has written is over, or is ended by that one. -/
theorem Good.over_by (h : Good x) {s : Nat} (hs : s < 8) {id : Int} (hid : (x.s s).id = id) (h0 : id ≠ 0) {y : VrI} (hy : y ∈ x.v) (hk : y.key ∈ (x.s s).wrote) (hd : y.dead = false) (hb : y.bY = 0) : y.ended = id ∨ (y.ended = 0 ∧ y.stop ≠ 0 ∧ y.stop ≤ x.time) := by
  obtain ⟨p1, p2, p3⟩ := h.fst s y.key hs hk y hy rfl hd hb
  have o := h.ver y hy
  have lv := (h.ses s hs).lv (by rw [hid]; exact h0)
  by_cases q : y.ended = 0
  · exact .inr ⟨q, p3.resolve_left (fun e => e q), by omega⟩
  · obtain ⟨_, _, i, hi, e, hk'⟩ := o.en q
    obtain rfl := h.dis i s y.key hi hs hk' hk
    exact .inl (e.symm.trans hid)
theorem apart_done (h : Good x) {s : Nat} (hs : s < 8) {id : Int} (hid : (x.s s).id = id) (h0 : id ≠ 0) {a b : VrI} (ha : a ∈ x.v) (hb : b ∈ x.v) (hab : Apart a b) : Apart (doneV id (x.time + 1) a) (doneV id (x.time + 1) b) := by
  have oa := h.ver a ha
  have ob := h.ver b hb
  have tt := h.time.1
  intro e da db
  have e : a.key = b.key := e
  have da : a.dead = false := da
  have db : b.dead = false := db
  obtain ⟨q1, q2⟩ := hab e da db
  have new : ∀ y ∈ x.v, y.bY = 0 → y.dead = false → y.key ∈ (x.s s).wrote → (if y.ended = id then x.time + 1 else y.stop) ≠ 0 ∧ (if y.ended = id then x.time + 1 else y.stop) ≤ x.time + 1 := fun y hy b0 d hk => by
    rcases h.over_by hs hid h0 hy hk d b0 with q | ⟨q, r1, r2⟩
    · rw [if_pos q]; omega
    · rw [if_neg (by rw [q]; exact fun c => h0 c.symm)]; exact ⟨r1, by omega⟩
  have keep : ∀ y ∈ x.v, y.stop ≠ 0 → (if y.ended = id then x.time + 1 else y.stop) = y.stop := fun y hy hst => by
    by_cases q : y.ended = id
    · exact absurd ((h.ver y hy).en (by rw [q]; exact h0)).2.1 hst
    · rw [if_neg q]
  have ra : (doneV id (x.time + 1) a).bY = if a.bY = id then 0 else a.bY := rfl
  have rb : (doneV id (x.time + 1) b).bY = if b.bY = id then 0 else b.bY := rfl
  refine ⟨fun a0 b0 => ?_, fun a0 => ?_⟩
  · rw [ra] at a0
    rw [rb] at b0
    show ((if a.ended = id then x.time + 1 else a.stop) ≠ 0 ∧ (if a.ended = id then x.time + 1 else a.stop) ≤ (if b.bY = id then x.time + 1 else b.start)) ∨ ((if b.ended = id then x.time + 1 else b.stop) ≠ 0 ∧ (if b.ended = id then x.time + 1 else b.stop) ≤ (if a.bY = id then x.time + 1 else a.start))
    by_cases ia : a.bY = id
    · by_cases ib : b.bY = id
      · exact absurd (ia.trans ib.symm) (q2 (by rw [ia]; exact h0))
      · rw [if_neg ib] at b0
        have hk : b.key ∈ (x.s s).wrote := by
          rw [← e]; exact h.whose hs hid h0 (ia ▸ (oa.by' (by rw [ia]; exact h0)).2.2 da)
        right
        rw [if_pos ia]
        exact new b hb b0 db hk
    · rw [if_neg ia] at a0
      by_cases ib : b.bY = id
      · have hk : a.key ∈ (x.s s).wrote := by
          rw [e]; exact h.whose hs hid h0 (ib ▸ (ob.by' (by rw [ib]; exact h0)).2.2 db)
        left
        rw [if_pos ib]
        exact new a ha a0 da hk
      · rw [if_neg ib] at b0
        rw [if_neg ia, if_neg ib]
        rcases q1 a0 b0 with ⟨c1, c2⟩ | ⟨c1, c2⟩
        · left; rw [keep a ha c1]; exact ⟨c1, c2⟩
        · right; rw [keep b hb c1]; exact ⟨c1, c2⟩
  · rw [ra] at a0 ⊢
    rw [rb]
    by_cases ia : a.bY = id
    · rw [if_pos ia] at a0; exact absurd rfl a0
    · rw [if_neg ia] at a0 ⊢
      by_cases ib : b.bY = id
      · rw [if_pos ib]; exact a0
      · rw [if_neg ib]; exact q2 a0
/-- A commit that goes through. -/
theorem good_done (h : Good x) {s : Nat} (hs : s < 8) (h0 : (x.s s).id ≠ 0) (ht : x.time < x.limit) : Good { x with time := x.time + 1, v := x.v.map (doneV (x.s s).id (x.time + 1)), s := putS x.s s tx0 } := by
  obtain ⟨id, hid⟩ : ∃ id, (x.s s).id = id := ⟨_, rfl⟩
  rw [hid] at h0 ⊢
  have tt := h.time
  have w0 : ∀ j k, k ∈ (putS x.s s tx0 j).wrote → j ≠ s ∧ k ∈ (x.s j).wrote := fun j k hk => by
    by_cases e : j = s
    · subst e; rw [putS_self] at hk; cases hk
    · rw [putS_ne _ _ e] at hk; exact ⟨e, hk⟩
  have WR : ∀ i2 key, i2 ≠ id → Wr x.s i2 key → Wr (putS x.s s tx0) i2 key := by
    rintro i2 key hne ⟨i, hi, e, hk⟩
    have : i ≠ s := fun q => by subst q; exact hne (e.symm.trans hid)
    exact ⟨i, hi, by rw [putS_ne _ _ this]; exact e, by rw [putS_ne _ _ this]; exact hk⟩
  refine ⟨h.conf, ⟨by show 0 ≤ x.time + 1; omega, by show x.time + 1 ≤ x.limit; omega⟩, h.made, by show ((x.v.map (doneV id (x.time + 1))).length : Int) ≤ x.slots; rw [List.length_map]; exact h.len, fun i hi => ?_, fun i j hi hj hne e => ?_, fun y hy => ?_, ?_, fun i j k hi hj a b => h.dis i j k hi hj (w0 i k a).2 (w0 j k b).2, fun i k hi hk y hy => ?_⟩
  · show SOk x.made (x.time + 1) (putS x.s s tx0 i)
    by_cases e : i = s
    · subst e; rw [putS_self]; exact tx0_ok h.made.1
    · rw [putS_ne _ _ e]; exact (h.ses i hi).later (Int.le_refl _) (by omega)
  · have e : (putS x.s s tx0 i).id = (putS x.s s tx0 j).id := e
    have hne : (putS x.s s tx0 i).id ≠ 0 := hne
    by_cases ei : i = s
    · rw [ei, putS_self] at hne; exact absurd rfl hne
    · rw [putS_ne _ _ ei] at e hne
      by_cases ej : j = s
      · rw [ej, putS_self] at e; exact absurd e hne
      · rw [putS_ne _ _ ej] at e; exact h.ids i j hi hj hne e
  · have hy : y ∈ x.v.map (doneV id (x.time + 1)) := hy
    obtain ⟨a, ha, rfl⟩ := List.mem_map.1 hy
    have o := h.ver a ha
    refine ⟨fun e => ?_, fun e => ?_, fun e => ?_, o.ky, o.vl, ?_, ?_⟩
    · have e : (if a.bY = id then (0 : Int) else a.bY) ≠ 0 := e
      by_cases q : a.bY = id
      · rw [if_pos q] at e; exact absurd rfl e
      · rw [if_neg q] at e
        obtain ⟨p1, p2, p3⟩ := o.by' e
        have ne : a.ended ≠ id := fun c => by
          rcases p2 with r | r
          · exact h0 (c.symm.trans r)
          · exact q (r.symm.trans c)
        refine ⟨?_, ?_, fun d => ?_⟩
        · show (if a.ended = id then x.time + 1 else a.stop) = 0
          rw [if_neg ne]; exact p1
        · show (if a.ended = id then (0 : Int) else a.ended) = 0 ∨ (if a.ended = id then (0 : Int) else a.ended) = (if a.bY = id then (0 : Int) else a.bY)
          rw [if_neg ne, if_neg q]; exact p2
        · show Wr _ (if a.bY = id then (0 : Int) else a.bY) a.key
          rw [if_neg q]; exact WR _ _ q (p3 d)
    · have e : (if a.ended = id then (0 : Int) else a.ended) ≠ 0 := e
      by_cases q : a.ended = id
      · rw [if_pos q] at e; exact absurd rfl e
      · rw [if_neg q] at e
        obtain ⟨p1, p2, p3⟩ := o.en e
        refine ⟨p1, ?_, ?_⟩
        · show (if a.ended = id then x.time + 1 else a.stop) = 0
          rw [if_neg q]; exact p2
        · show Wr _ (if a.ended = id then (0 : Int) else a.ended) a.key
          rw [if_neg q]; exact WR _ _ q p3
    · have e : (if a.bY = id then (0 : Int) else a.bY) = 0 := e
      show 0 ≤ (if a.bY = id then x.time + 1 else a.start) ∧ (if a.bY = id then x.time + 1 else a.start) ≤ x.time + 1 ∧ ((if a.ended = id then x.time + 1 else a.stop) = 0 ∨ ((if a.bY = id then x.time + 1 else a.start) ≤ (if a.ended = id then x.time + 1 else a.stop) ∧ (if a.ended = id then x.time + 1 else a.stop) ≤ x.time + 1))
      by_cases q : a.bY = id
      · rw [if_pos q]
        have p1 := (o.by' (by rw [q]; exact h0)).1
        split
        · omega
        · omega
      · rw [if_neg q] at e ⊢
        obtain ⟨p1, p2, p3⟩ := o.tm e
        split
        · omega
        · omega
    · show 0 ≤ (if a.bY = id then (0 : Int) else a.bY) ∧ (if a.bY = id then (0 : Int) else a.bY) ≤ x.made
      split
      · exact ⟨Int.le_refl _, h.made.1⟩
      · exact o.bm
    · show 0 ≤ (if a.ended = id then (0 : Int) else a.ended) ∧ (if a.ended = id then (0 : Int) else a.ended) ≤ x.made
      split
      · exact ⟨Int.le_refl _, h.made.1⟩
      · exact o.em
  · show (x.v.map (doneV id (x.time + 1))).Pairwise Apart
    exact List.pairwise_map.2 (h.two.imp_of_mem fun ha hb hab => apart_done h hs hid h0 ha hb hab)
  · obtain ⟨hne, hk'⟩ := w0 i k hk
    have hy : y ∈ x.v.map (doneV id (x.time + 1)) := hy
    obtain ⟨a, ha, rfl⟩ := List.mem_map.1 hy
    intro ek d b0
    have d : a.dead = false := d
    have ek : a.key = k := ek
    have nw : ∀ z, Wr x.s z a.key → z ≠ id := fun z hz c => hne (h.dis i s k hi hs hk' (ek ▸ h.whose hs hid h0 (c ▸ hz)))
    have o := h.ver a ha
    have nb : a.bY ≠ id := fun c => nw a.bY ((o.by' (by rw [c]; exact h0)).2.2 d) c
    have nE : a.ended ≠ id := fun c => nw a.ended (o.en (by rw [c]; exact h0)).2.2 c
    have b0 : (if a.bY = id then (0 : Int) else a.bY) = 0 := b0
    rw [if_neg nb] at b0
    show (if a.bY = id then x.time + 1 else a.start) ≤ (putS x.s s tx0 i).start ∧ (if a.ended = id then x.time + 1 else a.stop) ≤ (putS x.s s tx0 i).start ∧ ((if a.ended = id then (0 : Int) else a.ended) ≠ 0 ∨ (if a.ended = id then x.time + 1 else a.stop) ≠ 0)
    rw [putS_ne _ _ hne, if_neg nb, if_neg nE, if_neg nE]
    exact h.fst i k hi hk' a ha ek d b0
theorem good_commit (h : Good x) {s : Nat} (hs : s < 8) (h0 : (x.s s).id ≠ 0) : Good (x.commit s).2 := by
  unfold MoI.commit
  by_cases hl : x.limit ≤ x.time
  · rw [if_pos hl]; exact good_over h hs h0
  · rw [if_neg hl]
    have ht : x.time < x.limit := by omega
    simp only
    split
    · exact good_over (good_tick h ht) hs h0
    · exact good_done h hs h0 ht
theorem good_collect (h : Good x) : Good x.collect := by
  have sub : (x.v.filter (MoI.keepV x.low)).Sublist x.v := List.filter_sublist
  refine ⟨h.conf, h.time, h.made, ?_, h.ses, h.ids, fun y hy => h.ver y (sub.subset hy), h.two.sublist sub, h.dis, fun i k hi hk y hy => h.fst i k hi hk y (sub.subset hy)⟩
  have := sub.length_le
  have := h.len
  show ((x.v.filter (MoI.keepV x.low)).length : Int) ≤ x.slots
  omega
end
end Go.Proofs.Ytkkjofefjepodaa
