/- Package model as landed, in plain lists, second part: what each of its steps makes of what it tells (Lr). No dump; no condition. -/
import Derived.Test.YtkkjofefjepodaaLdI
namespace Go.Proofs.Ytkkjofefjepodaa
set_option linter.unusedVariables false
set_option linter.unusedSimpArgs false
section
variable {L : List (Nat × VeI)} {io : Nat → Int} {z : LdI} {x : MoI} {i : Nat} {t : TtI}
/-- A version that bars a write. -/
theorem LrL.conf_none (h : LrL L io z x) (g : Good x) (hi : i < 8) (ht : z.s i = some t) {k : Nat} (hk : k < 64) : (z.k k).find? (confV z.F t) ≠ none ↔ ((k : Int) ∉ (x.s i).wrote ∧ x.taken (x.s i).id (x.s i).start k = true) := by
  have ts := h.ts i t hi ht
  have id0 : (x.s i).id ≠ 0 := by rw [ts.id]; exact ts.nz
  have lv := (g.ses i hi).lv id0
  constructor
  · intro hne
    cases c : (z.k k).find? (confV z.F t) with
    | none => exact absurd c hne
    | some v =>
      have hv := List.mem_of_find?_eq_some c
      have hc := List.find?_some c
      rw [h.k k hk] at hv
      obtain ⟨p, hpf, e⟩ := List.mem_map.1 hv
      obtain ⟨hp, ekd⟩ := List.mem_filter.1 hpf
      have ek := of_decide_eq_true ekd
      clear hpf ekd
      obtain ⟨k', v'⟩ := p
      have e : v' = v := e
      subst e
      have ek : k' = k := ek
      subst ek
      have hy := h.mem hp
      have vo := g.ver _ hy
      have um := h.mu _ hp
      obtain ⟨b, val, mk, en⟩ := v'
      -- one that another live one has made or ended
      have live : ∀ d, UsO z.begun z.s z.F io d → d ≠ t.f → (z.F d).st = 1 → Wr x.s (io d) k' → ((k' : Int) ∉ (x.s i).wrote ∧ x.taken (x.s i).id (x.s i).start k' = true) := by
        intro d ud hd s1 hw
        obtain ⟨j, hj, ej, hkj⟩ := hw
        have nij : j ≠ i := fun c => hd ((h.own_f hi ht ud).1 (by rw [← c]; exact ej.symm))
        refine ⟨fun c => nij (g.dis j i k' hj hi hkj c), ?_⟩
        unfold MoI.taken
        rw [Bool.or_eq_true]
        left
        rw [List.any_eq_true]
        refine ⟨j, List.mem_range.2 hj, decide_eq_true ⟨g.wrote_live hj hkj, fun c => nij (g.ids j i hj hi (by rw [c]; exact id0) c), hkj⟩⟩
      have later : laterV k' (x.s i).start (verOf z.F io (k', ⟨b, val, mk, en⟩)) = true → ((k' : Int) ∉ (x.s i).wrote ∧ x.taken (x.s i).id (x.s i).start k' = true) := by
        intro hl
        have l := later_iff.1 hl
        refine ⟨fun c => ?_, by unfold MoI.taken; rw [Bool.or_eq_true]; exact .inr (List.any_eq_true.2 ⟨_, hy, hl⟩)⟩
        by_cases b0 : (verOf z.F io (k', ⟨b, val, mk, en⟩)).bY = 0
        · have f := g.fst i k' hi c _ hy l.1 l.2.1 b0
          rcases l.2.2 with q | q
          · have := q.2; omega
          · omega
        · have f := (vo.by' b0).1
          rcases l.2.2 with q | q
          · exact b0 q.1
          · rw [f] at q; omega
      unfold confV sinceF at hc
      rw [Bool.or_eq_true, Bool.and_eq_true, Bool.and_eq_true] at hc
      rcases hc with ⟨n1, s1⟩ | ⟨n1, s1⟩
      · have n1 : mk ≠ t.f := of_decide_eq_true n1
        simp only [Bool.or_eq_true, Bool.and_eq_true, decide_eq_true_iff] at s1
        rcases s1 with s1 | ⟨s3, lt⟩
        · refine live mk um n1 s1 ?_
          have := (vo.by' (by unfold verOf; simp only; rw [if_neg (by omega)]; exact um.nz)).2.2 (by unfold verOf; simp only; rw [decide_eq_false_iff_not]; omega)
          unfold verOf endO stopO at this
          simp only at this
          rw [if_neg (by omega)] at this
          exact this
        · apply later
          rw [later_iff]
          unfold verOf endO stopO
          simp only
          rw [if_pos s3, if_pos s3]
          exact ⟨by trivial, by rw [decide_eq_false_iff_not]; omega, .inl ⟨by trivial, by rw [ts.start]; exact lt⟩⟩
      · cases en with
        | none => cases s1
        | some d =>
          have ud := h.en _ hp d rfl
          have n1 : d ≠ t.f := fun c => (of_decide_eq_true n1) (by rw [c])
          simp only [Bool.or_eq_true, Bool.and_eq_true, decide_eq_true_iff] at s1
          rcases s1 with s1 | ⟨s3, lt⟩
          · refine live d ud n1 s1 ?_
            have := (vo.en (by unfold verOf endO; simp only; rw [if_pos s1]; exact ud.nz)).2.2
            unfold verOf endO stopO at this
            simp only at this
            rw [if_pos s1] at this
            exact this
          · apply later
            have f1 := ud.fin s3
            have st : (z.F mk).st = 3 := by
              by_cases c3 : (z.F mk).st = 3
              · exact c3
              · have := (vo.by' (by unfold verOf; simp only; rw [if_neg c3]; exact um.nz)).1
                unfold verOf endO stopO at this
                simp only at this
                rw [if_pos s3] at this
                omega
            rw [later_iff]
            unfold verOf endO stopO
            simp only
            rw [if_pos s3]
            exact ⟨by trivial, by rw [decide_eq_false_iff_not]; omega, .inr (by rw [ts.start]; exact lt)⟩
  · rintro ⟨hnw, htk⟩ hnone
    have no : ∀ p ∈ L, p.1 = k → confV z.F t p.2 = false := fun p hp e => by
      have : p.2 ∈ z.k k := by rw [h.k k hk]; exact List.mem_map.2 ⟨p, List.mem_filter.2 ⟨hp, decide_eq_true e⟩, rfl⟩
      have := List.find?_eq_none.1 hnone _ this
      simpa using this
    unfold MoI.taken at htk
    rw [Bool.or_eq_true] at htk
    rcases htk with a | a
    · obtain ⟨j, hj, hd⟩ := List.any_eq_true.1 a
      have hj := List.mem_range.1 hj
      obtain ⟨d1, d2, d3⟩ := of_decide_eq_true hd
      obtain ⟨u, hu⟩ := h.sess hj d1
      have tu := h.ts j u hj hu
      obtain ⟨p, hp, ep, hm⟩ := tu.wr _ d3
      have nf : u.f ≠ t.f := fun c => d2 (by rw [tu.id, ts.id, ← tu.io, ← ts.io, c])
      have := no p hp (by omega)
      unfold confV sinceF at this
      rw [Bool.or_eq_false_iff] at this
      rcases hm with hm | hm
      · have q := this.1
        rw [hm] at q
        simp [nf, tu.st] at q
      · have q := this.2
        rw [hm] at q
        simp [nf, tu.st] at q
    · obtain ⟨y, hy, hl⟩ := List.any_eq_true.1 a
      rw [h.v] at hy
      obtain ⟨p, hp, rfl⟩ := List.mem_map.1 hy
      obtain ⟨l1, l2, l3⟩ := later_iff.1 hl
      have um := h.mu p hp
      obtain ⟨k', b, val, mk, en⟩ := p
      have ek : k' = k := by have : ((k' : Nat) : Int) = k := l1; omega
      have hn := no _ hp ek
      have us := um.st
      have un := um.nz
      unfold confV sinceF at hn
      unfold verOf endO stopO at l2 l3
      rw [ts.start] at l3
      rw [ts.start] at lv
      simp only at hn l2 l3 us un
      rw [Bool.or_eq_false_iff] at hn
      rcases l3 with ⟨b0, lt⟩ | lt
      · have s3 : (z.F mk).st = 3 := by
          by_cases c : (z.F mk).st = 3
          · exact c
          · rw [if_neg c] at b0; exact absurd b0 un
        rw [if_pos s3] at lt
        have nf : mk ≠ t.f := fun c => by rw [c, ts.st] at s3; omega
        have q := hn.1
        simp [nf, s3, lt] at q
      · cases en with
        | none => simp only at lt; omega
        | some d =>
          simp only at lt
          have s3 : (z.F d).st = 3 := by
            by_cases c : (z.F d).st = 3
            · exact c
            · rw [if_neg c] at lt; omega
          rw [if_pos s3] at lt
          have nf : d ≠ t.f := fun c => by rw [c, ts.st] at s3; omega
          have q := hn.2
          simp [nf, s3, lt] at q
/-- What a Collect keeps. -/
theorem LrL.q_garb (h : LrL L io z x) (low : Int) : ∀ p ∈ L, MoI.keepV low (verOf z.F io p) = !garbV z.F low p.2 := by
  intro p hp
  obtain ⟨k', b, val, mk, en⟩ := p
  unfold MoI.keepV garbV byF verOf endO stopO
  cases en with
  | none => simp
  | some d =>
    have ud := h.en _ hp d rfl
    have uf := ud.fin
    by_cases s3 : (z.F d).st = 3
    · have := uf s3
      simp [s3]
      have e : decide ((z.F d).fin = 0) = false := by rw [decide_eq_false_iff_not]; omega
      rw [e]; simp
    · simp [s3]
/-- A session's transaction is another one; its fate is the same. -/
theorem LrL.putS (h : LrL L io z x) (hi : i < 8) (ht : z.s i = some t) (t' : TtI) (x' : TxI) (ef : t'.f = t.f) (ei : t'.id = t.id) (ts : TsO L z.F io t' x') :
    LrL L io { z with s := putT z.s i (some t') } { x with s := Go.Proofs.Ytkkjofefjepodaa.putS x.s i x' } := by
  have us : ∀ g, UsO z.begun z.s z.F io g → UsO z.begun (putT z.s i (some t')) z.F io g := fun g u => by
    refine ⟨u.st, fun c => ?_, u.fin, u.le, fun j v hj hv e => ?_⟩
    · obtain ⟨j, v, hj, hv, e⟩ := u.one c
      by_cases ji : j = i
      · subst ji
        obtain rfl : t = v := by rw [ht] at hv; exact Option.some.inj hv
        exact ⟨j, t', hj, putT_self _ _ _, ef.trans e⟩
      · exact ⟨j, v, hj, (putT_ne _ _ ji).trans hv, e⟩
    · by_cases ji : j = i
      · subst ji
        rw [putT_self] at hv
        obtain rfl : t' = v := Option.some.inj hv
        rw [ef]
        exact u.own j t hj ht (e.trans ei)
      · rw [putT_ne _ _ ji] at hv
        exact u.own j v hj hv e
  refine ⟨h.c1, h.c2, h.c3, h.c4, h.v, h.k, h.lt, h.nd, fun p hp => us _ (h.mu p hp), fun p hp e he => us _ (h.en p hp e he), fun j hj e => ?_, fun j u hj hu => ?_⟩
  · have e : putT z.s i (some t') j = none := e
    by_cases ji : j = i
    · subst ji; rw [show (putT z.s j (some t')) j = some t' from putT_self _ _ _] at e; cases e
    · show Go.Proofs.Ytkkjofefjepodaa.putS x.s i x' j = tx0
      rw [putS_ne _ _ ji]
      rw [show (putT z.s i (some t')) j = z.s j from putT_ne _ _ ji] at e
      exact h.no j hj e
  · have hu : putT z.s i (some t') j = some u := hu
    show TsO L z.F io u (Go.Proofs.Ytkkjofefjepodaa.putS x.s i x' j)
    by_cases ji : j = i
    · subst ji
      rw [show (putT z.s j (some t')) j = some t' from putT_self _ _ _] at hu
      obtain rfl : t' = u := Option.some.inj hu
      rw [putS_self]; exact ts
    · rw [show (putT z.s i (some t')) j = z.s j from putT_ne _ _ ji] at hu
      rw [putS_ne _ _ ji]; exact h.ts j u hj hu
/-- The clock goes on. -/
theorem LrL.tick (h : LrL L io z x) (c : Int) : LrL L io { z with clock := c } { x with time := c } :=
  ⟨h.c1, h.c2, rfl, h.c4, h.v, h.k, h.lt, h.nd, h.mu, h.en, h.no, h.ts⟩
/-- A session's transaction ends: its fate is told, and the session has none more. -/
theorem LrL.fate (h : LrL L io z x) (g : Good x) (hi : i < 8) (ht : z.s i = some t) (ft : FtI) (hf : ft.st = 3 ∨ ft.st = 4) (h1 : ft.st = 3 → 1 ≤ ft.fin) (v' : List VrI) (hv : v' = L.map (verOf (updF z.F t.f ft) io)) :
    LrL L io { z with F := updF z.F t.f ft, s := putT z.s i none } { x with v := v', s := Go.Proofs.Ytkkjofefjepodaa.putS x.s i tx0 } := by
  have ts := h.ts i t hi ht
  have us : ∀ g, UsO z.begun z.s z.F io g → UsO z.begun (putT z.s i none) (updF z.F t.f ft) io g := fun d u => by
    by_cases e : d = t.f
    · subst e
      refine ⟨by rw [updF_self]; omega, fun c => by rw [updF_self] at c; omega, fun c => by rw [updF_self] at c ⊢; exact h1 c, u.le, fun j v hj hv e => ?_⟩
      by_cases ji : j = i
      · subst ji; rw [putT_self] at hv; cases hv
      · rw [putT_ne _ _ ji] at hv; exact u.own j v hj hv e
    · refine ⟨by rw [updF_ne _ _ e]; exact u.st, fun c => ?_, fun c => by rw [updF_ne _ _ e] at c ⊢; exact u.fin c, u.le, fun j v hj hv e => ?_⟩
      · rw [updF_ne _ _ e] at c
        obtain ⟨j, v, hj, hv, e2⟩ := u.one c
        have ji : j ≠ i := fun q => by subst q; rw [ht] at hv; cases hv; exact e e2.symm
        exact ⟨j, v, hj, (putT_ne _ _ ji).trans hv, e2⟩
      · by_cases ji : j = i
        · subst ji; rw [putT_self] at hv; cases hv
        · rw [putT_ne _ _ ji] at hv; exact u.own j v hj hv e
  refine ⟨h.c1, h.c2, h.c3, h.c4, hv, h.k, h.lt, h.nd, fun p hp => us _ (h.mu p hp), fun p hp e he => us _ (h.en p hp e he), fun j hj e => ?_, fun j u hj hu => ?_⟩
  · have e : putT z.s i none j = none := e
    show Go.Proofs.Ytkkjofefjepodaa.putS x.s i tx0 j = tx0
    by_cases ji : j = i
    · subst ji; rw [putS_self]
    · rw [putS_ne _ _ ji]
      rw [show (putT z.s i none) j = z.s j from putT_ne _ _ ji] at e
      exact h.no j hj e
  · have hu : putT z.s i none j = some u := hu
    show TsO L (updF z.F t.f ft) io u (Go.Proofs.Ytkkjofefjepodaa.putS x.s i tx0 j)
    by_cases ji : j = i
    · subst ji; rw [show (putT z.s j none) j = none from putT_self _ _ _] at hu; cases hu
    · rw [show (putT z.s i none) j = z.s j from putT_ne _ _ ji] at hu
      rw [putS_ne _ _ ji]
      have tu := h.ts j u hj hu
      have nf : u.f ≠ t.f := fun c => ji (h.apart g hj hi hu ht c)
      exact ⟨tu.id, tu.nz, tu.level, tu.start, tu.ops, by rw [updF_ne _ _ nf]; exact tu.st, tu.io, tu.wr, tu.ag, tu.an⟩
theorem LrL.gone (h : LrL L io z x) (g : Good x) (hi : i < 8) (ht : z.s i = some t) (e0 : Int) : LrL L io { z with F := updF z.F t.f ⟨4, e0⟩, s := putT z.s i none } (x.over i) := by
  refine h.fate g hi ht ⟨4, e0⟩ (.inr rfl) (fun c => absurd (show (4 : Int) = 3 from c) (by decide)) _ ?_
  rw [h.v, List.map_map]
  refine List.map_congr_left fun p hp => ?_
  have um := h.mu p hp
  have om := h.own_f hi ht um
  have ts := h.ts i t hi ht
  obtain ⟨k', b, val, mk, en⟩ := p
  show goneV (x.s i).id (verOf z.F io (k', ⟨b, val, mk, en⟩)) = verOf _ io (k', ⟨b, val, mk, en⟩)
  have id0 : (x.s i).id ≠ 0 := by rw [ts.id]; exact ts.nz
  unfold goneV verOf
  simp only at om ⊢
  have E : ∀ en : Option Nat, (∀ e, en = some e → UsO z.begun z.s z.F io e) → (if endO z.F io en = (x.s i).id then (0 : Int) else endO z.F io en) = endO (updF z.F t.f ⟨4, e0⟩) io en := by
    intro en he
    (try unfold endO)
    (try unfold stopO)
    cases en with
    | none => simp only; split <;> rfl
    | some e =>
      simp only
      have oe := h.own_f hi ht (he e rfl)
      by_cases c : e = t.f
      · rw [oe.2 c, c, updF_self, ts.st]; simp
      · rw [updF_ne _ _ c]
        have : io e ≠ (x.s i).id := fun q => c (oe.1 q)
        by_cases s1 : (z.F e).st = 1
        · rw [if_pos s1, if_neg this]
        · rw [if_neg s1]; split <;> rfl
  have S : ∀ en : Option Nat, (∀ e, en = some e → UsO z.begun z.s z.F io e) → stopO z.F en = stopO (updF z.F t.f ⟨4, e0⟩) en := by
    intro en he
    (try unfold endO)
    (try unfold stopO)
    cases en with
    | none => rfl
    | some e =>
      simp only
      by_cases c : e = t.f
      · rw [c, updF_self, ts.st]; simp
      · rw [updF_ne _ _ c]
  have he := h.en _ hp
  rw [E en he, ← S en he]
  by_cases c : mk = t.f
  · have s1 : (z.F mk).st = 1 := by rw [c]; exact ts.st
    rw [if_neg (show ¬ (z.F mk).st = 3 by omega), if_neg (show ¬ (z.F mk).st = 3 by omega), om.2 c, c, updF_self]
    simp
  · rw [updF_ne _ _ c]
    by_cases s3 : (z.F mk).st = 3
    · rw [if_pos s3, if_pos s3, if_neg (Ne.symm id0)]
    · rw [if_neg s3, if_neg s3, if_neg (fun q => c (om.1 q))]
theorem LrL.done (h : LrL L io z x) (g : Good x) (hi : i < 8) (ht : z.s i = some t) (fin : Int) (h1 : 1 ≤ fin) : LrL L io { z with F := updF z.F t.f ⟨3, fin⟩, s := putT z.s i none } { x with v := x.v.map (doneV (x.s i).id fin), s := Go.Proofs.Ytkkjofefjepodaa.putS x.s i tx0 } := by
  refine h.fate g hi ht ⟨3, fin⟩ (.inl rfl) (fun c => h1) _ ?_
  rw [h.v, List.map_map]
  refine List.map_congr_left fun p hp => ?_
  have um := h.mu p hp
  have om := h.own_f hi ht um
  have ts := h.ts i t hi ht
  obtain ⟨k', b, val, mk, en⟩ := p
  show doneV (x.s i).id fin (verOf z.F io (k', ⟨b, val, mk, en⟩)) = verOf _ io (k', ⟨b, val, mk, en⟩)
  have id0 : (x.s i).id ≠ 0 := by rw [ts.id]; exact ts.nz
  unfold doneV verOf
  simp only at om ⊢
  have E : ∀ en : Option Nat, (∀ e, en = some e → UsO z.begun z.s z.F io e) → (if endO z.F io en = (x.s i).id then (0 : Int) else endO z.F io en) = endO (updF z.F t.f ⟨3, fin⟩) io en := by
    intro en he
    (try unfold endO)
    (try unfold stopO)
    cases en with
    | none => simp only; split <;> rfl
    | some e =>
      simp only
      have oe := h.own_f hi ht (he e rfl)
      by_cases c : e = t.f
      · rw [oe.2 c, c, updF_self, ts.st]; simp
      · rw [updF_ne _ _ c]
        have : io e ≠ (x.s i).id := fun q => c (oe.1 q)
        by_cases s1 : (z.F e).st = 1
        · rw [if_pos s1, if_neg this]
        · rw [if_neg s1]; split <;> rfl
  have S : ∀ en : Option Nat, (∀ e, en = some e → UsO z.begun z.s z.F io e) → (if endO z.F io en = (x.s i).id then fin else stopO z.F en) = stopO (updF z.F t.f ⟨3, fin⟩) en := by
    intro en he
    (try unfold endO)
    (try unfold stopO)
    cases en with
    | none => simp only; rw [if_neg (Ne.symm id0)]
    | some e =>
      simp only
      have oe := h.own_f hi ht (he e rfl)
      by_cases c : e = t.f
      · rw [oe.2 c, c, updF_self, ts.st]; simp
      · rw [updF_ne _ _ c]
        have : io e ≠ (x.s i).id := fun q => c (oe.1 q)
        by_cases s1 : (z.F e).st = 1
        · rw [if_pos s1, if_neg this]
        · rw [if_neg s1, if_neg (Ne.symm id0)]
  have he := h.en _ hp
  rw [E en he, S en he]
  by_cases c : mk = t.f
  · have s1 : (z.F mk).st = 1 := by rw [c]; exact ts.st
    rw [if_neg (show ¬ (z.F mk).st = 3 by omega), if_neg (show ¬ (z.F mk).st = 3 by omega), om.2 c, c, updF_self, ts.st]
    simp
  · rw [updF_ne _ _ c]
    by_cases s3 : (z.F mk).st = 3
    · rw [if_pos s3, if_pos s3, if_neg (Ne.symm id0), if_neg (Ne.symm id0)]
    · rw [if_neg s3, if_neg s3, if_neg (fun q => c (om.1 q)), if_neg (fun q => c (om.1 q))]
/-- A Collect. -/
theorem LrL.filt (h : LrL L io z x) (low : Int) (hw : ∀ i u, i < 8 → z.s i = some u → ∀ p ∈ L, (p.2.mr = u.f ∨ p.2.en = some u.f) → garbV z.F low p.2 = false) : LrL (L.filter fun p => !garbV z.F low p.2) io { z with k := fun k => (z.k k).filter fun v => !garbV z.F low v } { x with v := x.v.filter (MoI.keepV low) } := by
  have sub : (L.filter fun p => !garbV z.F low p.2).Sublist L := List.filter_sublist
  refine ⟨h.c1, h.c2, h.c3, h.c4, ?_, fun k hk => ?_, fun p hp => h.lt p (sub.subset hp), h.nd.sublist (sub.map _), fun p hp => h.mu p (sub.subset hp), fun p hp => h.en p (sub.subset hp), h.no, fun i u hi hu => ?_⟩
  · show x.v.filter (MoI.keepV low) = _
    rw [h.v, List.filter_map]
    refine congrArg _ (List.filter_congr fun p hp => ?_)
    exact h.q_garb low p hp
  · show (z.k k).filter _ = _
    rw [h.k k hk, List.filter_map, List.filter_filter, List.filter_filter]
    refine congrArg _ (List.filter_congr fun p hp => ?_)
    exact Bool.and_comm _ _
  · have tu := h.ts i u hi hu
    refine ⟨tu.id, tu.nz, tu.level, tu.start, tu.ops, tu.st, tu.io, fun k hk => ?_, tu.ag, tu.an⟩
    obtain ⟨p, hp, e, hm⟩ := tu.wr k hk
    exact ⟨p, List.mem_filter.2 ⟨hp, by rw [hw i u hi hu p hp hm]; rfl⟩, e, hm⟩
/-- A transaction begins. -/
theorem LrL.beg (h : LrL L io z x) (g : Good x) (hi : i < 8) (hn : z.s i = none) (t : TtI) (hid : t.id = z.begun + 1) (ho : t.ops = 0) (ha : ∀ k, t.again k = false) (hf1 : ∀ p ∈ L, p.2.mr ≠ t.f ∧ p.2.en ≠ some t.f) (hf2 : ∀ j u, j < 8 → z.s j = some u → u.f ≠ t.f) (fin : Int) :
    LrL L (fun d => if d = t.f then t.id else io d) { z with clock := t.start, begun := t.id, s := putT z.s i (some t), F := updF z.F t.f ⟨1, fin⟩ } { x with time := t.start, made := t.id, s := Go.Proofs.Ytkkjofefjepodaa.putS x.s i ⟨t.id, t.level, 0, t.start, [], []⟩ } := by
  have mm := g.made
  have c4 := h.c4
  obtain ⟨io', hio⟩ : ∃ io' : Nat → Int, (fun d => if d = t.f then t.id else io d) = io' := ⟨_, rfl⟩
  rw [hio]
  have i1 : io' t.f = t.id := by rw [← hio]; exact if_pos rfl
  have i2 : ∀ d, d ≠ t.f → io' d = io d := fun d hd => by rw [← hio]; exact if_neg hd
  have us : ∀ d, d ≠ t.f → UsO z.begun z.s z.F io d → UsO t.id (putT z.s i (some t)) (updF z.F t.f ⟨1, fin⟩) io' d := fun d nd u => by
    have le := u.le
    refine ⟨by rw [updF_ne _ _ nd]; exact u.st, fun c => ?_, fun c => by rw [updF_ne _ _ nd] at c ⊢; exact u.fin c, by rw [i2 d nd]; omega, fun j v hj hv e => ?_⟩
    · rw [updF_ne _ _ nd] at c
      obtain ⟨j, v, hj, hv, e⟩ := u.one c
      have ji : j ≠ i := fun q => by subst q; rw [hn] at hv; cases hv
      exact ⟨j, v, hj, (putT_ne _ _ ji).trans hv, e⟩
    · rw [i2 d nd] at e
      by_cases ji : j = i
      · subst ji
        rw [putT_self] at hv
        obtain rfl : t = v := Option.some.inj hv
        omega
      · rw [putT_ne _ _ ji] at hv
        exact u.own j v hj hv e
  refine ⟨h.c1, h.c2, rfl, rfl, ?_, h.k, h.lt, h.nd, fun p hp => us _ (hf1 p hp).1 (h.mu p hp), fun p hp e he => us _ (fun c => (hf1 p hp).2 (by rw [he, c])) (h.en p hp e he), fun j hj e => ?_, fun j u hj hu => ?_⟩
  · show x.v = _
    rw [h.v]
    refine List.map_congr_left fun p hp => ?_
    have n1 := (hf1 _ hp).1
    have n2 := (hf1 _ hp).2
    exact (verOf_congr (updF_ne _ _ n1) (i2 _ n1) fun e he => ⟨updF_ne _ _ (fun c => n2 (by rw [he, c])), i2 _ (fun c => n2 (by rw [he, c]))⟩).symm
  · have e : putT z.s i (some t) j = none := e
    by_cases ji : j = i
    · subst ji; rw [show (putT z.s j (some t)) j = some t from putT_self _ _ _] at e; cases e
    · show Go.Proofs.Ytkkjofefjepodaa.putS x.s i _ j = tx0
      rw [putS_ne _ _ ji]
      rw [show (putT z.s i (some t)) j = z.s j from putT_ne _ _ ji] at e
      exact h.no j hj e
  · have hu : putT z.s i (some t) j = some u := hu
    show TsO L (updF z.F t.f ⟨1, fin⟩) io' u (Go.Proofs.Ytkkjofefjepodaa.putS x.s i ⟨t.id, t.level, 0, t.start, [], []⟩ j)
    by_cases ji : j = i
    · subst ji
      rw [show (putT z.s j (some t)) j = some t from putT_self _ _ _] at hu
      obtain rfl : t = u := Option.some.inj hu
      rw [putS_self]
      refine ⟨rfl, by omega, rfl, rfl, ho.symm, by rw [updF_self], i1, (fun k hk => by cases hk), (fun k _ hk => by rw [ha] at hk; cases hk), fun k _ _ hk => ?_⟩
      obtain ⟨r, hr, _⟩ := hk
      cases hr
    · rw [show (putT z.s i (some t)) j = z.s j from putT_ne _ _ ji] at hu
      rw [putS_ne _ _ ji]
      have tu := h.ts j u hj hu
      have nf := hf2 j u hj hu
      exact ⟨tu.id, tu.nz, tu.level, tu.start, tu.ops, by rw [updF_ne _ _ nf]; exact tu.st, by rw [i2 _ nf]; exact tu.io, tu.wr, tu.ag, tu.an⟩
end
end Go.Proofs.Ytkkjofefjepodaa
