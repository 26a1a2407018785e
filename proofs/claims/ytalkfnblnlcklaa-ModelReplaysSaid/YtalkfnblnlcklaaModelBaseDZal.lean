/- Several texts, one behind the other: SmB, SmC, SmD. -/
import Derived.Test.YtalkfnblnlcklaaModelBaseDZak
/- The Deals beside the Model: what holds whatever calls are made (Hold); begun, collected. No dump; no condition. -/
namespace Go.Proofs.Ytalkfnblnlcklaa
set_option linter.unusedVariables false
/-- The lowest begin is low. -/
theorem fold_lowD (f : Nat → TxI) (l : List Nat) (a : Int) : l.foldl (fun a i => if (f i).id ≠ 0 then min a (f i).start else a) a ≤ a ∧ ∀ i ∈ l, (f i).id ≠ 0 → l.foldl (fun a i => if (f i).id ≠ 0 then min a (f i).start else a) a ≤ (f i).start := by
  induction l generalizing a with
  | nil => exact ⟨Int.le_refl _, fun i hi => by cases hi⟩
  | cons j l ih =>
    obtain ⟨p, q⟩ := ih (if (f j).id ≠ 0 then min a (f j).start else a)
    rw [List.foldl_cons]
    refine ⟨Int.le_trans p ?_, fun i hi hl => ?_⟩
    · split
      · omega
      · omega
    · rcases List.mem_cons.1 hi with c | c
      · subst c
        refine Int.le_trans p ?_
        rw [if_pos hl]
        omega
      · exact q i c hl
theorem low_leD (x : MoI) : x.low ≤ x.time ∧ ∀ i, i < 8 → (x.s i).id ≠ 0 → x.low ≤ (x.s i).start := by
 obtain ⟨p, q⟩ := fold_lowD x.s (List.range 8) x.time
 exact ⟨p, fun i hi => q i (List.mem_range.2 hi)⟩
/-- Of a live session s and its Deal d. -/
structure Live (x : MoI) (ds : List DlI) (C : List Nat) (s : Nat) (d : DlI) : Prop where
 own : ∀ key, key ∈ (x.s s).wrote → ∃ r, effK key d.ops = some r ∧ ∀ a, r = some a ↔ ∃ y ∈ x.v, mineV (x.s s).id key y = true ∧ y.val = a
 non : ∀ key, key ∉ (x.s s).wrote → effK key d.ops = none
 hold : holdsGo (viewP ds C (x.s s).start (-1)) d.ops = true
 tch : ∀ c ∈ d.ops, ∀ k, tch c k → k ∈ (x.s s).wrote ∨ ∃ r ∈ (x.s s).reads, r.lo ≤ k ∧ k ≤ r.hi
 fnd : ∀ c ∈ d.ops, c.1.kind = 1 → c.2.e = 0 → c.1.key ∈ (x.s s).wrote ∨ ∃ r ∈ (x.s s).reads, r.found = true ∧ r.lo ≤ c.1.key ∧ c.1.key ≤ r.hi
 has : ∀ key ∈ (x.s s).wrote, ∃ y ∈ x.v, y.key = key ∧ y.dead = false ∧ (y.bY = (x.s s).id ∨ y.ended = (x.s s).id)
 wr2 : ∀ e ∈ ds, e.state = 3 → (x.s s).start < e.stop → ∀ key, effK key e.ops ≠ none → key ∉ (x.s s).wrote ∧ ∃ y ∈ x.v, laterV key (x.s s).start y = true
/-- Of a committed one, k its place. -/
structure Kept (ds : List DlI) (C : List Nat) (k : Nat) (d : DlI) : Prop where
 snap : holdsGo (viewP ds C d.start k) d.ops = true
 ser : d.level = 3 → holdsGo (viewP ds C (d.stop - 1) k) d.ops = true
 rep : d.level = 2 → repGo (viewP ds C (d.stop - 1) k) [] d.ops = true
/-- A time at which somebody looks. -/
def Rel (x : MoI) (t : Int) : Prop := x.time ≤ t ∨ ∃ s, s < 8 ∧ (x.s s).id ≠ 0 ∧ t = (x.s s).start
structure Hold (x : MoI) (ds : List DlI) (C : List Nat) : Prop where
 good : Good x
 al : Al x ds
 ord : Ord ds C
 vw : ∀ t, Rel x t → ∀ key a, findP (viewP ds C t (-1)) key = some a ↔ ∃ y ∈ x.v, thereV key t y = true ∧ y.val = a
 live : ∀ s, s < 8 → (x.s s).id ≠ 0 → ∀ d, ds[((x.s s).id - 1).toNat]? = some d → Live x ds C s d
 com : ∀ k ∈ C, ∀ d, ds[k]? = some d → Kept ds C k d
 two : ∀ (i k : Nat) d e, ds[i]? = some d → ds[k]? = some e → i ≠ k → d.state = 3 → e.state = 3 → d.stop ≤ e.start ∨ e.stop ≤ d.start ∨ ∀ key, effK key d.ops = none ∨ effK key e.ops = none
 lv : ∀ d ∈ ds, 1 ≤ d.level ∧ d.level ≤ 3
section
variable {x : MoI} {ds ds' : List DlI} {C : List Nat} {s : Nat} {d : DlI} {t : Int}
theorem sk_view (ds : List DlI) (C : List Nat) (t but : Int) : Sk (viewP ds C t but) := by
 unfold viewP foldP
 generalize cutC ds C t but = L
 have : ∀ out, Sk out → Sk (L.foldl (fun o i => (opsP ds i).foldl laidP o) out) := by
  induction L with
  | nil => exact fun _ h => h
  | cons a L ih => exact fun out h => ih _ (sk_fold _ h)
 exact this _ List.Pairwise.nil
theorem view_but {k : Nat} (h : k ∉ C) (t : Int) : viewP ds C t k = viewP ds C t (-1) := by
 unfold viewP
 have : cutC ds C t k = cutC ds C t (-1) := by
  unfold cutC
  refine List.filter_congr fun i hi => ?_
  have e1 : decide ((i : Int) ≠ (k : Int)) = true := decide_eq_true (fun e => h ((Int.ofNat.inj e : i = k) ▸ hi))
  have e2 : decide ((i : Int) ≠ -1) = true := decide_eq_true (by omega)
  rw [e1, e2]
 rw [this]
theorem hold_new {slots limit : Int} (h : confI slots limit = true) : Hold (new0 slots limit) [] [] := by
 refine ⟨good_new h, al_new _ _, ord_nil, fun t _ key a => ?_, fun s _ h0 => absurd rfl h0, (fun k hk => by cases hk), (fun i k d e hi => by cases hi), (fun d hd => by cases hd)⟩
 constructor
 ·intro q; cases q
 ·rintro ⟨y, hy, _⟩; cases hy
theorem Hold.time0 (H : Hold x ds C) : 0 ≤ x.time := H.good.time.1
/-- The place of a live session's Deal is not among the committed ones. -/
theorem Hold.off {k : Nat} (H : Hold x ds C) (hd : ds[k]? = some d) (h1 : d.state ≠ 3) : k ∉ C := fun hk => by
 obtain ⟨e, he, h3⟩ := (H.ord.mem k).1 hk
 rw [hd] at he
 cases he
 exact h1 h3
theorem Hold.stop_le (H : Hold x ds C) (hd : d ∈ ds) (h3 : d.state = 3) : d.start < d.stop ∧ d.stop ≤ x.time := by
 rcases H.al.st d hd with c | ⟨_, c⟩ | c
 ·omega
 ·exact c
 ·omega
theorem Hold.start_le (H : Hold x ds C) (hs : s < 8) (h0 : (x.s s).id ≠ 0) : 1 ≤ (x.s s).start ∧ (x.s s).start ≤ x.time := by
 have := (H.good.ses s hs).lv h0
 exact ⟨this.2.2.1, this.2.2.2⟩
/-- What is kept of the committed ones where none comes. -/
theorem kept_congr (h : ∀ i ∈ C, ds[i]? = ds'[i]?) {k : Nat} (hk : Kept ds C k d) : Kept ds' C k d :=
 ⟨by rw [← view_congr h]; exact hk.snap, fun e => by rw [← view_congr h]; exact hk.ser e, fun e => by rw [← view_congr h]; exact hk.rep e⟩
theorem hold_beg (H : Hold x ds C) (k level : Int) : Hold (x.beg k level) (dlBeg x ds k level) C := by
 have G := good_beg H.good k level
 have A := al_beg H.al H.good k level
 by_cases hz : x.begE k level = 0
 ·obtain ⟨s0, s7, l1, l3, hid, hm, ht⟩ := begE_zero hz
  have ed : dlBeg x ds k level = ds ++ [⟨x.begN k level, level, 1, (x.beg k level).time, 0, []⟩] := by unfold dlBeg; rw [if_pos hz]
  have ex : x.beg k level = { x with time := x.time + 1, made := x.made + 1, s := putS x.s k.toNat ⟨x.made + 1, level, 0, x.time + 1, [], []⟩ } := by unfold MoI.beg; rw [if_pos hz]
  obtain ⟨n, hn⟩ : ∃ n, k.toNat = n := ⟨_, rfl⟩
  have en : x.begN k level = x.made + 1 := by unfold MoI.begN; rw [if_pos hz]
  have et : (x.beg k level).time = x.time + 1 := by rw [ex]
  rw [en, et] at ed
  rw [hn] at ex hid
  have n8 : n < 8 := by omega
  obtain ⟨T, eT⟩ : ∃ T : TxI, ⟨x.made + 1, level, 0, x.time + 1, [], []⟩ = T := ⟨_, rfl⟩
  rw [eT] at ex
  have lt : ∀ i ∈ C, i < ds.length := fun i hi => by
   obtain ⟨d, e, _⟩ := (H.ord.mem i).1 hi
   exact (List.getElem?_eq_some_iff.1 e).1
  obtain ⟨D, eD⟩ : ∃ D : DlI, ⟨x.made + 1, level, 1, x.time + 1, 0, []⟩ = D := ⟨_, rfl⟩
  rw [eD] at ed
  have D1 : D.state = 1 ∧ D.ops = [] ∧ D.level = level := by rw [← eD]; exact ⟨rfl, rfl, rfl⟩
  have hC : ∀ i ∈ C, ds[i]? = (ds ++ [D])[i]? := fun i hi => (List.getElem?_append_left (lt i hi)).symm
  have at' : ∀ (i : Nat) d, (ds ++ [D])[i]? = some d → ds[i]? = some d ∨ d = D := fun i d h => by
   rw [List.getElem?_append] at h
   split at h
   ·exact .inl h
   ·refine .inr ?_
    have := List.mem_of_getElem? h
    exact List.mem_singleton.1 this
  have t0 := H.time0
  rw [ed]
  rw [ed] at A
  rw [ex] at G A ⊢
  have Tw : T.wrote = [] ∧ T.id = x.made + 1 ∧ T.start = x.time + 1 ∧ T.reads = [] := by rw [← eT]; exact ⟨rfl, rfl, rfl, rfl⟩
  have ms := H.good.made
  refine ⟨G, A, H.ord.congr hC fun i d hi h3 => ?_, fun t hr key a => ?_, fun s hs h0 d hd => ?_, fun j hj d hd => ?_, fun i j d e hi hj ne h3 h3' => ?_, fun d hd => ?_⟩
  ·rcases at' i d hi with c | c
   ·exact (H.ord.mem i).2 ⟨d, c, h3⟩
   ·rw [c, D1.1] at h3; cases h3
  ·rw [← view_congr hC]
   refine H.vw t ?_ key a
   rcases hr with c | ⟨s, hs, h0, c⟩
   ·have c : x.time + 1 ≤ t := c
    exact .inl (by omega)
   ·have h0 : (putS x.s n T s).id ≠ 0 := h0
    have c : t = (putS x.s n T s).start := c
    by_cases e : s = n
    ·rw [e, putS_self, Tw.2.2.1] at c
     exact .inl (by omega)
    ·rw [putS_ne _ _ e] at h0 c
     exact .inr ⟨s, hs, h0, c⟩
  ·have h0 : (putS x.s n T s).id ≠ 0 := h0
   have hd : (ds ++ [D])[((putS x.s n T s).id - 1).toNat]? = some d := hd
   by_cases e : s = n
   ·have es : ({ x with time := x.time + 1, made := x.made + 1, s := putS x.s n T } : MoI).s s = T := by rw [e]; exact putS_self _ _ _
    have dD : d = D := by
     rw [e, putS_self, Tw.2.1, show (x.made + 1 - 1).toNat = ds.length from by have := H.al.len; omega] at hd
     simp at hd
     exact hd.symm
    subst dD
    refine ⟨fun key hk => ?_, fun key _ => ?_, ?_, fun c hc => ?_, fun c hc => ?_, fun key hk => ?_, fun e he h3 hlt key hk => ?_⟩
    ·rw [es, Tw.1] at hk; cases hk
    ·rw [D1.2.1]; rfl
    ·rw [D1.2.1]; rfl
    ·rw [D1.2.1] at hc; cases hc
    ·rw [D1.2.1] at hc; cases hc
    ·rw [es, Tw.1] at hk; cases hk
    ·rw [es, Tw.2.2.1] at hlt
     rcases List.mem_append.1 he with c | c
     ·have := (H.stop_le c h3).2
      omega
     ·rw [List.mem_singleton.1 c, D1.1] at h3
      cases h3
   ·have es : ({ x with time := x.time + 1, made := x.made + 1, s := putS x.s n T } : MoI).s s = x.s s := putS_ne _ _ e
    rw [putS_ne _ _ e] at h0 hd
    obtain ⟨d1, q1, _⟩ := H.al.ses s hs h0
    have : d = d1 := by
     rw [List.getElem?_append_left (List.getElem?_eq_some_iff.1 q1).1, q1] at hd
     exact (Option.some.inj hd).symm
    subst this
    have L := H.live s hs h0 d q1
    refine ⟨by rw [es]; exact L.own, by rw [es]; exact L.non, by rw [es, ← view_congr hC]; exact L.hold, by rw [es]; exact L.tch, by rw [es]; exact L.fnd, by rw [es]; exact L.has, fun e he h3 hlt key hk => ?_⟩
    rw [es] at hlt ⊢
    rcases List.mem_append.1 he with c | c
    ·exact L.wr2 e c h3 hlt key hk
    ·rw [List.mem_singleton.1 c, D1.1] at h3
     cases h3
  ·rw [← hC j hj] at hd
   exact kept_congr hC (H.com j hj d hd)
  ·rcases at' i d hi with c | c
   ·rcases at' j e hj with c' | c'
    ·exact H.two i j d e c c' ne h3 h3'
    ·rw [c', D1.1] at h3'; cases h3'
   ·rw [c, D1.1] at h3; cases h3
  ·rcases List.mem_append.1 hd with c | c
   ·exact H.lv d c
   ·rw [List.mem_singleton.1 c, D1.2.2]; exact ⟨l1, l3⟩
 ·have e1 : x.beg k level = x := by unfold MoI.beg; rw [if_neg hz]
  have e2 : dlBeg x ds k level = ds := by unfold dlBeg; rw [if_neg hz]
  rw [e1, e2]
  exact H
theorem hold_collect (H : Hold x ds C) : Hold x.collect ds C := by
 have G := good_collect H.good
 obtain ⟨l1, l2⟩ := low_leD x
 have kp : ∀ y ∈ x.v, y ∈ x.collect.v ↔ (y.dead = false ∧ (y.stop = 0 ∨ x.low < y.stop)) := fun y hy => by
  show y ∈ x.v.filter (MoI.keepV x.low) ↔ _
  rw [List.mem_filter]
  unfold MoI.keepV
  constructor
  ·rintro ⟨_, q⟩
   simp at q
   exact ⟨q.1, by omega⟩
  ·rintro ⟨q1, q2⟩
   refine ⟨hy, ?_⟩
   simp
   exact ⟨q1, by omega⟩
 have sub : ∀ y ∈ x.collect.v, y ∈ x.v := fun y hy => (List.mem_filter.1 hy).1
 have rel : ∀ t, Rel x t → x.low ≤ t := fun t hr => by
  rcases hr with c | ⟨s, hs, h0, c⟩
  ·omega
  ·have := l2 s hs h0; omega
 refine ⟨G, al_collect H.al, H.ord, fun t hr key a => ?_, fun s hs h0 d hd => ?_, H.com, H.two, H.lv⟩
 ·rw [H.vw t hr key a]
  have := rel t hr
  constructor
  ·rintro ⟨y, hy, q, e⟩
   obtain ⟨a1, a2, a3, a4, a5⟩ := there_iff.1 q
   exact ⟨y, (kp y hy).2 ⟨a2, by omega⟩, q, e⟩
  ·rintro ⟨y, hy, q⟩
   exact ⟨y, sub y hy, q⟩
 ·have h0 : (x.s s).id ≠ 0 := h0
  have hd : ds[((x.s s).id - 1).toNat]? = some d := hd
  have L := H.live s hs h0 d hd
  have lw := l2 s hs h0
  refine ⟨fun key hk => ?_, L.non, L.hold, L.tch, L.fnd, fun key hk => ?_, fun e he h3 hlt key hk => ?_⟩
  ·obtain ⟨r, hr, q⟩ := L.own key hk
   refine ⟨r, hr, fun a => ?_⟩
   rw [q a]
   constructor
   ·rintro ⟨y, hy, m, e⟩
    obtain ⟨a1, a2, a3, a4⟩ := mine_iff.1 m
    exact ⟨y, (kp y hy).2 ⟨a2, .inl ((H.good.ver y hy).by' (by rw [a4]; exact h0)).1⟩, m, e⟩
   ·rintro ⟨y, hy, m⟩
    exact ⟨y, sub y hy, m⟩
  ·obtain ⟨y, hy, e1, e2, e3⟩ := L.has key hk
   have st : y.stop = 0 := by
    rcases e3 with c | c
    ·exact ((H.good.ver y hy).by' (by rw [c]; exact h0)).1
    ·exact ((H.good.ver y hy).en (by rw [c]; exact h0)).2.1
   exact ⟨y, (kp y hy).2 ⟨e2, .inl st⟩, e1, e2, e3⟩
  ·obtain ⟨nw, y, hy, q⟩ := L.wr2 e he h3 hlt key hk
   refine ⟨nw, y, (kp y hy).2 ?_, q⟩
   have lw : x.low ≤ (x.s s).start := lw
   obtain ⟨a1, a2, a3⟩ := later_iff.1 q
   refine ⟨a2, ?_⟩
   rcases a3 with ⟨b0, c⟩ | c
   ·have c : (x.s s).start < y.start := c
    rcases ((H.good.ver y hy).tm b0).2.2 with q | q
    ·exact .inl q
    ·exact .inr (by omega)
   ·have c : (x.s s).start < y.stop := c
    exact .inr (by omega)
end
end Go.Proofs.Ytalkfnblnlcklaa
/- The Deals beside the Model: one is aborted; one is answered. No dump; no condition. -/
namespace Go.Proofs.Ytalkfnblnlcklaa
set_option linter.unusedVariables false
section
variable {x x' : MoI} {ds ds' : List DlI} {C : List Nat} {s : Nat} {d d0 : DlI} {t now : Int} {o : OpI} {r : ReI}
theorem gone_same {id : Int} {y : VrI} (h1 : y.bY ≠ id) (h2 : y.ended ≠ id) : goneV id y = y := by
 unfold goneV
 rw [if_neg h1, if_neg h2]
theorem gone_there {id key : Int} (h0 : id ≠ 0) (y : VrI) : thereV key t (goneV id y) = thereV key t y := by
 rw [Bool.eq_iff_iff, there_iff, there_iff]
 by_cases c : y.bY = id
 ·constructor
  ·rintro ⟨_, _, b, _⟩
   have b : y.bY = 0 := b
   exact absurd (c.symm.trans b) h0
  ·rintro ⟨_, _, b, _⟩
   exact absurd (c.symm.trans b) h0
 ·have : (goneV id y).dead = y.dead := by show (if y.bY = id then true else y.dead) = _; rw [if_neg c]
  rw [this]
  exact Iff.rfl
/-- What is told of the Deals. -/
theorem told_facts (H : Hold x ds C) (hs : s < 8) (h0 : (x.s s).id ≠ 0) (hd : ds[((x.s s).id - 1).toNat]? = some d0) (hds : ds' = dlTold ds (x.s s).id now o r) :
  d0.state = 1 ∧ (∀ i ∈ C, ds[i]? = ds'[i]?) ∧ (∀ (i : Nat) d, ds'[i]? = some d → (i = ((x.s s).id - 1).toNat ∧ d = toldD now o r d0) ∨ (i ≠ ((x.s s).id - 1).toNat ∧ ds[i]? = some d)) ∧
  (∀ j, j < 8 → (x.s j).id ≠ 0 → j ≠ s → ((x.s j).id - 1).toNat ≠ ((x.s s).id - 1).toNat) ∧ ((x.s s).id - 1).toNat ∉ C ∧ (∀ i, i ≠ ((x.s s).id - 1).toNat → ds[i]? = ds'[i]?) ∧ ds'[((x.s s).id - 1).toNat]? = some (toldD now o r d0) := by
 obtain ⟨d1, q1, q2, _⟩ := H.al.ses s hs h0
 rw [hd] at q1
 cases q1
 have off : ((x.s s).id - 1).toNat ∉ C := H.off hd (by rw [q2]; decide)
 have ne : ∀ i, i ≠ ((x.s s).id - 1).toNat → ds[i]? = ds'[i]? := fun i hi => by
  rw [hds]
  unfold dlTold
  have hi : ¬ ((x.s s).id - 1).toNat = i := fun e => hi e.symm
  rw [List.getElem?_modify]
  cases ds[i]? with
  | none => rfl
  | some a => rw [Option.map_eq_map, Option.map_some, if_neg hi]
 refine ⟨q2, fun i hi => ne i (fun e => off (e ▸ hi)), fun i d h => ?_, fun j hj hj0 hne e => ?_, off, ne, ?_⟩
 ·rw [hds] at h
  obtain ⟨d1, e1, ⟨ei, e2⟩ | ⟨ei, e2⟩⟩ := told_at h
  ·rw [← ei, hd] at e1
   cases e1
   exact .inl ⟨ei.symm, e2⟩
  ·exact .inr ⟨fun c => ei c.symm, by rw [e2]; exact e1⟩
 ·have sj := (H.good.ses j hj).id
  have ss := (H.good.ses s hs).id
  exact hne (H.good.ids j s hj hs hj0 (by omega))
 ·rw [hds, at_told hd, if_pos rfl]
theorem rel_less (ht : x.time ≤ x'.time) (ho : ∀ j, j ≠ s → x'.s j = x.s j) (h1 : (x'.s s).id ≠ 0 → (x.s s).id ≠ 0 ∧ (x'.s s).start = (x.s s).start) (hr : Rel x' t) : Rel x t := by
 rcases hr with c | ⟨j, hj, hj0, c⟩
 ·exact .inl (Int.le_trans ht c)
 ·by_cases e : j = s
  ·subst e
   obtain ⟨p1, p2⟩ := h1 hj0
   exact .inr ⟨j, hj, p1, by rw [c, p2]⟩
  ·rw [ho j e] at hj0 c
   exact .inr ⟨j, hj, hj0, c⟩
theorem hold_gone (H : Hold x ds C) (hs : s < 8) (h0 : (x.s s).id ≠ 0) (G : Good x') (A : Al x' ds') (hx : x'.v = x.v.map (goneV (x.s s).id)) (hss : x'.s = putS x.s s tx0) (ht : x.time ≤ x'.time)
  (hds : ds' = dlTold ds (x.s s).id now o r) (hr : r.over = 4) : Hold x' ds' C := by
 obtain ⟨d0, q0, _, q3, _⟩ := H.al.ses s hs h0
 obtain ⟨f1, f2, f3, f4, f5, f6, f7⟩ := told_facts H hs h0 q0 hds
 have td : toldD now o r d0 = { d0 with state := 4 } := by unfold toldD; rw [if_neg (by omega), if_pos hr]
 obtain ⟨id, eid⟩ : ∃ id, (x.s s).id = id := ⟨_, rfl⟩
 have oth : ∀ j, j ≠ s → x'.s j = x.s j := fun j e => by rw [hss]; exact putS_ne _ _ e
 have me : x'.s s = tx0 := by rw [hss]; exact putS_self _ _ _
 have mem : ∀ y', y' ∈ x'.v ↔ ∃ y ∈ x.v, goneV id y = y' := fun y' => by rw [hx, eid]; exact List.mem_map
 rw [eid] at h0
 refine ⟨G, A, H.ord.congr f2 fun i d hi h3 => ?_, fun t hr' key a => ?_, fun j hj hj0 d hd => ?_, fun j hj d hd => ?_, fun i j d e hi hj ne h3 h3' => ?_, fun d hd => ?_⟩
 ·rcases f3 i d hi with ⟨_, c⟩ | ⟨_, c⟩
  ·rw [c, td] at h3; cases h3
  ·exact (H.ord.mem i).2 ⟨d, c, h3⟩
 ·rw [← view_congr f2, H.vw t (rel_less (s := s) ht oth (fun c => absurd (by rw [me]; rfl) c) hr') key a]
  constructor
  ·rintro ⟨y, hy, q, e⟩
   exact ⟨goneV id y, (mem _).2 ⟨y, hy, rfl⟩, by rw [gone_there h0]; exact q, e⟩
  ·rintro ⟨y', hy', q, e⟩
   obtain ⟨y, hy, rfl⟩ := (mem _).1 hy'
   rw [gone_there h0] at q
   exact ⟨y, hy, q, e⟩
 ·have js : j ≠ s := fun e => by rw [e, me] at hj0; exact hj0 rfl
  have ej := oth j js
  rw [ej] at hj0 hd
  have ne := f4 j hj hj0 js
  have hd : ds[((x.s j).id - 1).toNat]? = some d := by rw [f6 _ ne]; exact hd
  have L := H.live j hj hj0 d hd
  have nid : (x.s j).id ≠ id := fun e => js (H.good.ids j s hj hs hj0 (by rw [e, eid]))
  have same : ∀ y ∈ x.v, y.bY = (x.s j).id ∨ y.ended = (x.s j).id → goneV id y = y := fun y hy c => by
   have o := H.good.ver y hy
   rcases c with c | c
   ·have := (o.by' (by rw [c]; exact hj0)).2.1
    exact gone_same (by rw [c]; exact nid) (by omega)
   ·refine gone_same (fun e => ?_) (by rw [c]; exact nid)
    have := (o.by' (by rw [e]; exact h0)).2.1
    omega
  refine ⟨?_, ?_, ?_, ?_, ?_, ?_, ?_⟩
  ·intro key hk
   rw [ej] at hk ⊢
   obtain ⟨r, hr, q⟩ := L.own key hk
   refine ⟨r, hr, fun a => ?_⟩
   rw [q a]
   constructor
   ·rintro ⟨y, hy, m, e⟩
    have := same y hy (.inl (mine_iff.1 m).2.2.2)
    exact ⟨y, (mem _).2 ⟨y, hy, this⟩, m, e⟩
   ·rintro ⟨y', hy', m, e⟩
    obtain ⟨y, hy, rfl⟩ := (mem _).1 hy'
    have := same y hy (.inl (mine_iff.1 m).2.2.2)
    rw [this] at m e
    exact ⟨y, hy, m, e⟩
  ·rw [ej]; exact L.non
  ·rw [ej, ← view_congr f2]; exact L.hold
  ·rw [ej]; exact L.tch
  ·rw [ej]; exact L.fnd
  ·intro key hk
   rw [ej] at hk ⊢
   obtain ⟨y, hy, e1, e2, e3⟩ := L.has key hk
   exact ⟨y, (mem _).2 ⟨y, hy, same y hy e3⟩, e1, e2, e3⟩
  ·intro e he h3 hlt key hk
   rw [ej] at hlt ⊢
   have he : e ∈ ds := by
    obtain ⟨i, hi⟩ := List.mem_iff_getElem?.1 he
    rcases f3 i e hi with ⟨_, c⟩ | ⟨_, c⟩
    ·rw [c, td] at h3; cases h3
    ·exact List.mem_of_getElem? c
   obtain ⟨n1, y, hy, q⟩ := L.wr2 e he h3 hlt key hk
   refine ⟨n1, goneV id y, (mem _).2 ⟨y, hy, rfl⟩, ?_⟩
   obtain ⟨a1, a2, a3⟩ := later_iff.1 q
   have nb : y.bY ≠ id := fun c => by
    have st := ((H.good.ver y hy).by' (by rw [c]; exact h0)).1
    have := H.start_le hj hj0
    rcases a3 with ⟨b, _⟩ | b
    ·exact h0 (c.symm.trans b)
    ·omega
   refine later_iff.2 ⟨a1, ?_, a3⟩
   show (if y.bY = id then true else y.dead) = false
   rw [if_neg nb]
   exact a2
 ·rw [← f2 j hj] at hd
  exact kept_congr f2 (H.com j hj d hd)
 ·rcases f3 i d hi with ⟨_, c⟩ | ⟨_, c⟩
  ·rw [c, td] at h3; cases h3
  ·rcases f3 j e hj with ⟨_, c'⟩ | ⟨_, c'⟩
   ·rw [c', td] at h3'; cases h3'
   ·exact H.two i j d e c c' ne h3 h3'
 ·obtain ⟨i, hi⟩ := List.mem_iff_getElem?.1 hd
  rcases f3 i d hi with ⟨_, c⟩ | ⟨_, c⟩
  ·rw [c, td]; exact H.lv d0 (List.mem_of_getElem? q0)
  ·exact H.lv d (List.mem_of_getElem? c)
/-- What an answered call of session s leaves of the versions for all others. -/
structure Step (x x' : MoI) (s : Nat) : Prop where
 time : x'.time = x.time
 oth : ∀ j, j ≠ s → x'.s j = x.s j
 id : (x'.s s).id = (x.s s).id
 start : (x'.s s).start = (x.s s).start
 vw : ∀ key t a, (∃ y ∈ x'.v, thereV key t y = true ∧ y.val = a) ↔ ∃ y ∈ x.v, thereV key t y = true ∧ y.val = a
 mine : ∀ id2, id2 ≠ (x.s s).id → id2 ≠ 0 → ∀ key a, (∃ y ∈ x'.v, mineV id2 key y = true ∧ y.val = a) ↔ ∃ y ∈ x.v, mineV id2 key y = true ∧ y.val = a
 has : ∀ id2, id2 ≠ (x.s s).id → id2 ≠ 0 → ∀ y ∈ x.v, y.dead = false → (y.bY = id2 ∨ y.ended = id2) → y ∈ x'.v
 later : ∀ key t, (∃ y ∈ x.v, laterV key t y = true) → ∃ y ∈ x'.v, laterV key t y = true
theorem hold_said (H : Hold x ds C) (hs : s < 8) (h0 : (x.s s).id ≠ 0) (G : Good x') (A : Al x' ds') (S : Step x x' s) (hds : ds' = dlTold ds (x.s s).id now o r) (hr : r.over = 0)
  (hL : ∀ d0, ds[((x.s s).id - 1).toNat]? = some d0 → (∀ e ∈ ds', e.state = 3 → e ∈ ds) → viewP ds' C (x.s s).start (-1) = viewP ds C (x.s s).start (-1) → Live x' ds' C s { d0 with ops := d0.ops ++ [(o, r)] }) : Hold x' ds' C := by
 obtain ⟨d0, q0, _, q3, _⟩ := H.al.ses s hs h0
 obtain ⟨f1, f2, f3, f4, f5, f6, f7⟩ := told_facts H hs h0 q0 hds
 have td : toldD now o r d0 = { d0 with ops := d0.ops ++ [(o, r)] } := by unfold toldD; rw [if_neg (by omega), if_neg (by omega)]
 have com : ∀ e ∈ ds', e.state = 3 → e ∈ ds := fun e he h3 => by
  obtain ⟨i, hi⟩ := List.mem_iff_getElem?.1 he
  rcases f3 i e hi with ⟨_, c⟩ | ⟨_, c⟩
  ·rw [c, td] at h3
   have h3 : d0.state = 3 := h3
   omega
  ·exact List.mem_of_getElem? c
 refine ⟨G, A, H.ord.congr f2 fun i d hi h3 => ?_, fun t hr' key a => ?_, fun j hj hj0 d hd => ?_, fun j hj d hd => ?_, fun i j d e hi hj ne h3 h3' => ?_, fun d hd => ?_⟩
 ·rcases f3 i d hi with ⟨_, c⟩ | ⟨_, c⟩
  ·rw [c, td] at h3
   have h3 : d0.state = 3 := h3
   omega
  ·exact (H.ord.mem i).2 ⟨d, c, h3⟩
 ·rw [← view_congr f2, H.vw t (rel_less (s := s) (Int.le_of_eq S.time.symm) S.oth (fun c => ⟨by rw [← S.id]; exact c, S.start⟩) hr') key a]
  exact (S.vw key t a).symm
 ·by_cases js : j = s
  ·subst js
   rw [S.id] at hd
   rw [f7, td] at hd
   cases hd
   exact hL d0 q0 com (view_congr f2 _ _).symm
  ·have ej := S.oth j js
   rw [ej] at hj0 hd
   have ne := f4 j hj hj0 js
   have hd : ds[((x.s j).id - 1).toNat]? = some d := by rw [f6 _ ne]; exact hd
   have L := H.live j hj hj0 d hd
   have nid : (x.s j).id ≠ (x.s s).id := fun e => js (H.good.ids j s hj hs hj0 e)
   refine ⟨?_, ?_, ?_, ?_, ?_, ?_, ?_⟩
   ·intro key hk
    rw [ej] at hk ⊢
    obtain ⟨r, hr, q⟩ := L.own key hk
    exact ⟨r, hr, fun a => (q a).trans (S.mine _ nid hj0 key a).symm⟩
   ·rw [ej]; exact L.non
   ·rw [ej, ← view_congr f2]; exact L.hold
   ·rw [ej]; exact L.tch
   ·rw [ej]; exact L.fnd
   ·intro key hk
    rw [ej] at hk ⊢
    obtain ⟨y, hy, e1, e2, e3⟩ := L.has key hk
    exact ⟨y, S.has _ nid hj0 y hy e2 e3, e1, e2, e3⟩
   ·intro e he h3 hlt key hk
    rw [ej] at hlt ⊢
    obtain ⟨n1, q⟩ := L.wr2 e (com e he h3) h3 hlt key hk
    exact ⟨n1, S.later _ _ q⟩
 ·rw [← f2 j hj] at hd
  exact kept_congr f2 (H.com j hj d hd)
 ·rcases f3 i d hi with ⟨_, c⟩ | ⟨_, c⟩
  ·rw [c, td] at h3
   have h3 : d0.state = 3 := h3
   omega
  ·rcases f3 j e hj with ⟨_, c'⟩ | ⟨_, c'⟩
   ·rw [c', td] at h3'
    have h3' : d0.state = 3 := h3'
    omega
   ·exact H.two i j d e c c' ne h3 h3'
 ·obtain ⟨i, hi⟩ := List.mem_iff_getElem?.1 hd
  rcases f3 i d hi with ⟨_, c⟩ | ⟨_, c⟩
  ·rw [c, td]; exact H.lv d0 (List.mem_of_getElem? q0)
  ·exact H.lv d (List.mem_of_getElem? c)
/-- What one sees itself is what its Deal's view says. -/
theorem Hold.see (H : Hold x ds C) (hs : s < 8) (h0 : (x.s s).id ≠ 0) (hd : ds[((x.s s).id - 1).toNat]? = some d0) (key : Int) :
  findP (d0.ops.foldl laidP (viewP ds C (x.s s).start (-1))) key = (seesI x.v (x.s s).id (x.s s).start key).map (valI x.v) := by
 have L := H.live s hs h0 d0 hd
 rw [eff_find (sk_view _ _ _ _)]
 by_cases hk : key ∈ (x.s s).wrote
 ·obtain ⟨r, hr, q⟩ := L.own key hk
  rw [hr]
  exact find_ext fun a => (q a).trans (H.good.see_own hs h0 hk).symm
 ·rw [L.non key hk]
  exact find_ext fun a => (H.vw _ (.inr ⟨s, hs, h0, rfl⟩) key a).trans (H.good.see_other hs h0 hk).symm
/-- A call that wrote nothing. -/
theorem live_read (H : Hold x ds C) (hs : s < 8) (h0 : (x.s s).id ≠ 0) (hd : ds[((x.s s).id - 1).toNat]? = some d0) (S : Step x x' s) (hv : x'.v = x.v) (hw : (x'.s s).wrote = (x.s s).wrote) (hrd : ∀ q ∈ (x.s s).reads, q ∈ (x'.s s).reads)
  (hn : writesI (o, r) = false) (hright : rightP (o, r) (d0.ops.foldl laidP (viewP ds C (x.s s).start (-1))) = true)
  (ht : ∀ k, tch (o, r) k → k ∈ (x.s s).wrote ∨ ∃ q ∈ (x'.s s).reads, q.lo ≤ k ∧ k ≤ q.hi) (hf : o.kind = 1 → r.e = 0 → o.key ∈ (x.s s).wrote ∨ ∃ q ∈ (x'.s s).reads, q.found = true ∧ q.lo ≤ o.key ∧ o.key ≤ q.hi)
  (com : ∀ e ∈ ds', e.state = 3 → e ∈ ds) (ev : viewP ds' C (x.s s).start (-1) = viewP ds C (x.s s).start (-1)) : Live x' ds' C s { d0 with ops := d0.ops ++ [(o, r)] } := by
 have L := H.live s hs h0 d0 hd
 have en : ∀ key, effK key (d0.ops ++ [(o, r)]) = effK key d0.ops := fun key => by
  rw [eff_snoc, eff1_not (fun c => by rw [hn] at c; exact absurd c.1 (by simp))]
 refine ⟨?_, ?_, ?_, ?_, ?_, ?_, ?_⟩
 ·intro key hk
  rw [hw] at hk
  rw [S.id, hv, en]
  exact L.own key hk
 ·intro key hk
  rw [hw] at hk
  rw [en]
  exact L.non key hk
 ·rw [S.start, ev]
  show holdsGo _ (d0.ops ++ [(o, r)]) = true
  rw [holds_snoc, L.hold, hright]
  rfl
 ·intro c hc k hk
  rw [hw]
  rcases List.mem_append.1 hc with q | q
  ·exact (L.tch c q k hk).imp id fun ⟨e, he, p⟩ => ⟨e, hrd e he, p⟩
  ·rw [List.mem_singleton.1 q] at hk
   exact ht k hk
 ·intro c hc k1 e0
  rw [hw]
  rcases List.mem_append.1 hc with q | q
  ·exact (L.fnd c q k1 e0).imp id fun ⟨e, he, p⟩ => ⟨e, hrd e he, p⟩
  ·rw [List.mem_singleton.1 q] at k1 e0 ⊢
   exact hf k1 e0
 ·intro key hk
  rw [hw] at hk
  rw [S.id, hv]
  exact L.has key hk
 ·intro e he h3 hlt key hk
  rw [S.start] at hlt ⊢
  rw [hw, hv]
  exact L.wr2 e (com e he h3) h3 hlt key hk
end
end Go.Proofs.Ytalkfnblnlcklaa
/- The Deals beside the Model: a call that reads; a write. No dump; no condition. -/
namespace Go.Proofs.Ytalkfnblnlcklaa
set_option linter.unusedVariables false
section
variable {x x' : MoI} {ds ds' : List DlI} {C : List Nat} {s : Nat} {d d0 : DlI} {t now : Int} {o : OpI} {r : ReI}
theorem step_put (T : TxI) (h1 : T.id = (x.s s).id) (h2 : T.start = (x.s s).start) : Step x { x with s := putS x.s s T } s :=
 ⟨rfl, fun j e => putS_ne _ _ e, by show (putS x.s s T s).id = _; rw [putS_self, h1], by show (putS x.s s T s).start = _; rw [putS_self, h2], fun _ _ _ => Iff.rfl, fun _ _ _ _ _ => Iff.rfl, fun _ _ _ y hy _ _ => hy, fun _ _ h => h⟩
theorem hold_read (H : Hold x ds C) (hs : s < 8) (h0 : (x.s s).id ≠ 0) (T : TxI) (h1 : T.id = (x.s s).id) (h2 : T.start = (x.s s).start) (h3 : T.wrote = (x.s s).wrote) (h4 : ∀ q ∈ (x.s s).reads, q ∈ T.reads)
  (G : Good { x with s := putS x.s s T }) (A : Al { x with s := putS x.s s T } ds') (hds : ds' = dlTold ds (x.s s).id now o r) (hr : r.over = 0) (hn : writesI (o, r) = false)
  (hright : ∀ U : List (Int × Int), Sk U → (∀ k, findP U k = (seesI x.v (x.s s).id (x.s s).start k).map (valI x.v)) → rightP (o, r) U = true)
  (ht : ∀ k, tch (o, r) k → k ∈ (x.s s).wrote ∨ ∃ q ∈ T.reads, q.lo ≤ k ∧ k ≤ q.hi) (hf : o.kind = 1 → r.e = 0 → o.key ∈ (x.s s).wrote ∨ ∃ q ∈ T.reads, q.found = true ∧ q.lo ≤ o.key ∧ o.key ≤ q.hi) :
  Hold { x with s := putS x.s s T } ds' C := by
 have S := step_put (x := x) (s := s) T h1 h2
 have es : ({ x with s := putS x.s s T } : MoI).s s = T := putS_self _ _ _
 refine hold_said H hs h0 G A S hds hr fun d0 q0 com ev => live_read H hs h0 q0 S rfl (by rw [es]; exact h3) (by rw [es]; exact h4) hn ?_ (by rw [es]; exact ht) (by rw [es]; exact hf) com ev
 exact hright _ (sk_fold _ (sk_view _ _ _ _)) (H.see hs h0 q0)
/-- What a Get tells. -/
def getR (v : List VrI) : Option Nat → ReI
 | some i => ⟨0, valI v i, [], 0, 0⟩
 | none => ⟨11, 0, [], 0, 0⟩
/-- Get. -/
theorem hold_get (H : Hold x ds C) (hs : s < 8) (h0 : (x.s s).id ≠ 0) (hk : o.kind = 1) (G : Good ((x.count s).get s o).2) (A : Al ((x.count s).get s o).2 ds') (hds : ds' = dlTold ds (x.s s).id now o ((x.count s).get s o).1) : Hold ((x.count s).get s o).2 ds' C := by
  obtain ⟨a, ha⟩ : ∃ a, seesI x.v (x.s s).id (x.s s).start o.key = a := ⟨_, rfl⟩
  have ca := count_at x s
  have e1 : (x.count s).get s o = (getR x.v a, if o.key ∈ (x.s s).wrote then x.count s else (x.count s).keepR s ⟨o.key, o.key, decide (a ≠ none), false⟩) := by
    unfold MoI.get
    simp only [ca]
    rw [show (x.count s).v = x.v from rfl, ha]
    cases a <;> rfl
  rw [e1] at G A hds ⊢
  dsimp only at G A hds ⊢
  obtain ⟨r, hr⟩ : ∃ r : ReI, getR x.v a = r := ⟨_, rfl⟩
  rw [hr] at hds
  have r0 : r.over = 0 := by rw [← hr]; cases a <;> rfl
  have rn : writesI (o, r) = false := by
    cases c : writesI (o, r) with
    | false => rfl
    | true =>
      have q : o.kind = 2 ∨ o.kind = 3 ∨ o.kind = 4 := (writes_iff.1 c).2
      omega
  have rr : ∀ U : List (Int × Int), Sk U → (∀ k, findP U k = (seesI x.v (x.s s).id (x.s s).start k).map (valI x.v)) → rightP (o, r) U = true := fun U _ hU => by
    unfold rightP
    have := hU o.key
    rw [ha] at this
    simp only [hk, this]
    cases a with
    | none => rw [← hr]; simp [getR]
    | some i => rw [← hr]; simp [getR]
  have rt : ∀ k, tch (o, r) k → k = o.key := fun k ht => by
    rcases ht with ⟨c, _⟩ | ⟨_, c⟩
    · have c : o.kind = 5 := c; omega
    · exact c
  have rf : r.e = 0 → a ≠ none := fun e c => by subst c; rw [← hr] at e; cases e
  by_cases hw : o.key ∈ (x.s s).wrote
  · rw [if_pos hw] at G A ⊢
    exact hold_read H hs h0 _ rfl rfl rfl (fun _ h => h) G A hds r0 rn rr (fun k ht => .inl (rt k ht ▸ hw)) (fun _ _ => .inl hw)
  · rw [if_neg hw, count_keepR] at G A ⊢
    exact hold_read H hs h0 _ rfl rfl rfl (fun _ h => List.mem_append_left _ h) G A hds r0 rn rr (fun k ht => .inr ⟨_, List.mem_append_right _ (List.mem_singleton.2 rfl), by rw [rt k ht]; exact ⟨Int.le_refl _, Int.le_refl _⟩⟩) (fun _ e => .inr ⟨_, List.mem_append_right _ (List.mem_singleton.2 rfl), decide_eq_true (rf e), Int.le_refl _, Int.le_refl _⟩)
/-- Scan. -/
theorem hold_scan (H : Hold x ds C) (hs : s < 8) (h0 : (x.s s).id ≠ 0) (hk : o.kind = 5) (G : Good ((x.count s).scan s o).2) (A : Al ((x.count s).scan s o).2 ds') (hds : ds' = dlTold ds (x.s s).id now o ((x.count s).scan s o).1) : Hold ((x.count s).scan s o).2 ds' C := by
  have ca := count_at x s
  have e1 : (x.count s).scan s o = (⟨0, 0, scanI x.v (x.s s).id (x.s s).start o.key o.hi, 0, 0⟩, (x.count s).keepR s ⟨o.key, o.hi, false, true⟩) := by
    unfold MoI.scan
    simp only [ca]
    rfl
  rw [e1, count_keepR] at G A ⊢
  rw [e1] at hds
  dsimp only at G A hds ⊢
  refine hold_read H hs h0 _ rfl rfl rfl (fun _ h => List.mem_append_left _ h) G A hds rfl ?_ ?_ (fun k ht => ?_) (fun c => ?_)
  · cases c : writesI (o, (⟨0, 0, scanI x.v (x.s s).id (x.s s).start o.key o.hi, 0, 0⟩ : ReI)) with
    | false => rfl
    | true =>
      have q : o.kind = 2 ∨ o.kind = 3 ∨ o.kind = 4 := (writes_iff.1 c).2
      omega
  · intro U hU hf
    have e : scanI x.v (x.s s).id (x.s s).start o.key o.hi = U.filter (inR o.key o.hi) := by
      refine sk_ext (scan_sk _ _ _ _ _) (hU.filter _) fun p => ?_
      obtain ⟨k, a⟩ := p
      rw [mem_scan, List.mem_filter, ← find_mem hU, hf]
      unfold inR
      simp [and_comm]
    unfold rightP
    simp [hk, e]
  · rcases ht with ⟨_, c1, c2⟩ | ⟨c, _⟩
    · exact .inr ⟨_, List.mem_append_right _ (List.mem_singleton.2 rfl), c1, c2⟩
    · exact absurd hk c
  · omega
/-- What a write that goes through makes of a version that is there. -/
def Rl (id key : Int) (y y' : VrI) : Prop := y' = y ∨ (y.key = key ∧ y.dead = false ∧ ((y.bY = 0 ∧ y.ended = 0 ∧ y' = { y with ended := id }) ∨ (y.bY = id ∧ ∃ e v, (e = 0 ∨ e = id) ∧ y' = { y with ended := e, val := v })))
structure Wd (x : MoI) (s : Nat) (o : OpI) (v' : List VrI) : Prop where
 fwd : ∀ y ∈ x.v, ∃ y' ∈ v', Rl (x.s s).id o.key y y'
 bwd : ∀ y' ∈ v', (∃ y ∈ x.v, Rl (x.s s).id o.key y y') ∨ y' = newV o.key o.val (x.s s).id
 own : ∀ y' ∈ v', mineV (x.s s).id o.key y' = true → o.kind ≠ 4 ∧ y'.val = o.val
 put : o.kind ≠ 4 → ∃ y' ∈ v', mineV (x.s s).id o.key y' = true
 has : ∃ y ∈ v', y.key = o.key ∧ y.dead = false ∧ (y.bY = (x.s s).id ∨ y.ended = (x.s s).id)
theorem Rl.core {id key : Int} {y y' : VrI} (h : Rl id key y y') : y'.key = y.key ∧ y'.dead = y.dead ∧ y'.bY = y.bY ∧ y'.start = y.start ∧ y'.stop = y.stop ∧ (y.bY ≠ id → y'.val = y.val) := by
 rcases h with rfl | ⟨_, _, ⟨_, _, rfl⟩ | ⟨b, _, _, _, rfl⟩⟩
 ·exact ⟨rfl, rfl, rfl, rfl, rfl, fun _ => rfl⟩
 ·exact ⟨rfl, rfl, rfl, rfl, rfl, fun _ => rfl⟩
 ·exact ⟨rfl, rfl, rfl, rfl, rfl, fun c => absurd b c⟩
theorem wd_own (h : Good x) (hs : s < 8) (h0 : (x.s s).id ≠ 0) (hok : o.kind = 2 ∨ o.kind = 3 ∨ o.kind = 4) {j : Nat} (hj : x.v.findIdx? (ownV (x.s s).id o.key) = some j) :
  Wd x s o (if o.kind = 4 then setV x.v j fun y => { y with ended := (x.s s).id } else setV x.v j fun y => { y with ended := 0, val := o.val }) := by
 obtain ⟨hl, hp, _⟩ := List.findIdx?_eq_some_iff_getElem.1 hj
 obtain ⟨y0, hy0⟩ : ∃ y0, x.v[j]? = some y0 := ⟨_, List.getElem?_eq_getElem hl⟩
 have e0 : x.v[j] = y0 := by rw [List.getElem?_eq_getElem hl] at hy0; exact Option.some.inj hy0
 rw [e0] at hp
 obtain ⟨a1, a2, a3⟩ := own_iff.1 hp
 obtain ⟨f, hf⟩ : ∃ f : VrI → VrI, (if o.kind = 4 then (fun y : VrI => { y with ended := (x.s s).id }) else fun y => { y with ended := 0, val := o.val }) = f := ⟨_, rfl⟩
 have ev : (if o.kind = 4 then setV x.v j fun y => { y with ended := (x.s s).id } else setV x.v j fun y => { y with ended := 0, val := o.val }) = x.v.modify j f := by
  rw [← hf]
  split <;> rfl
 rw [ev]
 have rl : Rl (x.s s).id o.key y0 (f y0) := by
  refine .inr ⟨a1, a3, .inr ⟨a2, ?_⟩⟩
  rw [← hf]
  split
  ·exact ⟨(x.s s).id, y0.val, .inr rfl, rfl⟩
  ·exact ⟨0, o.val, .inl rfl, rfl⟩
 have new : f y0 ∈ x.v.modify j f := List.mem_iff_getElem?.2 ⟨j, by rw [List.getElem?_modify, hy0]; simp⟩
 have one : ∀ y' ∈ x.v.modify j f, y'.key = o.key → y'.bY = (x.s s).id → y'.dead = false → y' = f y0 := fun y' hy' k b d => by
  rcases mem_modify hy' with ⟨i, ne, hi⟩ | ⟨a, ha, e⟩
  ·exact absurd (a2.trans b.symm) ((apart_at h.two hy0 hi (fun e => ne e.symm) (a1.trans k.symm) a3 d).2 (by rw [a2]; exact h0))
  ·rw [hy0] at ha
   cases ha
   exact e
 refine ⟨fun y hy => ?_, fun y' hy' => ?_, fun y' hy' m => ?_, fun h4 => ?_, ?_⟩
 ·obtain ⟨i, hi⟩ := List.mem_iff_getElem?.1 hy
  by_cases e : i = j
  ·subst e
   rw [hy0] at hi
   cases hi
   exact ⟨_, new, rl⟩
  ·exact ⟨y, List.mem_iff_getElem?.2 ⟨i, by rw [List.getElem?_modify, hi, Option.map_eq_map, Option.map_some, if_neg (fun c : j = i => e c.symm)]⟩, .inl rfl⟩
 ·left
  rcases mem_modify hy' with ⟨i, _, hi⟩ | ⟨a, ha, e⟩
  ·exact ⟨y', List.mem_of_getElem? hi, .inl rfl⟩
  ·rw [hy0] at ha
   cases ha
   exact ⟨y0, List.mem_of_getElem? hy0, by rw [e]; exact rl⟩
 ·obtain ⟨m1, m2, m3, m4⟩ := mine_iff.1 m
  have e := one y' hy' m1 m4 m2
  rw [← hf] at e
  by_cases h4 : o.kind = 4
  ·rw [if_pos h4] at e
   rw [e] at m3
   exact absurd rfl m3
  ·rw [if_neg h4] at e
   exact ⟨h4, by rw [e]⟩
 ·refine ⟨_, new, ?_⟩
  rw [← hf, if_neg h4]
  exact mine_iff.2 ⟨a1, a3, fun e => h0 e.symm, a2⟩
 ·refine ⟨_, new, ?_⟩
  obtain ⟨c1, c2, c3, _⟩ := rl.core
  exact ⟨c1.trans a1, c2.trans a3, .inl (c3.trans a2)⟩
theorem wd_new (h : Good x) (hs : s < 8) (h0 : (x.s s).id ≠ 0) (hok : o.kind = 2 ∨ o.kind = 3 ∨ o.kind = 4) (hj : x.v.findIdx? (ownV (x.s s).id o.key) = none) {a : Option Nat} (ha : seesI x.v (x.s s).id (x.s s).start o.key = a) (h4 : o.kind = 4 → a ≠ none)
    (ht : o.key ∈ (x.s s).wrote ∨ x.taken (x.s s).id (x.s s).start o.key = false) :
    Wd x s o (MoI.wroteV x.v (x.s s).id o a none) := by
  have no : ∀ y ∈ x.v, ¬ (y.key = o.key ∧ y.bY = (x.s s).id ∧ y.dead = false) := fun y hy c => by
    have := List.findIdx?_eq_none_iff.1 hj y hy
    rw [own_iff.2 c] at this
    cases this
  have mn : newV o.key o.val (x.s s).id = newV o.key o.val (x.s s).id ∧ mineV (x.s s).id o.key (newV o.key o.val (x.s s).id) = true := ⟨rfl, mine_iff.2 ⟨rfl, rfl, fun e => h0 e.symm, rfl⟩⟩
  cases a with
  | none =>
    have k4 : o.kind ≠ 4 := fun e => h4 e rfl
    have ev : MoI.wroteV x.v (x.s s).id o none none = x.v ++ [newV o.key o.val (x.s s).id] := by
      unfold MoI.wroteV
      simp only
      rw [if_neg k4]
      rfl
    rw [ev]
    refine ⟨fun y hy => ⟨y, List.mem_append_left _ hy, .inl rfl⟩, fun y' hy' => ?_, fun y' hy' m => ?_, fun _ => ⟨_, List.mem_append_right _ (List.mem_singleton.2 rfl), mn.2⟩, ⟨_, List.mem_append_right _ (List.mem_singleton.2 rfl), rfl, rfl, .inl rfl⟩⟩
    · rcases List.mem_append.1 hy' with q | q
      · exact .inl ⟨y', q, .inl rfl⟩
      · exact .inr (List.mem_singleton.1 q)
    · rcases List.mem_append.1 hy' with q | q
      · obtain ⟨m1, m2, m3, m4⟩ := mine_iff.1 m
        exact absurd ⟨m1, m4, m2⟩ (no y' q)
      · rw [List.mem_singleton.1 q]
        exact ⟨k4, rfl⟩
  | some i =>
    have hk : o.key ∉ (x.s s).wrote := fun c => by
      have := h.own_seen hs h0 c ha
      rw [hj] at this
      cases this
    obtain ⟨y0, hy0, he⟩ := h.seen_at hs h0 hk ha
    obtain ⟨a1, a2, a3, a4, a5, a6⟩ := elder_iff.1 he
    have fr := (h.free hs h0 hk (ht.resolve_left hk)).2 y0 (List.mem_of_getElem? hy0) a1 a2
    have rl : Rl (x.s s).id o.key y0 { y0 with ended := (x.s s).id } := .inr ⟨a1, a2, .inl ⟨a4, fr.2.1, rfl⟩⟩
    rw [wroteV_end]
    have new : ({ y0 with ended := (x.s s).id } : VrI) ∈ setV x.v i fun y => { y with ended := (x.s s).id } := List.mem_iff_getElem?.2 ⟨i, by unfold setV; rw [List.getElem?_modify, hy0]; simp⟩
    have bw : ∀ y' ∈ setV x.v i (fun y => { y with ended := (x.s s).id }), ∃ y ∈ x.v, Rl (x.s s).id o.key y y' := fun y' hy' => by
      rcases mem_modify hy' with ⟨j, _, hj⟩ | ⟨a, ha, e⟩
      · exact ⟨y', List.mem_of_getElem? hj, .inl rfl⟩
      · rw [hy0] at ha
        cases ha
        exact ⟨y0, List.mem_of_getElem? hy0, by rw [e]; exact rl⟩
    have nl : ∀ y', y' ∈ (if o.kind = 4 then [] else [newV o.key o.val (x.s s).id]) → o.kind ≠ 4 ∧ y' = newV o.key o.val (x.s s).id := fun y' q => by
      by_cases k4 : o.kind = 4
      · rw [if_pos k4] at q; cases q
      · rw [if_neg k4] at q; exact ⟨k4, List.mem_singleton.1 q⟩
    refine ⟨fun y hy => ?_, fun y' hy' => ?_, fun y' hy' m => ?_, fun k4 => ⟨_, List.mem_append_right _ (by rw [if_neg k4]; exact List.mem_singleton.2 rfl), mn.2⟩, ⟨_, List.mem_append_left _ new, a1, a2, .inr rfl⟩⟩
    · obtain ⟨j, hj⟩ := List.mem_iff_getElem?.1 hy
      by_cases e : j = i
      · subst e
        rw [hy0] at hj
        cases hj
        exact ⟨_, List.mem_append_left _ new, rl⟩
      · exact ⟨y, List.mem_append_left _ (List.mem_iff_getElem?.2 ⟨j, by unfold setV; rw [List.getElem?_modify, hj, Option.map_eq_map, Option.map_some, if_neg (fun c : i = j => e c.symm)]⟩), .inl rfl⟩
    · rcases List.mem_append.1 hy' with q | q
      · exact .inl (bw y' q)
      · exact .inr (nl y' q).2
    · rcases List.mem_append.1 hy' with q | q
      · obtain ⟨y, hy, rl'⟩ := bw y' q
        obtain ⟨c1, c2, c3, _⟩ := rl'.core
        obtain ⟨m1, m2, m3, m4⟩ := mine_iff.1 m
        exact absurd ⟨c1.symm.trans m1, c3.symm.trans m4, c2.symm.trans m2⟩ (no y hy)
      · rw [(nl y' q).2]
        exact ⟨(nl y' q).1, rfl⟩
/-- A write that goes through. -/
theorem hold_wrote (H : Hold x ds C) (hs : s < 8) (h0 : (x.s s).id ≠ 0) (hok : o.kind = 2 ∨ o.kind = 3 ∨ o.kind = 4) {v' : List VrI} (W : Wd x s o v') (ht : o.key ∈ (x.s s).wrote ∨ x.taken (x.s s).id (x.s s).start o.key = false)
  (hseen : ∀ U : List (Int × Int), (∀ k, findP U k = (seesI x.v (x.s s).id (x.s s).start k).map (valI x.v)) → rightP (o, re0) U = true)
  (G : Good { x with s := putS x.s s (wroteT (x.s s) o.key), v := v' }) (A : Al { x with s := putS x.s s (wroteT (x.s s) o.key), v := v' } ds') (hds : ds' = dlTold ds (x.s s).id now o re0) :
  Hold { x with s := putS x.s s (wroteT (x.s s) o.key), v := v' } ds' C := by
 have es : ({ x with s := putS x.s s (wroteT (x.s s) o.key), v := v' } : MoI).s s = wroteT (x.s s) o.key := putS_self _ _ _
 have S : Step x { x with s := putS x.s s (wroteT (x.s s) o.key), v := v' } s := by
  refine ⟨rfl, fun j e => putS_ne _ _ e, by rw [es]; rfl, by rw [es]; rfl, fun key t a => ?_, fun id2 hne hn0 key a => ?_, fun id2 hne hn0 y hy hd hb => ?_, fun key t => ?_⟩
  ·constructor
   ·rintro ⟨y', hy', q, e⟩
    obtain ⟨a1, a2, a3, a4, a5⟩ := there_iff.1 q
    rcases W.bwd y' hy' with ⟨y, hy, rl⟩ | c
    ·obtain ⟨c1, c2, c3, c4, c5, c6⟩ := rl.core
     refine ⟨y, hy, there_iff.2 ⟨by rw [← c1]; exact a1, by rw [← c2]; exact a2, by rw [← c3]; exact a3, by rw [← c4]; exact a4, by rw [← c5]; exact a5⟩, ?_⟩
     rw [← c6 (by rw [← c3, a3]; exact fun e => h0 e.symm)]
     exact e
    ·rw [c] at a3
     exact absurd a3 h0
   ·rintro ⟨y, hy, q, e⟩
    obtain ⟨a1, a2, a3, a4, a5⟩ := there_iff.1 q
    obtain ⟨y', hy', rl⟩ := W.fwd y hy
    obtain ⟨c1, c2, c3, c4, c5, c6⟩ := rl.core
    refine ⟨y', hy', there_iff.2 ⟨by rw [c1]; exact a1, by rw [c2]; exact a2, by rw [c3]; exact a3, by rw [c4]; exact a4, by rw [c5]; exact a5⟩, ?_⟩
    rw [c6 (by rw [a3]; exact fun e => h0 e.symm)]
    exact e
  ·have same : ∀ y y', Rl (x.s s).id o.key y y' → y.bY = id2 → y' = y := fun y y' rl b => by
    rcases rl with c | ⟨_, _, ⟨c, _⟩ | ⟨c, _⟩⟩
    ·exact c
    ·exact absurd (b.symm.trans c) hn0
    ·exact absurd (b.symm.trans c) hne
   constructor
   ·rintro ⟨y', hy', q, e⟩
    obtain ⟨a1, a2, a3, a4⟩ := mine_iff.1 q
    rcases W.bwd y' hy' with ⟨y, hy, rl⟩ | c
    ·obtain rfl := same y y' rl (by rw [← rl.core.2.2.1]; exact a4)
     exact ⟨y', hy, q, e⟩
    ·rw [c] at a4
     exact absurd a4.symm hne
   ·rintro ⟨y, hy, q, e⟩
    obtain ⟨y', hy', rl⟩ := W.fwd y hy
    obtain rfl := same y y' rl (mine_iff.1 q).2.2.2
    exact ⟨y', hy', q, e⟩
  ·obtain ⟨y', hy', rl⟩ := W.fwd y hy
   have : y' = y := by
    rcases rl with c | ⟨_, _, ⟨c1, c2, _⟩ | ⟨c, _⟩⟩
    ·exact c
    ·rcases hb with b | b
     ·exact absurd (b.symm.trans c1) hn0
     ·exact absurd (b.symm.trans c2) hn0
    ·rcases hb with b | b
     ·exact absurd (b.symm.trans c) hne
     ·have := ((H.good.ver y hy).by' (by rw [c]; exact h0)).2.1
      omega
   rw [← this]
   exact hy'
  ·rintro ⟨y, hy, q⟩
   obtain ⟨a1, a2, a3⟩ := later_iff.1 q
   obtain ⟨y', hy', rl⟩ := W.fwd y hy
   obtain ⟨c1, c2, c3, c4, c5, c6⟩ := rl.core
   exact ⟨y', hy', later_iff.2 ⟨by rw [c1]; exact a1, by rw [c2]; exact a2, by rw [c3, c4, c5]; exact a3⟩⟩
 have wm := fun k => wroteT_mem (x.s s) o.key k
 refine hold_said H hs h0 G A S hds rfl fun d0 q0 com ev => ?_
 have L := H.live s hs h0 d0 q0
 have ws : writesI (o, re0) = true := writes_iff.2 ⟨rfl, hok⟩
 have en : ∀ key, key ≠ o.key → effK key (d0.ops ++ [(o, re0)]) = effK key d0.ops := fun key hk => by rw [eff_snoc, eff1_not (fun c => hk c.2)]
 have ek : effK o.key (d0.ops ++ [(o, re0)]) = if o.kind = 4 then some none else some (some o.val) := by
  rw [eff_snoc]
  unfold eff1
  by_cases h4 : o.kind = 4
  ·rw [if_neg (fun t => by have t : o.kind = 2 ∨ o.kind = 3 := t.2.2; omega), if_pos ⟨rfl, rfl, h4⟩, if_pos h4]
  ·rw [if_pos ⟨rfl, rfl, by show o.kind = 2 ∨ o.kind = 3; omega⟩, if_neg h4]
 have mo : ∀ key, key ≠ o.key → ∀ a, (∃ y ∈ v', mineV (x.s s).id key y = true ∧ y.val = a) ↔ ∃ y ∈ x.v, mineV (x.s s).id key y = true ∧ y.val = a := fun key hne a => by
  constructor
  ·rintro ⟨y', hy', q, e⟩
   rcases W.bwd y' hy' with ⟨y, hy, rl⟩ | c
   ·have : y' = y := by
     have c1 := rl.core.1
     rcases rl with c | ⟨c, _⟩
     ·exact c
     ·exact absurd ((mine_iff.1 q).1.symm.trans (c1.trans c)) hne
    subst this
    exact ⟨y', hy, q, e⟩
   ·have := (mine_iff.1 q).1
    rw [c] at this
    exact absurd this.symm hne
  ·rintro ⟨y, hy, q, e⟩
   obtain ⟨y', hy', rl⟩ := W.fwd y hy
   have : y' = y := by
    rcases rl with c | ⟨c, _⟩
    ·exact c
    ·exact absurd ((mine_iff.1 q).1.symm.trans c) hne
   subst this
   exact ⟨y', hy', q, e⟩
 refine ⟨?_, ?_, ?_, ?_, ?_, ?_, ?_⟩
 ·intro key hk
  rw [es] at hk ⊢
  show ∃ r, effK key (d0.ops ++ [(o, re0)]) = some r ∧ ∀ a, r = some a ↔ ∃ y ∈ v', mineV (x.s s).id key y = true ∧ y.val = a
  by_cases e : key = o.key
  ·subst e
   rw [ek]
   by_cases h4 : o.kind = 4
   ·rw [if_pos h4]
    refine ⟨none, rfl, fun a => ⟨(fun c => by cases c), ?_⟩⟩
    rintro ⟨y, hy, q, _⟩
    exact absurd h4 (W.own y hy q).1
   ·rw [if_neg h4]
    refine ⟨some o.val, rfl, fun a => ⟨fun c => ?_, ?_⟩⟩
    ·cases c
     obtain ⟨y, hy, q⟩ := W.put h4
     exact ⟨y, hy, q, (W.own y hy q).2⟩
    ·rintro ⟨y, hy, q, e⟩
     rw [← e, (W.own y hy q).2]
  ·rw [en key e]
   obtain ⟨r, hr, q⟩ := L.own key (((wm key).1 hk).resolve_right e)
   exact ⟨r, hr, fun a => (q a).trans (mo key e a).symm⟩
 ·intro key hk
  rw [es] at hk
  have := fun c => hk ((wm key).2 c)
  show effK key (d0.ops ++ [(o, re0)]) = none
  rw [en key (fun c => this (.inr c))]
  exact L.non key (fun c => this (.inl c))
 ·rw [S.start, ev]
  show holdsGo _ (d0.ops ++ [(o, re0)]) = true
  rw [holds_snoc, L.hold, hseen _ (H.see hs h0 q0)]
  rfl
 ·intro c hc k hk
  rw [es]
  rcases List.mem_append.1 hc with q | q
  ·exact (L.tch c q k hk).imp (fun h => (wm k).2 (.inl h)) id
  ·rw [List.mem_singleton.1 q] at hk
   left
   rcases hk with ⟨c5, _⟩ | ⟨_, c⟩
   ·have c5 : o.kind = 5 := c5
    omega
   ·exact (wm k).2 (.inr c)
 ·intro c hc k1 e0
  rw [es]
  rcases List.mem_append.1 hc with q | q
  ·exact (L.fnd c q k1 e0).imp (fun h => (wm _).2 (.inl h)) id
  ·rw [List.mem_singleton.1 q] at k1
   have k1 : o.kind = 1 := k1
   omega
 ·intro key hk
  rw [es] at hk ⊢
  show ∃ y ∈ v', y.key = key ∧ y.dead = false ∧ (y.bY = (x.s s).id ∨ y.ended = (x.s s).id)
  by_cases e : key = o.key
  ·rw [e]; exact W.has
  ·obtain ⟨y, hy, e1, e2, e3⟩ := L.has key (((wm key).1 hk).resolve_right e)
   obtain ⟨y', hy', rl⟩ := W.fwd y hy
   have : y' = y := by
    rcases rl with c | ⟨c, _⟩
    ·exact c
    ·exact absurd (e1.symm.trans c) e
   subst this
   exact ⟨y', hy', e1, e2, e3⟩
 ·intro e he h3 hlt key hk
  rw [S.start] at hlt
  obtain ⟨n1, q⟩ := L.wr2 e (com e he h3) h3 hlt key hk
  refine ⟨fun c => ?_, by rw [S.start]; exact S.later _ _ q⟩
  rw [es] at c
  rcases (wm key).1 c with c | c
  ·exact n1 c
  ·subst c
   have tf := taken_false (ht.resolve_left n1)
   obtain ⟨y, hy, q⟩ := q
   rw [tf.2 y hy] at q
   cases q
end
end Go.Proofs.Ytalkfnblnlcklaa
