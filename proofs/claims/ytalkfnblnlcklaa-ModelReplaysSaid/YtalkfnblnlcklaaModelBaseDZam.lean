/- Several texts, one behind the other: SmE, SmF. -/
import Derived.Test.YtalkfnblnlcklaaModelBaseDZal
/- The Deals beside the Model: a commit that goes through. No dump; no condition. -/
namespace Go.Proofs.Ytalkfnblnlcklaa
set_option linter.unusedVariables false
section
variable {x : MoI} {ds ds' : List DlI} {C : List Nat} {s : Nat} {d d0 : DlI} {t : Int} {o : OpI} {r : ReI}
/-- What was looked at is as it was. -/
theorem held (H : Hold x ds C) (hs : s < 8) (h0 : (x.s s).id ≠ 0) (hh : ({ x with time := x.time + 1 } : MoI).holds (x.s s) = true) {k : Int} (hk : k ∈ (x.s s).wrote ∨ ∃ q ∈ (x.s s).reads, ((x.s s).level ≠ 2 ∨ q.found = true) ∧ q.lo ≤ k ∧ k ≤ q.hi) :
  findP (viewP ds C (x.s s).start (-1)) k = findP (viewP ds C x.time (-1)) k := by
 have st := H.start_le hs h0
 refine find_ext fun a => ?_
 rw [H.vw _ (.inr ⟨s, hs, h0, rfl⟩), H.vw _ (.inl (Int.le_refl _))]
 have tmT : ∀ y ∈ x.v, thereV k (x.time + 1) y = thereV k x.time y := fun y hy => by
  rw [Bool.eq_iff_iff, there_iff, there_iff]
  constructor
  ·rintro ⟨a1, a2, a3, a4, a5⟩
   have := (H.good.ver y hy).tm a3
   exact ⟨a1, a2, a3, by omega, by omega⟩
  ·rintro ⟨a1, a2, a3, a4, a5⟩
   have := (H.good.ver y hy).tm a3
   exact ⟨a1, a2, a3, by omega, by omega⟩
 rcases hk with hk | ⟨q, hq, hl, b1, b2⟩
 ·have e : ∀ y ∈ x.v, thereV k (x.s s).start y = thereV k x.time y := fun y hy => by
   rw [Bool.eq_iff_iff, there_iff, there_iff]
   constructor
   ·rintro ⟨a1, a2, a3, a4, a5⟩
    have f := H.good.fst s k hs hk y hy a1 a2 a3
    exact ⟨a1, a2, a3, by omega, by omega⟩
   ·rintro ⟨a1, a2, a3, a4, a5⟩
    have f := H.good.fst s k hs hk y hy a1 a2 a3
    exact ⟨a1, a2, a3, by omega, by omega⟩
  constructor
  ·rintro ⟨y, hy, q, r⟩; exact ⟨y, hy, by rw [← e y hy]; exact q, r⟩
  ·rintro ⟨y, hy, q, r⟩; exact ⟨y, hy, by rw [e y hy]; exact q, r⟩
 ·have h1 := List.all_eq_true.1 hh q hq
  have h2 : (keysI q.lo (q.hi + 1 - q.lo).toNat).all (fun k => decide (x.v.findIdx? (thereV k (x.s s).start) = x.v.findIdx? (thereV k (x.time + 1)))) = true := by
   rcases Bool.or_eq_true _ _ ▸ h1 with c | c
   ·exfalso
    rw [Bool.and_eq_true] at c
    have c1 := of_decide_eq_true c.1
    rcases hl with l | l
    ·exact l c1
    ·rw [l] at c; cases c.2
   ·exact c
  have h3 := of_decide_eq_true (List.all_eq_true.1 h2 k (mem_keys.2 (by omega)))
  have v1 := find_val (v := x.v) (p := thereV k (x.s s).start) (a := a) fun y hy z hz py pz => by rw [H.good.one hy hz py pz]
  have v2 := find_val (v := x.v) (p := thereV k (x.time + 1)) (a := a) fun y hy z hz py pz => by rw [H.good.one hy hz py pz]
  rw [h3] at v1
  refine v1.symm.trans (v2.trans ?_)
  constructor
  ·rintro ⟨y, hy, q, r⟩; exact ⟨y, hy, by rw [← tmT y hy]; exact q, r⟩
  ·rintro ⟨y, hy, q, r⟩; exact ⟨y, hy, by rw [tmT y hy]; exact q, r⟩
theorem done_same {id T : Int} {y : VrI} (h1 : y.bY ≠ id) (h2 : y.ended ≠ id) : doneV id T y = y := by
 unfold doneV
 rw [if_neg h1, if_neg h1, if_neg h2, if_neg h2]
theorem done_low (h : Good x) (hs : s < 8) (h0 : (x.s s).id ≠ 0) {key : Int} (ht : t ≤ x.time) {y : VrI} (hy : y ∈ x.v) : thereV key t (doneV (x.s s).id (x.time + 1) y) = thereV key t y := by
 have o := h.ver y hy
 rw [Bool.eq_iff_iff, there_iff, there_iff]
 by_cases b : y.bY = (x.s s).id
 ·constructor
  ·rintro ⟨a1, a2, a3, a4, a5⟩
   have a4 : (if y.bY = (x.s s).id then x.time + 1 else y.start) ≤ t := a4
   rw [if_pos b] at a4
   omega
  ·rintro ⟨a1, a2, a3, a4, a5⟩
   rw [b] at a3
   exact absurd a3 h0
 ·by_cases e : y.ended = (x.s s).id
  ·have st := (o.en (by rw [e]; exact h0)).2.1
   have e1 : doneV (x.s s).id (x.time + 1) y = { y with ended := 0, stop := x.time + 1 } := by
    unfold doneV
    rw [if_neg b, if_neg b, if_pos e, if_pos e]
   rw [e1]
   constructor
   ·rintro ⟨a1, a2, a3, a4, a5⟩
    exact ⟨a1, a2, a3, a4, .inl st⟩
   ·rintro ⟨a1, a2, a3, a4, a5⟩
    exact ⟨a1, a2, a3, a4, .inr (by show t < x.time + 1; omega)⟩
  ·rw [done_same b e]
theorem done_off (h : Good x) (hs : s < 8) (h0 : (x.s s).id ≠ 0) {key : Int} (hk : key ∉ (x.s s).wrote) {T : Int} {y : VrI} (hy : y ∈ x.v) : thereV key t (doneV (x.s s).id T y) = thereV key t y := by
 have o := h.ver y hy
 have same : y.key = key → y.dead = false → doneV (x.s s).id T y = y := fun a1 a2 => done_same (fun b => hk (a1 ▸ h.whose hs rfl h0 (b ▸ (o.by' (by rw [b]; exact h0)).2.2 a2))) (fun e => hk (a1 ▸ h.whose hs rfl h0 (e ▸ (o.en (by rw [e]; exact h0)).2.2)))
 rw [Bool.eq_iff_iff]
 constructor
 ·intro q
  obtain ⟨a1, a2, _⟩ := there_iff.1 q
  rw [same a1 a2] at q
  exact q
 ·intro q
  obtain ⟨a1, a2, _⟩ := there_iff.1 q
  rw [same a1 a2]
  exact q
theorem done_new (h : Good x) (hs : s < 8) (h0 : (x.s s).id ≠ 0) {key : Int} (hk : key ∈ (x.s s).wrote) (ht : x.time + 1 ≤ t) {y : VrI} (hy : y ∈ x.v) : thereV key t (doneV (x.s s).id (x.time + 1) y) = mineV (x.s s).id key y := by
 have o := h.ver y hy
 rw [Bool.eq_iff_iff, there_iff, mine_iff]
 constructor
 ·rintro ⟨a1, a2, a3, a4, a5⟩
  have a1 : y.key = key := a1
  have a2 : y.dead = false := a2
  have a3 : (if y.bY = (x.s s).id then (0 : Int) else y.bY) = 0 := a3
  have a5 : (if y.ended = (x.s s).id then x.time + 1 else y.stop) = 0 ∨ t < (if y.ended = (x.s s).id then x.time + 1 else y.stop) := a5
  have ne : y.ended ≠ (x.s s).id := fun e => by rw [if_pos e] at a5; have := h.time; omega
  rw [if_neg ne] at a5
  refine ⟨a1, a2, ne, ?_⟩
  by_cases b : y.bY = (x.s s).id
  ·exact b
  ·rw [if_neg b] at a3
   rcases h.over_by hs rfl h0 hy (by rw [a1]; exact hk) a2 a3 with q | ⟨_, q1, q2⟩
   ·exact absurd q ne
   ·omega
 ·rintro ⟨a1, a2, a3, a4⟩
  have st := (o.by' (by rw [a4]; exact h0)).1
  refine ⟨a1, a2, ?_, ?_, ?_⟩
  ·show (if y.bY = (x.s s).id then (0 : Int) else y.bY) = 0
   rw [if_pos a4]
  ·show (if y.bY = (x.s s).id then x.time + 1 else y.start) ≤ t
   rw [if_pos a4]; exact ht
  ·left
   show (if y.ended = (x.s s).id then x.time + 1 else y.stop) = 0
   rw [if_neg a3]; exact st
/-- A commit that goes through. -/
theorem hold_done (H : Hold x ds C) (hs : s < 8) (h0 : (x.s s).id ≠ 0) (hh : (x.s s).level ≠ 1 → ({ x with time := x.time + 1 } : MoI).holds (x.s s) = true)
  (G : Good { x with time := x.time + 1, v := x.v.map (doneV (x.s s).id (x.time + 1)), s := putS x.s s tx0 }) (A : Al { x with time := x.time + 1, v := x.v.map (doneV (x.s s).id (x.time + 1)), s := putS x.s s tx0 } ds')
  (hds : ds' = dlTold ds (x.s s).id (x.time + 1) o r) (hr : r.over = 3) : Hold { x with time := x.time + 1, v := x.v.map (doneV (x.s s).id (x.time + 1)), s := putS x.s s tx0 } ds' (C ++ [((x.s s).id - 1).toNat]) := by
 obtain ⟨d0, q0, _, q3, q4⟩ := H.al.ses s hs h0
 obtain ⟨f1, f2, f3, f4, f5, f6, f7⟩ := told_facts H hs h0 q0 hds
 have td : toldD (x.time + 1) o r d0 = { d0 with state := 3, stop := x.time + 1 } := by unfold toldD; rw [if_pos hr]
 obtain ⟨D, eD⟩ : ∃ D : DlI, { d0 with state := 3, stop := x.time + 1 } = D := ⟨_, rfl⟩
 have Ds : D.state = 3 ∧ D.stop = x.time + 1 ∧ D.start = d0.start ∧ D.ops = d0.ops ∧ D.level = d0.level := by rw [← eD]; exact ⟨rfl, rfl, rfl, rfl, rfl⟩
 obtain ⟨D1, D2, D3, D4, D5⟩ := Ds
 rw [td, eD] at f3 f7
 clear td eD
 obtain ⟨K, eK⟩ : ∃ K, ((x.s s).id - 1).toNat = K := ⟨_, rfl⟩
 rw [eK] at f3 f4 f5 f6 f7 q0 ⊢
 have L := H.live s hs h0 d0 (by rw [eK]; exact q0)
 have st := H.start_le hs h0
 have t0 := H.time0
 have oth : ∀ j, j ≠ s → putS x.s s tx0 j = x.s j := fun j e => putS_ne _ _ e
 have mem : ∀ y', y' ∈ x.v.map (doneV (x.s s).id (x.time + 1)) ↔ ∃ y ∈ x.v, doneV (x.s s).id (x.time + 1) y = y' := fun y' => List.mem_map
 have vm : ∀ t but, viewP ds' (C ++ [K]) t but = if x.time + 1 ≤ t ∧ (K : Int) ≠ but then d0.ops.foldl laidP (viewP ds C t but) else viewP ds C t but := fun t but => by rw [view_more f7 f5 f6, D2, D4]
 have vlow : ∀ t but, t ≤ x.time → viewP ds' (C ++ [K]) t but = viewP ds C t but := fun t but h => by rw [vm, if_neg (fun c => by omega)]
 have stp : ∀ i ∈ C, stopP ds i ≤ x.time := fun i hi => by
  obtain ⟨d, e, h3⟩ := (H.ord.mem i).1 hi
  rw [stopP_at e]
  exact (H.stop_le (List.mem_of_getElem? e) h3).2
 refine ⟨G, A, H.ord.more f7 D1 f5 f6 (fun i hi => by have := stp i hi; omega), fun t hr' key a => ?_, fun j hj hj0 d hd => ?_, fun j hj d hd => ?_, ?_, fun d hd => ?_⟩
 ·by_cases hT : x.time + 1 ≤ t
  ·rw [vm, if_pos ⟨hT, by omega⟩, eff_find (sk_view _ _ _ _)]
   by_cases hk : key ∈ (x.s s).wrote
   ·obtain ⟨r, hr, q⟩ := L.own key hk
    rw [hr]
    refine (q a).trans ?_
    constructor
    ·rintro ⟨y, hy, m, e⟩
     exact ⟨_, (mem _).2 ⟨y, hy, rfl⟩, by rw [done_new H.good hs h0 hk hT hy]; exact m, e⟩
    ·rintro ⟨y', hy', m, e⟩
     obtain ⟨y, hy, rfl⟩ := (mem _).1 hy'
     rw [done_new H.good hs h0 hk hT hy] at m
     exact ⟨y, hy, m, e⟩
   ·rw [L.non key hk]
    refine (H.vw t (.inl (by omega)) key a).trans ?_
    constructor
    ·rintro ⟨y, hy, m, e⟩
     exact ⟨_, (mem _).2 ⟨y, hy, rfl⟩, by rw [done_off H.good hs h0 hk hy]; exact m, e⟩
    ·rintro ⟨y', hy', m, e⟩
     obtain ⟨y, hy, rfl⟩ := (mem _).1 hy'
     rw [done_off H.good hs h0 hk hy] at m
     exact ⟨y, hy, m, e⟩
  ·have lt : t ≤ x.time := by omega
   have rel : Rel x t := by
    rcases hr' with c | ⟨j, hj, hj0, c⟩
    ·have c : x.time + 1 ≤ t := c
     exact absurd c hT
    ·have hj0 : (putS x.s s tx0 j).id ≠ 0 := hj0
     have c : t = (putS x.s s tx0 j).start := c
     by_cases e : j = s
     ·rw [e, putS_self] at hj0; exact absurd rfl hj0
     ·rw [oth j e] at hj0 c
      exact .inr ⟨j, hj, hj0, c⟩
   rw [vlow t _ lt]
   refine (H.vw t rel key a).trans ?_
   constructor
   ·rintro ⟨y, hy, m, e⟩
    exact ⟨_, (mem _).2 ⟨y, hy, rfl⟩, by rw [done_low H.good hs h0 lt hy]; exact m, e⟩
   ·rintro ⟨y', hy', m, e⟩
    obtain ⟨y, hy, rfl⟩ := (mem _).1 hy'
    rw [done_low H.good hs h0 lt hy] at m
    exact ⟨y, hy, m, e⟩
 ·have hj0 : (putS x.s s tx0 j).id ≠ 0 := hj0
  have hd : ds'[((putS x.s s tx0 j).id - 1).toNat]? = some d := hd
  have js : j ≠ s := fun e => by rw [e, putS_self] at hj0; exact hj0 rfl
  have ej : ({ x with time := x.time + 1, v := x.v.map (doneV (x.s s).id (x.time + 1)), s := putS x.s s tx0 } : MoI).s j = x.s j := oth j js
  rw [oth j js] at hj0 hd
  have ne := f4 j hj hj0 js
  have hd : ds[((x.s j).id - 1).toNat]? = some d := by rw [f6 _ ne]; exact hd
  have M := H.live j hj hj0 d hd
  have stj := H.start_le hj hj0
  have nid : (x.s j).id ≠ (x.s s).id := fun e => js (H.good.ids j s hj hs hj0 e)
  have same : ∀ y ∈ x.v, y.bY = (x.s j).id ∨ y.ended = (x.s j).id → doneV (x.s s).id (x.time + 1) y = y := fun y hy c => by
   have o := H.good.ver y hy
   rcases c with c | c
   ·have := (o.by' (by rw [c]; exact hj0)).2.1
    exact done_same (by rw [c]; exact nid) (by omega)
   ·refine done_same (fun e => ?_) (by rw [c]; exact nid)
    have := (o.by' (by rw [e]; exact h0)).2.1
    omega
  refine ⟨?_, ?_, ?_, ?_, ?_, ?_, ?_⟩
  ·intro key hk
   rw [ej] at hk ⊢
   obtain ⟨r, hr, q⟩ := M.own key hk
   refine ⟨r, hr, fun a => ?_⟩
   rw [q a]
   constructor
   ·rintro ⟨y, hy, m, e⟩
    exact ⟨y, (mem _).2 ⟨y, hy, same y hy (.inl (mine_iff.1 m).2.2.2)⟩, m, e⟩
   ·rintro ⟨y', hy', m, e⟩
    obtain ⟨y, hy, rfl⟩ := (mem _).1 hy'
    have b : (if y.bY = (x.s s).id then (0 : Int) else y.bY) = (x.s j).id := (mine_iff.1 m).2.2.2
    have b : y.bY = (x.s j).id := by
     by_cases c : y.bY = (x.s s).id
     ·rw [if_pos c] at b; exact absurd b.symm hj0
     ·rw [if_neg c] at b; exact b
    rw [same y hy (.inl b)] at m e
    exact ⟨y, hy, m, e⟩
  ·rw [ej]; exact M.non
  ·rw [ej, vlow _ _ stj.2]; exact M.hold
  ·rw [ej]; exact M.tch
  ·rw [ej]; exact M.fnd
  ·intro key hk
   rw [ej] at hk ⊢
   obtain ⟨y, hy, e1, e2, e3⟩ := M.has key hk
   exact ⟨y, (mem _).2 ⟨y, hy, same y hy e3⟩, e1, e2, e3⟩
  ·intro e he h3 hlt key hk
   rw [ej] at hlt ⊢
   show key ∉ (x.s j).wrote ∧ ∃ y ∈ x.v.map (doneV (x.s s).id (x.time + 1)), laterV key (x.s j).start y = true
   obtain ⟨i, hi⟩ := List.mem_iff_getElem?.1 he
   rcases f3 i e hi with ⟨_, c⟩ | ⟨_, c⟩
   ·rw [c, D4] at hk
    have hw : key ∈ (x.s s).wrote := Decidable.byContradiction fun q => hk (L.non key q)
    refine ⟨fun q => js (H.good.dis j s key hj hs q hw), ?_⟩
    obtain ⟨y, hy, e1, e2, e3⟩ := L.has key hw
    refine ⟨_, (mem _).2 ⟨y, hy, rfl⟩, later_iff.2 ⟨e1, e2, ?_⟩⟩
    by_cases b : y.bY = (x.s s).id
    ·left
     refine ⟨?_, ?_⟩
     ·show (if y.bY = (x.s s).id then (0 : Int) else y.bY) = 0
      rw [if_pos b]
     ·show (x.s j).start < (if y.bY = (x.s s).id then x.time + 1 else y.start)
      rw [if_pos b]; omega
    ·right
     show (x.s j).start < (if y.ended = (x.s s).id then x.time + 1 else y.stop)
     rw [if_pos (e3.resolve_left b)]; omega
   ·obtain ⟨n1, y, hy, q⟩ := M.wr2 e (List.mem_of_getElem? c) h3 hlt key hk
    obtain ⟨a1, a2, a3⟩ := later_iff.1 q
    refine ⟨n1, _, (mem _).2 ⟨y, hy, rfl⟩, later_iff.2 ⟨a1, a2, ?_⟩⟩
    rcases a3 with ⟨b0, c⟩ | c
    ·have nb : y.bY ≠ (x.s s).id := by rw [b0]; exact fun e => h0 e.symm
     left
     refine ⟨?_, ?_⟩
     ·show (if y.bY = (x.s s).id then (0 : Int) else y.bY) = 0
      rw [if_neg nb]; exact b0
     ·show (x.s j).start < (if y.bY = (x.s s).id then x.time + 1 else y.start)
      rw [if_neg nb]; exact c
    ·right
     show (x.s j).start < (if y.ended = (x.s s).id then x.time + 1 else y.stop)
     split
     ·omega
     ·exact c
 ·rcases List.mem_append.1 hj with hj | hj
  ·have hd : ds[j]? = some d := by rw [f2 j hj]; exact hd
   have k := H.com j hj d hd
   obtain ⟨e, he, h3⟩ := (H.ord.mem j).1 hj
   rw [hd] at he
   cases he
   have sl := H.stop_le (List.mem_of_getElem? hd) h3
   exact ⟨by rw [vlow _ _ (by omega)]; exact k.snap, fun e => by rw [vlow _ _ (by omega)]; exact k.ser e, fun e => by rw [vlow _ _ (by omega)]; exact k.rep e⟩
  ·rw [List.mem_singleton.1 hj] at hd ⊢
   rw [f7] at hd
   cases hd
   have v0 : viewP ds' (C ++ [K]) D.start K = viewP ds C (x.s s).start (-1) := by rw [vm, if_neg (fun c => c.2 rfl), view_but f5, D3, q4]
   have v1 : viewP ds' (C ++ [K]) (D.stop - 1) K = viewP ds C x.time (-1) := by rw [vm, if_neg (fun c => c.2 rfl), view_but f5, D2, Int.add_sub_cancel]
   refine ⟨by rw [v0, D4]; exact L.hold, fun l3 => ?_, fun l2 => ?_⟩
   ·rw [D5, q3] at l3
    rw [v1, D4, ← holds_congr (sk_view _ _ _ _) (sk_view _ _ _ _) fun c hc k hk => held H hs h0 (hh (by omega)) ((L.tch c hc k hk).imp_right fun ⟨q, hq, b⟩ => ⟨q, hq, .inl (by omega), b⟩)]
    exact L.hold
   ·rw [D5, q3] at l2
    rw [v1, D4]
    refine rep_of (sk_view _ _ _ _) [] (fun k _ => rfl) L.hold fun c hc k1 e0 => ?_
    exact (held H hs h0 (hh (by omega)) ((L.fnd c hc k1 e0).imp_right fun ⟨q, hq, f, b⟩ => ⟨q, hq, .inr f, b⟩)).symm
 ·have key : ∀ e ∈ ds, e.state = 3 → e.stop ≤ d0.start ∨ ∀ key, effK key d0.ops = none ∨ effK key e.ops = none := fun e he h3 => by
   by_cases c : e.stop ≤ d0.start
   ·exact .inl c
   ·refine .inr fun key => ?_
    by_cases q : effK key e.ops = none
    ·exact .inr q
    ·exact .inl (L.non key (L.wr2 e he h3 (by omega) key q).1)
  intro i j d e hi hj ne h3 h3'
  rcases f3 i d hi with ⟨a, c⟩ | ⟨a, c⟩
  ·rcases f3 j e hj with ⟨a', c'⟩ | ⟨a', c'⟩
   ·exact absurd (a.trans a'.symm) ne
   ·rw [c, D3, D4]
    rcases key e (List.mem_of_getElem? c') h3' with q | q
    ·exact .inr (.inl q)
    ·exact .inr (.inr q)
  ·rcases f3 j e hj with ⟨a', c'⟩ | ⟨a', c'⟩
   ·rw [c', D3, D4]
    rcases key d (List.mem_of_getElem? c) h3 with q | q
    ·exact .inl q
    ·exact .inr (.inr fun k => (q k).symm)
   ·exact H.two i j d e c c' ne h3 h3'
 ·obtain ⟨i, hi⟩ := List.mem_iff_getElem?.1 hd
  rcases f3 i d hi with ⟨_, c⟩ | ⟨_, c⟩
  ·rw [c, D5]; exact H.lv d0 (List.mem_of_getElem? q0)
  ·exact H.lv d (List.mem_of_getElem? c)
end
end Go.Proofs.Ytalkfnblnlcklaa
/- The Deals beside the Model: any call; what the Deals tell in the end. No dump; no condition. -/
namespace Go.Proofs.Ytalkfnblnlcklaa
set_option linter.unusedVariables false
section
variable {x : MoI} {ds ds' : List DlI} {C : List Nat} {s : Nat} {d d0 : DlI} {t : Int} {o : OpI} {r : ReI}
theorem hold_do (H : Hold x ds C) (k : Int) (o : OpI) : ∃ C', Hold (x.doM k o) (dlDo x ds k o) C' := by
  have G := good_do H.good k o
  have A := al_do H.al H.good k o
  by_cases hz : x.doE k o = 0
  · obtain ⟨_, _, _, hok, hop⟩ := doE_zero hz
    obtain ⟨hs, h0⟩ := doE_live hz
    have ed : dlDo x ds k o = dlTold ds (x.s k.toNat).id (x.doM k o).time o (x.doR k o) := by unfold dlDo; rw [if_pos hz]
    rw [ed] at A ⊢
    unfold MoI.doM at G A ⊢
    unfold MoI.doR at A ⊢
    rw [if_pos hz] at G A ⊢
    rw [if_pos hz] at A ⊢
    clear ed
    obtain ⟨s, es⟩ : ∃ s, k.toNat = s := ⟨_, rfl⟩
    rw [es] at hs h0 G A hop ⊢
    have over : ∀ (x' : MoI) (r : ReI) (now : Int), x'.v = x.v.map (goneV (x.s s).id) → x'.s = putS x.s s tx0 → x.time ≤ x'.time → r.over = 4 → Good x' → Al x' (dlTold ds (x.s s).id now o r) → ∃ C', Hold x' (dlTold ds (x.s s).id now o r) C' :=
      fun x' r now e1 e2 e3 e4 G A => ⟨C, hold_gone H hs h0 G A e1 e2 e3 rfl e4⟩
    unfold MoI.run at G A ⊢
    by_cases k7 : o.kind = 7
    · rw [if_pos k7] at G A ⊢
      exact over _ _ _ rfl rfl (Int.le_refl _) rfl G A
    · rw [if_neg k7] at G A ⊢
      by_cases k6 : o.kind = 6
      · rw [if_pos k6] at G A ⊢
        unfold MoI.commit at G A ⊢
        by_cases hl : x.limit ≤ x.time
        · rw [if_pos hl] at G A ⊢
          exact over _ _ _ rfl rfl (Int.le_refl _) rfl G A
        · rw [if_neg hl] at G A ⊢
          dsimp only at G A ⊢
          by_cases hh : (x.s s).level ≠ 1 ∧ ({ x with time := x.time + 1 } : MoI).holds (x.s s) = false
          · rw [if_pos hh] at G A ⊢
            exact over _ _ _ rfl rfl (by show x.time ≤ x.time + 1; omega) rfl G A
          · rw [if_neg hh] at G A ⊢
            exact ⟨_, hold_done H hs h0 (fun l => by
              cases c : ({ x with time := x.time + 1 } : MoI).holds (x.s s) with
              | true => rfl
              | false => exact absurd ⟨l, c⟩ hh) G A rfl rfl⟩
      · rw [if_neg k6] at G A ⊢
        by_cases k1 : o.kind = 1
        · rw [if_pos k1] at G A ⊢
          exact ⟨C, hold_get H hs h0 k1 G A rfl⟩
        · rw [if_neg k1] at G A ⊢
          by_cases k5 : o.kind = 5
          · rw [if_pos k5] at G A ⊢
            exact ⟨C, hold_scan H hs h0 k5 G A rfl⟩
          · rw [if_neg k5] at G A ⊢
            have kw : o.kind = 2 ∨ o.kind = 3 ∨ o.kind = 4 := by
              unfold okI at hok
              by_cases c1 : o.kind = 1 ∨ o.kind = 4
              · omega
              · by_cases c2 : o.kind = 2 ∨ o.kind = 3
                · omega
                · rw [if_neg c1, if_neg c2, if_neg k5, if_neg (by omega)] at hok
                  cases hok
            have ca := count_at x s
            have cv : (x.count s).v = x.v := rfl
            have cse : seesI (x.count s).v ((x.count s).s s).id ((x.count s).s s).start o.key = seesI x.v (x.s s).id (x.s s).start o.key := by rw [ca]; rfl
            obtain ⟨a, ha⟩ : ∃ a, seesI x.v (x.s s).id (x.s s).start o.key = a := ⟨_, rfl⟩
            by_cases hno : ((o.kind = 2 ∧ seesI (x.count s).v ((x.count s).s s).id ((x.count s).s s).start o.key ≠ none) ∨ (o.kind ≠ 2 ∧ seesI (x.count s).v ((x.count s).s s).id ((x.count s).s s).start o.key = none))
            · rw [wr_no s o hno] at G A ⊢
              rw [cse, ha] at hno
              rw [cse, ha, show ((x.count s).s s).wrote = (x.s s).wrote by rw [ca]] at G A ⊢
              dsimp only at G A ⊢
              obtain ⟨r, hr⟩ : ∃ r : ReI, (⟨if a = none then 11 else 12, 0, [], 0, 0⟩ : ReI) = r := ⟨_, rfl⟩
              rw [hr] at A ⊢
              have r0 : r.over = 0 := by rw [← hr]
              have re : r.e = if a = none then 11 else 12 := by rw [← hr]
              have rn : writesI (o, r) = false := by
                cases c : writesI (o, r) with
                | false => rfl
                | true =>
                  have q : r.e = 0 := (writes_iff.1 c).1
                  rw [re] at q
                  split at q <;> omega
              have rr : ∀ U : List (Int × Int), Sk U → (∀ k, findP U k = (seesI x.v (x.s s).id (x.s s).start k).map (valI x.v)) → rightP (o, r) U = true := fun U _ hU => by
                have f := hU o.key
                rw [ha] at f
                unfold rightP
                simp only [f, re, k1, k5, if_false]
                cases a with
                | none =>
                  have : o.kind ≠ 2 := by
                    rcases hno with ⟨_, c⟩ | ⟨c, _⟩
                    · exact absurd rfl c
                    · exact c
                  rw [if_neg this, if_pos (by omega)]
                  rfl
                | some i =>
                  have : o.kind = 2 := by
                    rcases hno with ⟨c, _⟩ | ⟨_, c⟩
                    · exact c
                    · cases c
                  rw [if_pos this]
                  rfl
              have rt : ∀ k, tch (o, r) k → k = o.key := fun k ht => by
                rcases ht with ⟨c, _⟩ | ⟨_, c⟩
                · exact absurd c k5
                · exact c
              by_cases hw : o.key ∈ (x.s s).wrote
              · rw [if_pos hw] at G A ⊢
                exact ⟨C, hold_read H hs h0 _ rfl rfl rfl (fun _ h => h) G A rfl r0 rn rr (fun k ht => .inl (rt k ht ▸ hw)) (fun c => absurd c k1)⟩
              · rw [if_neg hw, count_keepR] at G A ⊢
                exact ⟨C, hold_read H hs h0 _ rfl rfl rfl (fun _ h => List.mem_append_left _ h) G A rfl r0 rn rr (fun k ht => .inr ⟨_, List.mem_append_right _ (List.mem_singleton.2 rfl), by rw [rt k ht]; exact ⟨Int.le_refl _, Int.le_refl _⟩⟩) (fun c => absurd c k1)⟩
            · by_cases hcon : o.key ∉ ((x.count s).s s).wrote ∧ (x.count s).taken ((x.count s).s s).id ((x.count s).s s).start o.key = true
              · rw [wr_con s o hno hcon.1 hcon.2, count_over] at G A ⊢
                exact over _ _ _ rfl rfl (Int.le_refl _) rfl G A
              · have ht : o.key ∈ ((x.count s).s s).wrote ∨ (x.count s).taken ((x.count s).s s).id ((x.count s).s s).start o.key = false := by
                  by_cases q : o.key ∈ ((x.count s).s s).wrote
                  · exact .inl q
                  · right
                    cases c : (x.count s).taken ((x.count s).s s).id ((x.count s).s s).start o.key with
                    | false => rfl
                    | true => exact absurd ⟨q, c⟩ hcon
                by_cases hf : (o.kind ≠ 4 ∧ (x.count s).v.findIdx? (ownV ((x.count s).s s).id o.key) = none ∧ (x.count s).slots ≤ (x.count s).v.length)
                · rw [wr_full s o hno ht hf.1 hf.2.1 hf.2.2, count_over] at G A ⊢
                  exact over _ _ _ rfl rfl (Int.le_refl _) rfl G A
                · rw [wr_ok s o hno ht hf] at G A ⊢
                  rw [cse, ha] at hno
                  rw [count_taken] at ht
                  rw [cse, ha, cv] at G A ⊢
                  have e2 : ((x.count s).s s).id = (x.s s).id := by rw [ca]
                  have e3 : ((x.count s).s s).wrote = (x.s s).wrote := by rw [ca]
                  have e4 : ((x.count s).s s).start = (x.s s).start := by rw [ca]
                  rw [e2, e3] at G A ⊢
                  rw [e2, e3, e4] at ht
                  dsimp only at G A ⊢
                  rw [count_wrote] at G A ⊢
                  refine ⟨C, hold_wrote H hs h0 kw ?_ ht (fun U hU => ?_) G A rfl⟩
                  · cases c : x.v.findIdx? (ownV (x.s s).id o.key) with
                    | some j =>
                      rw [wroteV_own]
                      · exact wd_own H.good hs h0 kw c
                      · intro i hi
                        subst hi
                        by_cases hw : o.key ∈ (x.s s).wrote
                        · have := H.good.own_seen hs h0 hw ha
                          rw [c] at this
                          exact this
                        · have := H.good.own_none hs h0 hw
                          rw [c] at this
                          cases this
                    | none => exact wd_new H.good hs h0 kw c ha (fun k4 e => hno (.inr ⟨by omega, e⟩)) ht
                  · have f := hU o.key
                    rw [ha] at f
                    unfold rightP
                    simp only [f, k1, k5, if_false]
                    cases a with
                    | none =>
                      have : o.kind = 2 := Decidable.byContradiction fun c => hno (.inr ⟨c, rfl⟩)
                      rw [if_pos this]
                      rfl
                    | some i =>
                      have : o.kind ≠ 2 := fun c => hno (.inl ⟨c, fun e => by cases e⟩)
                      rw [if_neg this, if_pos (by omega)]
                      rfl
  · have e1 : x.doM k o = x := by unfold MoI.doM; rw [if_neg hz]
    have e2 : dlDo x ds k o = ds := by unfold dlDo; rw [if_neg hz]
    rw [e1, e2]
    exact ⟨C, H⟩
/-- A committed one of an id is where it should be. -/
theorem Hold.done (H : Hold x ds C) {k : Nat} (hd : ds[k]? = some d) (h3 : d.state = 3) : doneP ds d.id = some k ∧ k ∈ C ∧ opsP ds k = d.ops := by
 refine ⟨?_, (H.ord.mem k).2 ⟨d, hd, h3⟩, by unfold opsP; rw [hd]⟩
 rw [done_hit hd rfl fun i y hi hy e => ?_, if_pos h3]
 have e1 := H.al.id i y hy
 have e2 := H.al.id k d hd
 omega
theorem Hold.pos (H : Hold x ds C) (hd : d ∈ ds) (h3 : d.state = 3) : 1 ≤ d.start ∧ beforeI d.stop = d.stop - 1 := by
 have a := (H.al.tm d hd).1
 have b := (H.stop_le hd h3).1
 refine ⟨a, ?_⟩
 unfold beforeI
 rw [if_neg (by omega)]
theorem Hold.snap (H : Hold x ds C) {k : Nat} (hd : ds[k]? = some d) (h3 : d.state = 3) : snapP ds d.id = true := by
 obtain ⟨e, hk, eo⟩ := H.done hd h3
 unfold snapP
 rw [e]
 simp only [hd]
 unfold holdsP
 rw [H.ord.view, eo]
 exact (H.com k hk d hd).snap
theorem Hold.serial (H : Hold x ds C) {k : Nat} (hd : ds[k]? = some d) (h3 : d.state = 3) (l3 : d.level = 3) : serialP ds d.id = true := by
 obtain ⟨e, hk, eo⟩ := H.done hd h3
 unfold serialP
 rw [e]
 simp only [hd]
 unfold holdsP
 rw [H.ord.view, eo, (H.pos (List.mem_of_getElem? hd) h3).2]
 exact (H.com k hk d hd).ser l3
theorem Hold.repeatable (H : Hold x ds C) {k : Nat} (hd : ds[k]? = some d) (h3 : d.state = 3) (l2 : d.level = 2) : repP ds d.id = true := by
 obtain ⟨e, hk, eo⟩ := H.done hd h3
 unfold repP
 rw [e]
 simp only [hd]
 unfold holdsP
 rw [H.ord.view, H.ord.view, eo, (H.pos (List.mem_of_getElem? hd) h3).2, (H.com k hk d hd).snap, (H.com k hk d hd).rep l2]
 rfl
theorem Hold.ok (H : Hold x ds C) (hd : d ∈ ds) (h3 : d.state = 3) : okP ds d = true := by
 obtain ⟨k, hk⟩ := List.mem_iff_getElem?.1 hd
 have l := H.lv d hd
 unfold okP
 by_cases l1 : d.level = 1
 ·rw [if_pos l1]; exact H.snap hk h3
 ·rw [if_neg l1]
  by_cases l2 : d.level = 2
  ·rw [if_pos l2]; exact H.repeatable hk h3 l2
  ·have l3 : d.level = 3 := by omega
   rw [if_neg l2, if_pos l3, H.snap hk h3, H.serial hk h3 l3]
   rfl
/-- All keep their axioms. -/
theorem Hold.holds (H : Hold x ds C) : holdB ds 0 ds = 0 := by
  have : ∀ l : List DlI, (∀ d ∈ l, d ∈ ds) → holdB ds 0 l = 0 := by
    intro l
    induction l with
    | nil => intro _; rfl
    | cons d l ih =>
      intro h
      unfold holdB
      rw [if_neg]
      · exact ih fun e he => h e (List.mem_cons_of_mem _ he)
      · rintro ⟨⟨h3, _⟩, c⟩
        rw [H.ok (h d (List.mem_cons_self ..)) h3] at c
        cases c
  exact this ds fun _ h => h
/-- If all are LSerial they are as if done one behind the other. -/
theorem Hold.replays (H : Hold x ds C) (hl : ∀ d ∈ ds, d.level = 3) : replB ds 0 ds = 0 := by
  have : ∀ l : List DlI, (∀ d ∈ l, d ∈ ds) → replB ds 0 l = 0 := by
    intro l
    induction l with
    | nil => intro _; rfl
    | cons d l ih =>
      intro h
      unfold replB
      rw [if_neg]
      · exact ih fun e he => h e (List.mem_cons_of_mem _ he)
      · rintro ⟨h3, _, c⟩
        have hd := h d (List.mem_cons_self ..)
        obtain ⟨k, hk⟩ := List.mem_iff_getElem?.1 hd
        rw [H.serial hk h3 (hl d hd)] at c
        cases c
  exact this ds fun _ h => h
/-- No two writers of a key overlap. -/
theorem Hold.writers (H : Hold x ds C) : writersP ds = true := by
  refine writersP_of fun i k hk hi => ?_
  obtain ⟨d, hd⟩ : ∃ d, ds[i]? = some d := ⟨_, List.getElem?_eq_getElem hi⟩
  obtain ⟨e, he⟩ : ∃ e, ds[k]? = some e := ⟨_, List.getElem?_eq_getElem (by omega)⟩
  rw [pair_at hd he]
  by_cases h3 : d.state = 3
  · by_cases h3' : e.state = 3
    · rcases H.two i k d e hd he (by omega) h3 h3' with c | c | c
      · simp [c]
      · simp [c]
      · have : clashP d e = false := by
          cases q : clashP d e with
          | false => rfl
          | true =>
            obtain ⟨z, hz, hq⟩ := List.any_eq_true.1 q
            rw [Bool.and_eq_true] at hq
            rcases c z.1.key with n | n
            · exact absurd n (eff_mem hz hq.1)
            · exact absurd n (wrote_eff hq.2)
        simp [this]
    · simp [h3']
  · simp [h3]
/-- What is there in the end is what they make. -/
theorem Hold.pairs (H : Hold x ds C) : x.pairs x.time = stateP ds x.time (-1) := by
  rw [H.ord.view]
  have one : ∀ k, (MoI.pairsOf x.v x.time k).length ≤ 1 := fun k => by
    unfold MoI.pairsOf
    rw [List.length_map]
    have : (x.v.filter (thereV k x.time)).Pairwise fun y z => False := by
      have p := (H.good.two.sublist (List.filter_sublist (p := thereV k x.time) (l := x.v)))
      refine List.Pairwise.imp_of_mem (fun {y z} hy hz ap => ?_) p
      obtain ⟨a1, a2, a3, a4, a5⟩ := there_iff.1 (List.mem_filter.1 hy).2
      obtain ⟨b1, b2, b3, b4, b5⟩ := there_iff.1 (List.mem_filter.1 hz).2
      rcases (ap (a1.trans b1.symm) a2 b2).1 a3 b3 with c | c <;> omega
    cases hl : x.v.filter (thereV k x.time) with
    | nil => exact Nat.zero_le _
    | cons a l =>
      rw [hl] at this
      cases l with
      | nil => exact Nat.le_refl _
      | cons b l => exact ((List.pairwise_cons.1 this).1 b (List.mem_cons_self ..)).elim
  have fk : ∀ k, ∀ q ∈ MoI.pairsOf x.v x.time k, q.1 = k := fun k q hq => by
    obtain ⟨y, _, e⟩ := List.mem_map.1 hq
    rw [← e]
  refine sk_ext (sk_keys fk one 0 64) (sk_view _ _ _ _) fun p => ?_
  obtain ⟨k, a⟩ := p
  rw [← find_mem (sk_view _ _ _ _), H.vw x.time (.inl (Int.le_refl _))]
  show (k, a) ∈ (keysI 0 64).flatMap (MoI.pairsOf x.v x.time) ↔ _
  rw [List.mem_flatMap]
  constructor
  · rintro ⟨j, hj, hq⟩
    obtain ⟨y, hy, e⟩ := List.mem_map.1 hq
    cases e
    exact ⟨y, (List.mem_filter.1 hy).1, (List.mem_filter.1 hy).2, rfl⟩
  · rintro ⟨y, hy, q, e⟩
    have ky := (H.good.ver y hy).ky
    have e1 := (there_iff.1 q).1
    refine ⟨k, mem_keys.2 (by omega), List.mem_map.2 ⟨y, List.mem_filter.2 ⟨hy, q⟩, by rw [e]⟩⟩
end
end Go.Proofs.Ytalkfnblnlcklaa
