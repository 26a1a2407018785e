/- Several texts, one behind the other: MdD3, MdD. -/
import Derived.Test.YtalkfnblnlcklaaModelBaseDZaz
/- Package model as landed, its laws' face, third part: writes. Condition: numbers that fit. -/
namespace Go.Proofs.Ytalkfnblnlcklaa
open Go.ChangeShapes Go.WideShapes Go.ChangeAt Go.RowKit
set_option linter.unusedVariables false
set_option linter.unusedSimpArgs false
section
variable {W w w' : World} {m : Nat} {S S' T : Nat → Prop} {x y : MoI} {K : Nat → Value} {o : Nat → Nat} {z : LdI} {t : TtI} {L : List (Nat × VeI)} {io : Nat → Int}
def WrX (m : Nat) (K : Nat → Value) (o : Nat → Nat) (z : LdI) (n : Nat) (t : TtI) (op : OpI) (r : ReI) (y : MoI) : Prop :=
 (r.over = 0 ∧ ∀ w, LdAt w m K o z → Calls Try.prog 55 #[.pointer (some ⟨m, 0, none⟩), .pointer (some ⟨t.b, 0, none⟩), opV op] w (LdEnd w m o r fun z' => Lr z' y)) ∨
 (r.over ≠ 0 ∧ ∀ w, LdAt w m K o z → Calls Try.prog 55 #[.pointer (some ⟨m, 0, none⟩), .pointer (some ⟨t.b, 0, none⟩), opV op] w (LdEnd w m o r fun z' => Lr { z' with s := putT z'.s n none } y))
theorem keepW_eq (x : MoI) (n : Nat) (k : Int) (v : List VrI) : ({ (if k ∈ (x.s n).wrote then x else x.keepW n k) with v := v } : MoI) = { x with v := v, s := putS x.s n { x.s n with wrote := if k ∈ (x.s n).wrote then (x.s n).wrote else (x.s n).wrote ++ [k] } } := by
 by_cases h : k ∈ (x.s n).wrote
 ·rw [if_pos h, if_pos h]
  have : putS x.s n { x.s n with wrote := (x.s n).wrote } = x.s := putS_same
  rw [this]
 ·rw [if_neg h, if_neg h]; rfl
theorem LrL.in_k (l : LrL L io z x) {p : Nat × VeI} (hp : p ∈ L) : p.2 ∈ z.k p.1 := by
 rw [l.k p.1 (l.lt p hp)]
 exact List.mem_map.2 ⟨p, List.mem_filter.2 ⟨hp, decide_eq_true rfl⟩, rfl⟩
theorem lwr_any (l : LrL L io z x) (g : Good x) {n : Nat} (n8 : n < 8) (ht : z.s n = some t) (kind val : Int) (hk : kind = 2 ∨ kind = 3 ∨ kind = 4) {k : Nat} (k64 : k < 64) :
    WrX m K o z n t ⟨kind, k, 0, val⟩ (x.write n ⟨kind, k, 0, val⟩).1 (x.write n ⟨kind, k, 0, val⟩).2 := by
  have ts := l.ts n t n8 ht
  have id0 : (x.s n).id ≠ 0 := by rw [ts.id]; exact ts.nz
  obtain ⟨u0, u1, u2⟩ := lr_len g ⟨L, io, l⟩
  have v1 : ∀ k, k < 64 → (z.k k).length ≤ 100000 := fun k hk => by have := u0 k hk; omega
  have sq := l.sees g n8 ht k64
  have cn := l.conf_none g n8 ht k64
  by_cases hno : (kind = 2 ∧ seesI x.v (x.s n).id (x.s n).start k ≠ none) ∨ (kind ≠ 2 ∧ seesI x.v (x.s n).id (x.s n).start k = none)
  · rw [wr_no n ⟨kind, k, 0, val⟩ hno]
    left
    refine ⟨rfl, fun w a => ?_⟩
    have hr : (if seesI x.v (x.s n).id (x.s n).start k = none then (11 : Int) else 12) = if kind = 2 ∧ ((z.k k).find? (seesV z.F t)).isSome = true then 12 else if kind ≠ 2 ∧ ((z.k k).find? (seesV z.F t)).isSome = false then 11 else 0 := by
      rcases sq with ⟨e1, e2⟩ | ⟨j, v, e1, _, e2, _⟩
      · rw [e1] at hno ⊢
        rw [e2]
        have : kind ≠ 2 := hno.elim (fun c => absurd rfl c.2) (fun c => c.1)
        simp [this]
      · rw [e1] at hno ⊢
        rw [e2]
        have : kind = 2 := hno.elim (fun c => c.1) (fun c => by cases c.2)
        simp [this]
    refine (lwrite_no a n8 ht k64 v1 kind val _ hr (by split <;> decide)).mono fun e w' q => (LdRes.fin rfl q).mono ?_
    rintro z' rfl
    show Lr _ (if (k : Int) ∈ (x.s n).wrote then x else x.keepR n ⟨k, k, false, false⟩)
    by_cases hw : (k : Int) ∈ (x.s n).wrote
    · rw [if_pos hw]; exact ⟨L, io, l.keepA n8 ht 3 (by decide) hw⟩
    · rw [if_neg hw]; exact ⟨L, io, l.keepR n8 ht 3 k k false false (by simp)⟩
  · have hr : (0 : Int) = if kind = 2 ∧ ((z.k k).find? (seesV z.F t)).isSome = true then 12 else if kind ≠ 2 ∧ ((z.k k).find? (seesV z.F t)).isSome = false then 11 else 0 := by
      rcases sq with ⟨e1, e2⟩ | ⟨j, v, e1, _, e2, _⟩
      · rw [e1] at hno
        rw [e2]
        have : kind = 2 := Classical.byContradiction fun c => hno (.inr ⟨c, rfl⟩)
        simp [this]
      · rw [e1] at hno
        rw [e2]
        have : kind ≠ 2 := fun c => hno (.inl ⟨c, fun c => by cases c⟩)
        simp [this]
    by_cases hc : (z.k k).find? (confV z.F t) = none
    · have ok : (k : Int) ∈ (x.s n).wrote ∨ x.taken (x.s n).id (x.s n).start k = false := by
        by_cases q : (k : Int) ∈ (x.s n).wrote
        · exact .inl q
        · right
          cases c : x.taken (x.s n).id (x.s n).start k with
          | false => rfl
          | true => exact absurd hc (cn.2 ⟨q, c⟩)
      have inw : ∀ j, x.v.findIdx? (ownV (x.s n).id k) = some j → (k : Int) ∈ (x.s n).wrote := fun j ho => Classical.byContradiction fun c => by
        have := g.own_none n8 id0 c
        rw [ho] at this
        cases this
      by_cases k4 : kind = 4
      · subst k4
        rw [wr_ok n ⟨4, k, 0, val⟩ hno ok (fun c => c.1 rfl)]
        left
        refine ⟨rfl, fun w a => ?_⟩
        rcases sq with ⟨e1, e2⟩ | ⟨j, v, e1, e2, e3, e4⟩
        · exact absurd (.inr ⟨by decide, e1⟩) hno
        · refine (write_del a n8 ht k64 v1 val e3 hc).mono fun e w' q => (LdRes.fin rfl q).mono ?_
          rintro z' rfl
          obtain ⟨L', l', p, hp, pe, pm⟩ := l.endV g n8 ht k64 hc e2 e4
          have fin := l'.keepW n8 ht k hp pe (.inr pm)
          have ev : MoI.wroteV x.v (x.s n).id ⟨4, k, 0, val⟩ (some j) (x.v.findIdx? (ownV (x.s n).id k)) = setV x.v j fun y => { y with ended := (x.s n).id } := by
            cases ho : x.v.findIdx? (ownV (x.s n).id k) with
            | none => rw [wroteV_end, if_pos rfl, List.append_nil]
            | some i =>
              have q := g.own_seen n8 id0 (inw i ho) e1
              rw [ho] at q
              cases q
              rw [wroteV_own (fun i q => q), if_pos rfl]
          refine ⟨L', io, ?_⟩
          show LrL L' io _ ({ (if (k : Int) ∈ (x.s n).wrote then x else x.keepW n k) with v := MoI.wroteV x.v (x.s n).id ⟨4, k, 0, val⟩ (seesI x.v (x.s n).id (x.s n).start k) (x.v.findIdx? (ownV (x.s n).id k)) } : MoI)
          rw [keepW_eq, e1, ev]
          exact fin
      · cases ho : x.v.findIdx? (ownV (x.s n).id k) with
        | some j =>
          obtain ⟨v, hj, hm, hx, hf⟩ := l.find_some k64 (l.q_made n8 ht k) ho
          have hm : v.mr = t.f := of_decide_eq_true hm
          have hw := inw j ho
          have hst : stopO z.F v.en = 0 := by
            have vo := (g.ver _ (l.mem (List.mem_of_getElem? hj))).by'
            have e : (verOf z.F io (k, v)).bY = t.id := by
              show (if (z.F v.mr).st = 3 then 0 else io v.mr) = t.id
              rw [hm, if_neg (by rw [ts.st]; decide), ts.io]
            exact (vo (by rw [e]; exact ts.nz)).1
          rw [wr_ok n ⟨kind, k, 0, val⟩ hno ok (fun c => by have := c.2.1; rw [show x.v.findIdx? (ownV (x.s n).id (⟨kind, k, 0, val⟩ : OpI).key) = some j from ho] at this; cases this)]
          left
          refine ⟨rfl, fun w a => ?_⟩
          refine (write_put a n8 ht k64 v1 kind val k4 hr hc re0 _ fun w1 a1 => (put_own a1 n8 ht k64 v1 hf val _).mono fun e w' => LdRes.fin rfl).mono fun e w' q => q.mono ?_
          rintro z' rfl
          obtain ⟨L', l', p, hp, pe, pm⟩ := l.valV n8 ht k64 hc hj hm hst val
          have fin := l'.keepW n8 ht k hp pe (.inl pm)
          have ev : MoI.wroteV x.v (x.s n).id ⟨kind, k, 0, val⟩ (seesI x.v (x.s n).id (x.s n).start k) (some j) = setV x.v j fun y => { y with ended := 0, val := val } := by
            rw [wroteV_own (fun i hi => by have := g.own_seen n8 id0 hw hi; rw [ho] at this; exact this)]
            exact if_neg k4
          refine ⟨L', io, ?_⟩
          show LrL L' io _ ({ (if (k : Int) ∈ (x.s n).wrote then x else x.keepW n k) with v := MoI.wroteV x.v (x.s n).id ⟨kind, k, 0, val⟩ (seesI x.v (x.s n).id (x.s n).start k) (x.v.findIdx? (ownV (x.s n).id k)) } : MoI)
          rw [keepW_eq, ho, ev]
          exact fin
        | none =>
          have hq : (z.k k).find? (madeV t) = none := l.find_none k64 (l.q_made n8 ht k) ho
          have c1 := l.c1
          have gl := g.len
          by_cases hf : x.slots ≤ x.v.length
          · rw [wr_full n ⟨kind, k, 0, val⟩ hno ok k4 ho hf]
            right
            have hs : (usedL z 64 : Int) = z.slots := by rw [u1, ← c1]; omega
            refine ⟨show (4 : Int) ≠ 0 by decide, fun w a => ?_⟩
            refine (write_put a n8 ht k64 v1 kind val k4 hr hc (MoI.bad 5) _ fun w1 a1 => (put_full a1 n8 ht ts.st k64 v1 hq u2 hs val _).mono fun e w' => LdRes.fin rfl).mono fun e w' q => q.mono ?_
            rintro z' rfl
            exact ⟨L, io, l.gone g n8 ht 0⟩
          · rw [wr_ok n ⟨kind, k, 0, val⟩ hno ok (fun c => hf c.2.2)]
            left
            refine ⟨rfl, fun w a => ?_⟩
            have hs : (usedL z 64 : Int) ≠ z.slots := by rw [u1, ← c1]; omega
            have fr : ∀ nb, o nb = 0 → ∀ k' v, k' < 64 → v ∈ z.k k' → v.b ≠ nb := fun nb hn k' v hk' hv c => by
              have := (a.oV k' v hk' hv).1
              rw [c, hn] at this
              cases this
            have nv : ∀ nb, verOf z.F io (k, ⟨nb, val, t.f, none⟩) = newV k val (x.s n).id := fun nb => by
              unfold verOf Go.Proofs.Ytalkfnblnlcklaa.newV endO stopO
              simp [ts.st, ts.io, ts.id]
            rcases sq with ⟨e1, e2⟩ | ⟨j, v, e1, e2, e3, e4⟩
            · refine (write_put a n8 ht k64 v1 kind val k4 hr hc re0 (fun z' => ∃ nb, o nb = 0 ∧ z' = newZ z k ⟨nb, val, t.f, none⟩) fun w1 a1 => ?_).mono fun e w' q => q.mono ?_
              · rw [e2]; exact put_fresh a1 n8 ht k64 u0 hq u2 hs val
              · rintro z' ⟨nb, h0, rfl⟩
                have l' := l.new k64 ⟨nb, val, t.f, none⟩ (fun p hp => fr nb h0 p.1 p.2 (l.lt p hp) (l.in_k hp)) (l.usT g n8 ht) rfl
                rw [nv] at l'
                have fin := l'.keepW n8 ht k (List.mem_append_right _ (List.mem_singleton.2 rfl)) rfl (.inl rfl)
                have ev : MoI.wroteV x.v (x.s n).id ⟨kind, k, 0, val⟩ none none = x.v ++ [newV k val (x.s n).id] := if_neg k4
                refine ⟨L ++ [(k, ⟨nb, val, t.f, none⟩)], io, ?_⟩
                show LrL _ io _ ({ (if (k : Int) ∈ (x.s n).wrote then x else x.keepW n k) with v := MoI.wroteV x.v (x.s n).id ⟨kind, k, 0, val⟩ (seesI x.v (x.s n).id (x.s n).start k) (x.v.findIdx? (ownV (x.s n).id k)) } : MoI)
                rw [keepW_eq, ho, e1, ev]
                exact fin
            · refine (write_put a n8 ht k64 v1 kind val k4 hr hc re0 (fun z' => ∃ nb, o nb = 0 ∧ z' = newZ (turnZ z k v.b (endV t.f)) k ⟨nb, val, t.f, none⟩) fun w1 a1 => ?_).mono fun e w' q => q.mono ?_
              · rw [e3]; exact put_seen a1 n8 ht k64 u0 hq u2 hs (List.mem_of_find?_eq_some e3) val
              · rintro z' ⟨nb, h0, rfl⟩
                obtain ⟨L', l', p, hp, pe, pm⟩ := l.endV g n8 ht k64 hc e2 e4
                have l2 := l'.new k64 ⟨nb, val, t.f, none⟩ (fun p hp => by
                  have a1 := l'.in_k hp
                  have a2 := l'.lt p hp
                  have a1 : p.2 ∈ putK z.k k (turnB v.b (fun u => { u with en := some t.f }) (z.k k)) p.1 := a1
                  by_cases c : p.1 = k
                  · rw [c, putK_self] at a1
                    obtain ⟨q, hq, e⟩ := List.mem_map.1 a1
                    rw [← e]
                    have := fr nb h0 k q k64 hq
                    by_cases c2 : q.b = v.b
                    · rw [if_pos c2]; exact this
                    · rw [if_neg c2]; exact this
                  · rw [putK_ne _ _ c] at a1
                    exact fr nb h0 p.1 p.2 a2 a1) (l.usT g n8 ht) rfl
                have nv2 : verOf ({ z with k := putK z.k k (turnB v.b (fun u => { u with en := some t.f }) (z.k k)) } : LdI).F io (k, ⟨nb, val, t.f, none⟩) = newV k val (x.s n).id := nv nb
                rw [nv2] at l2
                have fin := l2.keepW n8 ht k (List.mem_append_right _ (List.mem_singleton.2 rfl)) rfl (.inl rfl)
                have ev : MoI.wroteV x.v (x.s n).id ⟨kind, k, 0, val⟩ (some j) none = (setV x.v j fun y => { y with ended := (x.s n).id }) ++ [newV k val (x.s n).id] := by
                  rw [wroteV_end]
                  exact congrArg _ (if_neg k4)
                refine ⟨L' ++ [(k, ⟨nb, val, t.f, none⟩)], io, ?_⟩
                show LrL _ io _ ({ (if (k : Int) ∈ (x.s n).wrote then x else x.keepW n k) with v := MoI.wroteV x.v (x.s n).id ⟨kind, k, 0, val⟩ (seesI x.v (x.s n).id (x.s n).start k) (x.v.findIdx? (ownV (x.s n).id k)) } : MoI)
                rw [keepW_eq, ho, e1, ev]
                exact fin
    · obtain ⟨q1, q2⟩ := cn.1 hc
      rw [wr_con n ⟨kind, k, 0, val⟩ hno q1 q2]
      right
      refine ⟨show (4 : Int) ≠ 0 by decide, fun w a => ?_⟩
      obtain ⟨v, hv⟩ := Option.ne_none_iff_exists'.1 hc
      refine (lwrite_con a n8 ht ts.st k64 v1 kind val hr hv).mono fun e w' q => (LdRes.fin rfl q).mono ?_
      rintro z' rfl
      exact ⟨L, io, l.gone g n8 ht 0⟩
theorem dox_write (a : LdAt w m K o z) (l : LrL L io z x) (g : Good x) {n : Nat} (n8 : n < 8) (ht : z.s n = some t) (hop : (x.s n).ops < 12) (kind val : Int) (hk : kind = 2 ∨ kind = 3 ∨ kind = 4) {k : Nat} (k64 : k < 64) (hok : okI ⟨kind, k, 0, val⟩ = true) : DoX w m K o z n ⟨kind, k, 0, val⟩ ((x.count n).write n ⟨kind, k, 0, val⟩).1 ((x.count n).write n ⟨kind, k, 0, val⟩).2 := by
 have ts := l.ts n t n8 ht
 have id0 : (x.s n).id ≠ 0 := by rw [ts.id]; exact ts.nz
 have hops := ts.ops
 have so := (g.ses n n8).ops
 have lc : LrL L io (setT z n (opsT t)) (x.count n) := l.count n8 ht
 have gc := good_count g n8 id0 hop
 have hs1 : (setT z n (opsT t)).s n = some (opsT t) := putT_self _ _ _
 have h67 : decide (kind = 6 ∨ kind = 7) = false := by rw [decide_eq_false_iff_not]; omega
 unfold DoX
 rcases lwr_any (m := m) (K := K) (o := o) lc gc n8 hs1 kind val hk k64 with ⟨h0, hP⟩ | ⟨h0, hP⟩
 ·exact do_stay a n n8 ht ⟨kind, k, 0, val⟩ hok false h67 (.inr (by omega)) _ h0 _ fun w1 a1 => exec_write a1 n8 ht kind k 0 val hk (by omega) _ _ fun w2 a2 => hP w2 a2
 ·refine (do_over a n n8 ht ⟨kind, k, 0, val⟩ hok false h67 (.inr (by omega)) _ h0 _ fun w1 a1 => exec_write a1 n8 ht kind k 0 val hk (by omega) _ _ fun w2 a2 => hP w2 a2).mono fun e w' hd => hd.mono ?_
  rintro z' ⟨z0, q, rfl⟩
  exact q
end
end Go.Proofs.Ytalkfnblnlcklaa
/- Package model as landed, its laws' face: Do, whole. Condition: numbers that fit. -/
namespace Go.Proofs.Ytalkfnblnlcklaa
open Go.ChangeShapes Go.WideShapes Go.ChangeAt Go.RowKit
set_option linter.unusedVariables false
set_option linter.unusedSimpArgs false
section
variable {W w w' : World} {m : Nat} {S S' T : Nat → Prop} {x y : MoI} {K : Nat → Value} {o : Nat → Nat} {z : LdI} {t : TtI} {L : List (Nat × VeI)} {io : Nat → Int}
theorem okI_le7 {o : OpI} (h : okI o = true) : o.kind ≤ 7 := by
 unfold okI at h
 split at h
 ·omega
 ·split at h
  ·omega
  ·split at h
   ·omega
   ·split at h
    ·omega
    ·cases h
theorem ldo_any (a : LdAt w m K o z) (l : LrL L io z x) (g : Good x) (s : Int) (op : OpI) : Calls Try.prog 19 #[.pointer (some ⟨m, 0, none⟩), .int .i64 s, opV op] w (DoEnd w m o (x.doR s op) (x.doE s op) fun z' => Lr z' (x.doM s op)) := by
  by_cases hb : s < 0 ∨ 7 < s
  · have e : x.doE s op = 1 := by unfold MoI.doE; rw [if_pos hb]
    have e1 : x.doR s op = re0 := by unfold MoI.doR; rw [e]; rfl
    have e2 : x.doM s op = x := by unfold MoI.doM; rw [e]; rfl
    rw [e, e1, e2]
    exact (do_arg a s hb op).mono fun e w' hd => hd.mono fun z' q => by rw [q]; exact ⟨L, io, l⟩
  · obtain ⟨n, rfl⟩ : ∃ n : Nat, s = (n : Int) := ⟨s.toNat, by omega⟩
    have n8 : n < 8 := by omega
    by_cases hbad : (x.s n).id = 0 ∨ okI op = false
    · have e : x.doE n op = 9 := by unfold MoI.doE; rw [if_neg hb]; exact if_pos hbad
      have e1 : x.doR n op = re0 := by unfold MoI.doR; rw [e]; rfl
      have e2 : x.doM n op = x := by unfold MoI.doM; rw [e]; rfl
      rw [e, e1, e2]
      cases ht : z.s n with
      | none => exact (do_none a n n8 ht op).mono fun e w' hd => hd.mono fun z' q => by rw [q]; exact ⟨L, io, l⟩
      | some t =>
        have ts := l.ts n t n8 ht
        have hok : okI op = false := hbad.resolve_left (by rw [ts.id]; exact ts.nz)
        exact (do_bad a n n8 ht op hok).mono fun e w' hd => hd.mono fun z' q => by rw [q]; exact ⟨L, io, l⟩
    · have hid : (x.s n).id ≠ 0 := fun c => hbad (.inl c)
      obtain ⟨t, ht⟩ := l.sess n8 hid
      have ts := l.ts n t n8 ht
      have hok : okI op = true := by
        cases c : okI op with
        | true => rfl
        | false => exact absurd (.inr c) hbad
      have so := (g.ses n n8).ops
      have hops := ts.ops
      by_cases k67 : op.kind = 7 ∨ op.kind = 6
      · have e : x.doE n op = 0 := by unfold MoI.doE; rw [if_neg hb]; exact (if_neg hbad).trans (if_pos k67)
        have e1 : x.doR n op = (x.run n op).1 := by unfold MoI.doR; rw [e]; rfl
        have e2 : x.doM n op = (x.run n op).2 := by unfold MoI.doM; rw [e]; rfl
        rw [e, e1, e2]
        obtain ⟨kind, key, hi, val⟩ := op
        rcases k67 with q | q
        · have q : kind = 7 := q
          subst q
          have r : x.run n ⟨7, key, hi, val⟩ = (⟨0, 0, [], 4, 1⟩, x.over n) := by unfold MoI.run; rw [if_pos rfl]
          rw [r]
          exact dox_over a l g n8 ht key hi val hok
        · have q : kind = 6 := q
          subst q
          have r : x.run n ⟨6, key, hi, val⟩ = x.commit n := by unfold MoI.run; rw [if_neg (show ¬ (6 : Int) = 7 by decide), if_pos rfl]
          rw [r]
          exact dox_commit a l g n8 ht key hi val hok
      · have kd : decide (op.kind = 6 ∨ op.kind = 7) = false := by rw [decide_eq_false_iff_not]; omega
        by_cases hm : 12 ≤ (x.s n).ops
        · have e : x.doE n op = 65 := by unfold MoI.doE; rw [if_neg hb]; exact (if_neg hbad).trans ((if_neg k67).trans (if_pos hm))
          have e1 : x.doR n op = re0 := by unfold MoI.doR; rw [e]; rfl
          have e2 : x.doM n op = x := by unfold MoI.doM; rw [e]; rfl
          rw [e, e1, e2]
          exact (do_many a n n8 ht op hok kd (by omega)).mono fun e w' hd => hd.mono fun z' q => by rw [q]; exact ⟨L, io, l⟩
        · have e : x.doE n op = 0 := by unfold MoI.doE; rw [if_neg hb]; exact (if_neg hbad).trans ((if_neg k67).trans (if_neg hm))
          have e1 : x.doR n op = (x.run n op).1 := by unfold MoI.doR; rw [e]; rfl
          have e2 : x.doM n op = (x.run n op).2 := by unfold MoI.doM; rw [e]; rfl
          have hop : (x.s n).ops < 12 := by omega
          rw [e, e1, e2]
          obtain ⟨kind, key, hi, val⟩ := op
          have hkk : kind ≤ 5 := by have : kind ≤ 7 := okI_le7 hok; have q : ¬ (kind = 7 ∨ kind = 6) := k67; omega
          obtain ⟨h1, k0, k63, h5, _⟩ := okI_key hok hkk
          have h1 : 1 ≤ kind := h1
          have k0 : 0 ≤ key := k0
          have k63 : key ≤ 63 := k63
          obtain ⟨k, rfl⟩ : ∃ k : Nat, key = (k : Int) := ⟨key.toNat, by omega⟩
          have k64 : k < 64 := by omega
          by_cases k1 : kind = 1
          · subst k1
            have r : x.run n ⟨1, k, hi, val⟩ = (x.count n).get n ⟨1, k, hi, val⟩ := by unfold MoI.run; rw [if_neg (show ¬ (1 : Int) = 7 by decide), if_neg (show ¬ (1 : Int) = 6 by decide), if_pos rfl]
            rw [r]
            exact dox_get a l g n8 ht hop k k64 hi val hok
          · by_cases k5 : kind = 5
            · subst k5
              have r : x.run n ⟨5, k, hi, val⟩ = (x.count n).scan n ⟨5, k, hi, val⟩ := by unfold MoI.run; rw [if_neg (show ¬ (5 : Int) = 7 by decide), if_neg (show ¬ (5 : Int) = 6 by decide), if_neg (show ¬ (5 : Int) = 1 by decide), if_pos rfl]
              rw [r]
              obtain ⟨q1, q2⟩ := h5 rfl
              have q1 : (k : Int) ≤ hi := q1
              have q2 : hi ≤ 63 := q2
              obtain ⟨hh, rfl⟩ : ∃ hh : Nat, hi = (hh : Int) := ⟨hi.toNat, by omega⟩
              exact dox_scan a l g n8 ht hop k hh (by omega) (by omega) val hok
            · have hk : kind = 2 ∨ kind = 3 ∨ kind = 4 := by omega
              have hi0 : hi = 0 := by
                unfold okI at hok
                rcases hk with c | c | c
                · subst c; have := of_decide_eq_true hok; exact this.2.2.2.2
                · subst c; have := of_decide_eq_true hok; exact this.2.2.2.2
                · subst c; have := of_decide_eq_true hok; exact this.2.2.1
              subst hi0
              have r : x.run n ⟨kind, k, 0, val⟩ = (x.count n).write n ⟨kind, k, 0, val⟩ := by unfold MoI.run; rw [if_neg (show ¬ kind = 7 by omega), if_neg (show ¬ kind = 6 by omega), if_neg k1, if_neg k5]
              rw [r]
              exact dox_write a l g n8 ht hop kind val hk k64 hok
theorem md_do (h : Md W w m S x) (s : Int) (o : OpI) (hs : I64 s) (ho : OpB o) (r : ReI) (e0 : Int) (y : MoI) (hr : x.doR s o = r) (he : x.doE s o = e0) (hy : x.doM s o = y) :
  Calls Try.prog 19 #[.pointer (some ⟨m, 0, none⟩), .int .i64 s, opV o] w (MdTold W w m S (fun u => .tuple #[reV r u, .int .i64 e0]) (fun w' u => OwnPr w' u r.pairs) y) := by
 subst hr; subst he; subst hy
 obtain ⟨K, ow, z, a, ⟨L, io, l⟩, e⟩ := h.ld
 refine (ldo_any a l h.gd s o).mono ?_
 rintro e2 w' ⟨u, z', K', o', rfl, lr, ou, og, a2, k2, n3⟩
 obtain ⟨m1, m2⟩ := h.step e (good_do h.gd s o) a2 lr k2 n3
 exact ⟨u, _, rfl, ou, fun g hg => ⟨(og g hg).1, fun c => c (og g hg).2⟩, m1, m2⟩
end
end Go.Proofs.Ytalkfnblnlcklaa
