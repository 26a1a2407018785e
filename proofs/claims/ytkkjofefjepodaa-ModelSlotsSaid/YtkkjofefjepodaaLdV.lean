/- Package model as landed, in plain lists, fourth part: what still holds; Pairs; how many versions there are; the lowest begin. No dump; no condition. -/
import Derived.Test.YtkkjofefjepodaaLdW
namespace Go.Proofs.Ytkkjofefjepodaa
set_option linter.unusedVariables false
set_option linter.unusedSimpArgs false
section
variable {L : List (Nat × VeI)} {io : Nat → Int} {z : LdI} {x : MoI} {i : Nat} {t : TtI}
theorem keysI_mem (lo k : Int) : ∀ n : Nat, k ∈ keysI lo n ↔ lo ≤ k ∧ k < lo + n := by
  intro n
  induction n generalizing lo with
  | zero => simp [keysI] <;> omega
  | succ n ih =>
    show k ∈ lo :: keysI (lo + 1) n ↔ _
    rw [List.mem_cons, ih]
    omega
theorem keysI_nat (lo : Nat) : ∀ n : Nat, keysI (lo : Int) n = (List.range' lo n).map (fun k : Nat => (k : Int)) := by
  intro n
  induction n generalizing lo with
  | zero => rfl
  | succ n ih =>
    show (lo : Int) :: keysI ((lo : Int) + 1) n = _
    rw [show ((lo : Int) + 1) = ((lo + 1 : Nat) : Int) by omega, ih, List.range'_succ]
    rfl
/-- What a session relies on is looked at anew. -/
def holdsL (z : LdI) (t : TtI) (fin : Int) : Bool := (List.range 64).all fun k => !t.again k || decide (((z.k k).find? (existV z.F t.start)).map VeI.b = ((z.k k).find? (existV z.F fin)).map VeI.b)
theorem LrL.same_there (h : LrL L io z x) {k : Nat} (hk : k < 64) (a b : Int) : ((z.k k).find? (existV z.F a)).map VeI.b = ((z.k k).find? (existV z.F b)).map VeI.b ↔ x.v.findIdx? (thereV k a) = x.v.findIdx? (thereV k b) := by
  cases ca : x.v.findIdx? (thereV k a) with
  | none =>
    rw [h.find_none hk (h.q_exist k a) ca]
    cases cb : x.v.findIdx? (thereV k b) with
    | none => rw [h.find_none hk (h.q_exist k b) cb]; simp
    | some j =>
      obtain ⟨v, _, _, _, e⟩ := h.find_some hk (h.q_exist k b) cb
      rw [e]; simp
  | some n =>
    obtain ⟨v, a1, _, _, ea⟩ := h.find_some hk (h.q_exist k a) ca
    rw [ea]
    cases cb : x.v.findIdx? (thereV k b) with
    | none => rw [h.find_none hk (h.q_exist k b) cb]; simp
    | some j =>
      obtain ⟨u, b1, _, _, eb⟩ := h.find_some hk (h.q_exist k b) cb
      rw [eb]
      simp only [Option.map_some, Option.some.injEq]
      refine ⟨fun e => h.uniq a1 b1 e, fun e => ?_⟩
      subst e
      rw [a1] at b1
      cases b1; rfl
theorem LrL.holds (h : LrL L io z x) (g : Good x) (hi : i < 8) (ht : z.s i = some t) (fin : Int) (hf : x.time ≤ fin) : holdsL z t fin = (decide (t.level = 1) || ({ x with time := fin } : MoI).holds (x.s i)) := by
  have ts := h.ts i t hi ht
  have id0 : (x.s i).id ≠ 0 := by rw [ts.id]; exact ts.nz
  have lv := (g.ses i hi).lv id0
  rw [Bool.eq_iff_iff, Bool.or_eq_true, decide_eq_true_iff]
  unfold holdsL MoI.holds
  rw [List.all_eq_true, List.all_eq_true]
  constructor
  · intro H
    by_cases l1 : t.level = 1
    · exact .inl l1
    · refine .inr fun r hr => ?_
      rw [Bool.or_eq_true]
      by_cases sk : (x.s i).level = 2 ∧ r.found = false
      · left; simp [sk.1, sk.2]
      · right
        rw [List.all_eq_true]
        intro k hk
        have rb := (g.ses i hi).rb r hr
        rw [keysI_mem] at hk
        obtain ⟨n, rfl⟩ : ∃ n : Nat, k = (n : Int) := ⟨k.toNat, by omega⟩
        have n64 : n < 64 := by omega
        have ag := ts.an n n64 (by rw [← ts.level]; rw [← ts.level] at l1; omega) ⟨r, hr, sk, by omega, by omega⟩
        have := H n (List.mem_range.2 n64)
        rw [ag] at this
        have e := of_decide_eq_true (Bool.or_eq_true_iff.1 this |>.resolve_left (by simp))
        rw [h.same_there n64] at e
        rw [decide_eq_true_iff, ts.start]
        exact e
  · intro H k hk
    have k64 := List.mem_range.1 hk
    cases ca : t.again k with
    | false => rfl
    | true =>
      obtain ⟨l2, nw⟩ := ts.ag k k64 ca
      show decide _ = true
      rw [decide_eq_true_iff, h.same_there k64]
      rcases nw with ⟨r, hr, sk, a, b⟩ | hw
      · have hh := (H.resolve_left (by omega)) r hr
        rw [Bool.or_eq_true] at hh
        have hh := hh.resolve_left (by
          intro c
          rw [Bool.and_eq_true, decide_eq_true_iff, Bool.not_eq_true'] at c
          exact sk c)
        have := List.all_eq_true.1 hh k ((keysI_mem _ _ _).2 (by omega))
        have := of_decide_eq_true this
        rw [ts.start] at this
        exact this
      · refine findIdx_congr _ _ _ fun y hy => ?_
        rw [Bool.eq_iff_iff, there_iff, there_iff]
        have st := ts.start
        refine and_congr_right fun e => and_congr_right fun d => and_congr_right fun b0 => ?_
        have f := g.fst i k hi hw y hy e d b0
        omega
theorem find_le_one {α : Type} (Q : α → Bool) : ∀ (l : List α), (∀ (a b : Nat) (p q : α), l[a]? = some p → l[b]? = some q → Q p = true → Q q = true → a = b) → l.filter Q = match l.findIdx? Q with | some j => (match l[j]? with | some y => [y] | none => []) | none => [] := by
  intro l
  induction l with
  | nil => intro _; rfl
  | cons y l ih =>
    intro hu
    rw [List.findIdx?_cons, List.filter_cons]
    cases c : Q y with
    | true =>
      have : l.filter Q = [] := List.filter_eq_nil_iff.2 fun b hb hq => by
        obtain ⟨n, hn⟩ := List.mem_iff_getElem?.1 hb
        have := hu 0 (n + 1) y b rfl (by simpa using hn) c hq
        omega
      simp [this]
    | false =>
      have := ih fun a b p q ha hb hp hq => by
        have := hu (a + 1) (b + 1) p q (by simpa using ha) (by simpa using hb) hp hq
        omega
      simp only [Bool.false_eq_true, if_false]
      rw [this]
      cases l.findIdx? Q with
      | none => rfl
      | some n => simp
/-- The Pairs of the keys from lo on, n of them, that hold. -/
def pairsL (z : LdI) (P : VeI → Bool) (lo n : Nat) : List (Int × Int) := (List.range' lo n).flatMap fun k => match (z.k k).find? P with | some v => [((k : Int), v.val)] | none => []
theorem flatMap_congr {α β : Type} {f g : α → List β} {l : List α} (h : ∀ a ∈ l, f a = g a) : l.flatMap f = l.flatMap g := by
  induction l with
  | nil => rfl
  | cons a l ih => rw [List.flatMap_cons, List.flatMap_cons, h a (by simp), ih fun b hb => h b (by simp [hb])]
theorem LrL.pairs (h : LrL L io z x) (g : Good x) (at' : Int) : pairsL z (existV z.F at') 0 64 = x.pairs at' := by
  unfold pairsL MoI.pairs
  rw [show keysI 0 64 = (List.range' 0 64).map (fun k : Nat => (k : Int)) from keysI_nat 0 64, List.flatMap_map]
  refine flatMap_congr fun k hk => ?_
  have k64 : k < 64 := by simp [List.mem_range'] at hk; omega
  show _ = MoI.pairsOf x.v at' k
  unfold MoI.pairsOf
  rw [find_le_one (thereV k at') x.v fun a b p q ha hb hp hq => ?_]
  · cases c : x.v.findIdx? (thereV k at') with
    | none => rw [h.find_none k64 (h.q_exist k at') c]; rfl
    | some j =>
      obtain ⟨v, a1, _, a3, a4⟩ := h.find_some k64 (h.q_exist k at') c
      rw [a4]
      simp only
      rw [a3]
      rfl
  · obtain ⟨e1, d1, b1, s1, t1⟩ := there_iff.1 hp
    obtain ⟨e2, d2, b2, s2, t2⟩ := there_iff.1 hq
    by_cases e : a = b
    · exact e
    · have := (apart_at g.two ha hb e (e1.trans e2.symm) d1 d2).1 b1 b2
      omega
theorem LrL.scan (h : LrL L io z x) (g : Good x) (hi : i < 8) (ht : z.s i = some t) (lo hi' : Nat) (hl : lo ≤ hi') (hh : hi' < 64) : pairsL z (seesV z.F t) lo (hi' + 1 - lo) = scanI x.v (x.s i).id (x.s i).start lo hi' := by
  unfold pairsL scanI
  rw [show ((hi' : Int) + 1 - lo).toNat = hi' + 1 - lo by omega, keysI_nat, List.flatMap_map]
  refine flatMap_congr fun k hk => ?_
  have k64 : k < 64 := by simp [List.mem_range'] at hk; omega
  show _ = pairI x.v (x.s i).id (x.s i).start k
  unfold pairI
  rcases h.sees g hi ht k64 with ⟨a, b⟩ | ⟨j, v, a, b, c, _⟩
  · rw [a, b]
  · rw [a, c]
    simp only
    unfold valI
    rw [h.at b]
    rfl
theorem LrL.used (h : LrL L io z x) : ((List.range 64).map fun k => (z.k k).length).sum = x.v.length := by
  rw [h.v, List.length_map]
  have : (List.range 64).map (fun k => (z.k k).length) = (List.range 64).map fun k => (L.filter fun p => decide (p.1 = k)).length := List.map_congr_left fun k hk => by rw [h.k k (List.mem_range.1 hk), List.length_map]
  rw [this]
  have key : ∀ (M : List (Nat × VeI)), (∀ p ∈ M, p.1 < 64) → ((List.range 64).map fun k => (M.filter fun p => decide (p.1 = k)).length).sum = M.length := by
    intro M
    induction M with
    | nil => intro _; rfl
    | cons p M ih =>
      intro hM
      have ih := ih fun q hq => hM q (by simp [hq])
      have p64 := hM p (by simp)
      have step : ∀ n, p.1 < n → ((List.range n).map fun k => ((p :: M).filter fun q => decide (q.1 = k)).length).sum = ((List.range n).map fun k => (M.filter fun q => decide (q.1 = k)).length).sum + 1 := by
        intro n
        induction n with
        | zero => intro h; omega
        | succ n ihn =>
          intro hn
          rw [List.range_succ, List.map_append, List.map_append, List.sum_append, List.sum_append]
          by_cases e : p.1 = n
          · have lo : (List.range n).map (fun k => ((p :: M).filter fun q => decide (q.1 = k)).length) = (List.range n).map fun k => (M.filter fun q => decide (q.1 = k)).length := List.map_congr_left fun k hk => by
              have := List.mem_range.1 hk
              rw [List.filter_cons, if_neg (by simp; omega)]
            rw [lo]
            simp [e]
            omega
          · rw [ihn (by omega)]
            simp [List.filter_cons, e]
            omega
      rw [step 64 p64, ih, List.length_cons]
  exact key L h.lt
/-- The lowest begin of those that live, above all times if there is none. -/
def lowL (x : MoI) : Int := (List.range 8).foldl (fun a i => if (x.s i).id ≠ 0 then min a (x.s i).start else a) 18446744073709551615
theorem low_min (x : MoI) (T : Int) (h : ∀ i, i < 8 → (x.s i).id ≠ 0 → (x.s i).start ≤ T) (hT : x.time ≤ T) : x.low = min x.time ((List.range 8).foldl (fun a i => if (x.s i).id ≠ 0 then min a (x.s i).start else a) T) := by
  unfold MoI.low
  have : ∀ (l : List Nat) (a b : Int), a ≤ b → (∀ i ∈ l, True) → l.foldl (fun a i => if (x.s i).id ≠ 0 then min a (x.s i).start else a) a = min a (l.foldl (fun a i => if (x.s i).id ≠ 0 then min a (x.s i).start else a) b) := by
    intro l
    induction l with
    | nil => intro a b hab _; show a = min a b; omega
    | cons i l ih =>
      intro a b hab _
      rw [List.foldl_cons, List.foldl_cons]
      by_cases e : (x.s i).id ≠ 0
      · rw [if_pos e, if_pos e, ih (min a (x.s i).start) (min b (x.s i).start) (by omega) (fun _ _ => trivial)]
        have : (l.foldl (fun a i => if (x.s i).id ≠ 0 then min a (x.s i).start else a) (min b (x.s i).start)) ≤ min b (x.s i).start := by
          have mono : ∀ (l : List Nat) (a : Int), l.foldl (fun a i => if (x.s i).id ≠ 0 then min a (x.s i).start else a) a ≤ a := by
            intro l
            induction l with
            | nil => intro a; exact Int.le_refl _
            | cons j l ih2 =>
              intro a
              rw [List.foldl_cons]
              refine Int.le_trans (ih2 _) ?_
              split <;> omega
          exact mono l _
        omega
      · rw [if_neg e, if_neg e]; exact ih a b hab (fun _ _ => trivial)
  exact this _ _ _ hT (fun _ _ => trivial)
theorem Good.keep_low (g : Good x) : ∀ y ∈ x.v, MoI.keepV x.low y = MoI.keepV (lowL x) y := by
  intro y hy
  have vo := g.ver y hy
  have tm := g.time
  have cf := g.conf
  have st : y.stop ≤ x.time := by
    by_cases b0 : y.bY = 0
    · have := vo.tm b0; omega
    · have := (vo.by' b0).1; omega
  have := low_min x 18446744073709551615 (fun i hi hid => by have := (g.ses i hi).lv hid; omega) (by omega)
  have e : x.low = min x.time (lowL x) := this
  unfold MoI.keepV
  rw [e]
  congr 2
  rw [Bool.eq_iff_iff, decide_eq_true_iff, decide_eq_true_iff]
  omega
/-- A Collect. -/
theorem LrL.collect (h : LrL L io z x) (g : Good x) : LrL (L.filter fun p => !garbV z.F (lowL x) p.2) io { z with k := fun k => (z.k k).filter fun v => !garbV z.F (lowL x) v } x.collect := by
  have := h.filt (lowL x) fun i u hi hu p hp hm => ?_
  · have e : x.collect = { x with v := x.v.filter (MoI.keepV (lowL x)) } := by
      unfold MoI.collect
      rw [List.filter_congr g.keep_low]
    rw [e]; exact this
  · have tu := h.ts i u hi hu
    have vo := g.ver _ (h.mem hp)
    have um := h.mu p hp
    have ue := h.en p hp
    obtain ⟨k', b, val, mk, en⟩ := p
    have vb := vo.by'
    have ve := vo.en
    unfold garbV byF
    unfold verOf endO stopO at vb ve
    simp only at hm vb ve um ue ⊢
    rcases hm with hm | hm
    · have s1 : (z.F mk).st = 1 := by rw [hm]; exact tu.st
      rw [Bool.or_eq_false_iff]
      refine ⟨by rw [decide_eq_false_iff_not]; omega, ?_⟩
      cases en with
      | none => rfl
      | some d =>
        have f := (ue d rfl).fin
        have v1 := (vb (by rw [if_neg (by omega)]; exact um.nz)).1
        simp only at v1 ⊢
        by_cases s3 : (z.F d).st = 3
        · rw [if_pos s3] at v1; have := f s3; omega
        · simp [s3]
    · rw [hm] at ve ⊢
      simp only at ve ⊢
      have un := (ue u.f hm).nz
      have v1 := (ve (by rw [if_pos tu.st]; exact un)).1
      rw [decide_eq_false_iff_not] at v1
      rw [Bool.or_eq_false_iff]
      refine ⟨by rw [decide_eq_false_iff_not]; exact v1, ?_⟩
      rw [tu.st]; simp
end
end Go.Proofs.Ytkkjofefjepodaa
