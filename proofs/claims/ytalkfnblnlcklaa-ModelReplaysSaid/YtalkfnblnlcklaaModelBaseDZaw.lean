/- Several texts, one behind the other: LdV, MdG. -/
import Derived.Test.YtalkfnblnlcklaaModelBaseDZan
/- Package model as landed, in plain lists, fourth part: what still holds; Pairs; how many versions there are; the lowest begin. No dump; no condition. -/
namespace Go.Proofs.Ytalkfnblnlcklaa
set_option linter.unusedVariables false
set_option linter.unusedSimpArgs false
section
variable {L : List (Nat × VeI)} {io : Nat → Int} {z : LdI} {x : MoI} {i : Nat} {t : TtI}
theorem keysI_mem (lo k : Int) : ∀ n : Nat, k ∈ keysI lo n ↔ lo ≤ k ∧ k < lo + n := by
  intro n
  induction n generalizing lo with
  | zero => simp [keysI] <;> omega
  | succ n ih =>
    show k ∈ lo :: keysI (lo + 1) n ↔ _
    rw [List.mem_cons, ih]
    omega
theorem keysI_nat (lo : Nat) : ∀ n : Nat, keysI (lo : Int) n = (List.range' lo n).map (fun k : Nat => (k : Int)) := by
  intro n
  induction n generalizing lo with
  | zero => rfl
  | succ n ih =>
    show (lo : Int) :: keysI ((lo : Int) + 1) n = _
    rw [show ((lo : Int) + 1) = ((lo + 1 : Nat) : Int) by omega, ih, List.range'_succ]
    rfl
/-- What a session relies on is looked at anew. -/
def holdsL (z : LdI) (t : TtI) (fin : Int) : Bool := (List.range 64).all fun k => !t.again k || decide (((z.k k).find? (existV z.F t.start)).map VeI.b = ((z.k k).find? (existV z.F fin)).map VeI.b)
theorem LrL.same_there (h : LrL L io z x) {k : Nat} (hk : k < 64) (a b : Int) : ((z.k k).find? (existV z.F a)).map VeI.b = ((z.k k).find? (existV z.F b)).map VeI.b ↔ x.v.findIdx? (thereV k a) = x.v.findIdx? (thereV k b) := by
  cases ca : x.v.findIdx? (thereV k a) with
  | none =>
    rw [h.find_none hk (h.q_exist k a) ca]
    cases cb : x.v.findIdx? (thereV k b) with
    | none => rw [h.find_none hk (h.q_exist k b) cb]; simp
    | some j =>
      obtain ⟨v, _, _, _, e⟩ := h.find_some hk (h.q_exist k b) cb
      rw [e]; simp
  | some n =>
    obtain ⟨v, a1, _, _, ea⟩ := h.find_some hk (h.q_exist k a) ca
    rw [ea]
    cases cb : x.v.findIdx? (thereV k b) with
    | none => rw [h.find_none hk (h.q_exist k b) cb]; simp
    | some j =>
      obtain ⟨u, b1, _, _, eb⟩ := h.find_some hk (h.q_exist k b) cb
      rw [eb]
      simp only [Option.map_some, Option.some.injEq]
      refine ⟨fun e => h.uniq a1 b1 e, fun e => ?_⟩
      subst e
      rw [a1] at b1
      cases b1; rfl
theorem LrL.holds (h : LrL L io z x) (g : Good x) (hi : i < 8) (ht : z.s i = some t) (fin : Int) (hf : x.time ≤ fin) : holdsL z t fin = (decide (t.level = 1) || ({ x with time := fin } : MoI).holds (x.s i)) := by
  have ts := h.ts i t hi ht
  have id0 : (x.s i).id ≠ 0 := by rw [ts.id]; exact ts.nz
  have lv := (g.ses i hi).lv id0
  rw [Bool.eq_iff_iff, Bool.or_eq_true, decide_eq_true_iff]
  unfold holdsL MoI.holds
  rw [List.all_eq_true, List.all_eq_true]
  constructor
  · intro H
    by_cases l1 : t.level = 1
    · exact .inl l1
    · refine .inr fun r hr => ?_
      rw [Bool.or_eq_true]
      by_cases sk : (x.s i).level = 2 ∧ r.found = false
      · left; simp [sk.1, sk.2]
      · right
        rw [List.all_eq_true]
        intro k hk
        have rb := (g.ses i hi).rb r hr
        rw [keysI_mem] at hk
        obtain ⟨n, rfl⟩ : ∃ n : Nat, k = (n : Int) := ⟨k.toNat, by omega⟩
        have n64 : n < 64 := by omega
        have ag := ts.an n n64 (by rw [← ts.level]; rw [← ts.level] at l1; omega) ⟨r, hr, sk, by omega, by omega⟩
        have := H n (List.mem_range.2 n64)
        rw [ag] at this
        have e := of_decide_eq_true (Bool.or_eq_true_iff.1 this |>.resolve_left (by simp))
        rw [h.same_there n64] at e
        rw [decide_eq_true_iff, ts.start]
        exact e
  · intro H k hk
    have k64 := List.mem_range.1 hk
    cases ca : t.again k with
    | false => rfl
    | true =>
      obtain ⟨l2, nw⟩ := ts.ag k k64 ca
      show decide _ = true
      rw [decide_eq_true_iff, h.same_there k64]
      rcases nw with ⟨r, hr, sk, a, b⟩ | hw
      · have hh := (H.resolve_left (by omega)) r hr
        rw [Bool.or_eq_true] at hh
        have hh := hh.resolve_left (by
          intro c
          rw [Bool.and_eq_true, decide_eq_true_iff, Bool.not_eq_true'] at c
          exact sk c)
        have := List.all_eq_true.1 hh k ((keysI_mem _ _ _).2 (by omega))
        have := of_decide_eq_true this
        rw [ts.start] at this
        exact this
      · refine findIdx_congr _ _ _ fun y hy => ?_
        rw [Bool.eq_iff_iff, there_iff, there_iff]
        have st := ts.start
        refine and_congr_right fun e => and_congr_right fun d => and_congr_right fun b0 => ?_
        have f := g.fst i k hi hw y hy e d b0
        omega
theorem find_le_one {α : Type} (Q : α → Bool) : ∀ (l : List α), (∀ (a b : Nat) (p q : α), l[a]? = some p → l[b]? = some q → Q p = true → Q q = true → a = b) → l.filter Q = match l.findIdx? Q with | some j => (match l[j]? with | some y => [y] | none => []) | none => [] := by
  intro l
  induction l with
  | nil => intro _; rfl
  | cons y l ih =>
    intro hu
    rw [List.findIdx?_cons, List.filter_cons]
    cases c : Q y with
    | true =>
      have : l.filter Q = [] := List.filter_eq_nil_iff.2 fun b hb hq => by
        obtain ⟨n, hn⟩ := List.mem_iff_getElem?.1 hb
        have := hu 0 (n + 1) y b rfl (by simpa using hn) c hq
        omega
      simp [this]
    | false =>
      have := ih fun a b p q ha hb hp hq => by
        have := hu (a + 1) (b + 1) p q (by simpa using ha) (by simpa using hb) hp hq
        omega
      simp only [Bool.false_eq_true, if_false]
      rw [this]
      cases l.findIdx? Q with
      | none => rfl
      | some n => simp
/-- The Pairs of the keys from lo on, n of them, that hold. -/
def pairsL (z : LdI) (P : VeI → Bool) (lo n : Nat) : List (Int × Int) := (List.range' lo n).flatMap fun k => match (z.k k).find? P with | some v => [((k : Int), v.val)] | none => []
theorem flatMap_congr {α β : Type} {f g : α → List β} {l : List α} (h : ∀ a ∈ l, f a = g a) : l.flatMap f = l.flatMap g := by
 induction l with
 | nil => rfl
 | cons a l ih => rw [List.flatMap_cons, List.flatMap_cons, h a (by simp), ih fun b hb => h b (by simp [hb])]
theorem LrL.pairs (h : LrL L io z x) (g : Good x) (at' : Int) : pairsL z (existV z.F at') 0 64 = x.pairs at' := by
  unfold pairsL MoI.pairs
  rw [show keysI 0 64 = (List.range' 0 64).map (fun k : Nat => (k : Int)) from keysI_nat 0 64, List.flatMap_map]
  refine flatMap_congr fun k hk => ?_
  have k64 : k < 64 := by simp [List.mem_range'] at hk; omega
  show _ = MoI.pairsOf x.v at' k
  unfold MoI.pairsOf
  rw [find_le_one (thereV k at') x.v fun a b p q ha hb hp hq => ?_]
  · cases c : x.v.findIdx? (thereV k at') with
    | none => rw [h.find_none k64 (h.q_exist k at') c]; rfl
    | some j =>
      obtain ⟨v, a1, _, a3, a4⟩ := h.find_some k64 (h.q_exist k at') c
      rw [a4]
      simp only
      rw [a3]
      rfl
  · obtain ⟨e1, d1, b1, s1, t1⟩ := there_iff.1 hp
    obtain ⟨e2, d2, b2, s2, t2⟩ := there_iff.1 hq
    by_cases e : a = b
    · exact e
    · have := (apart_at g.two ha hb e (e1.trans e2.symm) d1 d2).1 b1 b2
      omega
theorem LrL.scan (h : LrL L io z x) (g : Good x) (hi : i < 8) (ht : z.s i = some t) (lo hi' : Nat) (hl : lo ≤ hi') (hh : hi' < 64) : pairsL z (seesV z.F t) lo (hi' + 1 - lo) = scanI x.v (x.s i).id (x.s i).start lo hi' := by
 unfold pairsL scanI
 rw [show ((hi' : Int) + 1 - lo).toNat = hi' + 1 - lo by omega, keysI_nat, List.flatMap_map]
 refine flatMap_congr fun k hk => ?_
 have k64 : k < 64 := by simp [List.mem_range'] at hk; omega
 show _ = pairI x.v (x.s i).id (x.s i).start k
 unfold pairI
 rcases h.sees g hi ht k64 with ⟨a, b⟩ | ⟨j, v, a, b, c, _⟩
 ·rw [a, b]
 ·rw [a, c]
  simp only
  unfold valI
  rw [h.at b]
  rfl
theorem LrL.used (h : LrL L io z x) : ((List.range 64).map fun k => (z.k k).length).sum = x.v.length := by
  rw [h.v, List.length_map]
  have : (List.range 64).map (fun k => (z.k k).length) = (List.range 64).map fun k => (L.filter fun p => decide (p.1 = k)).length := List.map_congr_left fun k hk => by rw [h.k k (List.mem_range.1 hk), List.length_map]
  rw [this]
  have key : ∀ (M : List (Nat × VeI)), (∀ p ∈ M, p.1 < 64) → ((List.range 64).map fun k => (M.filter fun p => decide (p.1 = k)).length).sum = M.length := by
    intro M
    induction M with
    | nil => intro _; rfl
    | cons p M ih =>
      intro hM
      have ih := ih fun q hq => hM q (by simp [hq])
      have p64 := hM p (by simp)
      have step : ∀ n, p.1 < n → ((List.range n).map fun k => ((p :: M).filter fun q => decide (q.1 = k)).length).sum = ((List.range n).map fun k => (M.filter fun q => decide (q.1 = k)).length).sum + 1 := by
        intro n
        induction n with
        | zero => intro h; omega
        | succ n ihn =>
          intro hn
          rw [List.range_succ, List.map_append, List.map_append, List.sum_append, List.sum_append]
          by_cases e : p.1 = n
          · have lo : (List.range n).map (fun k => ((p :: M).filter fun q => decide (q.1 = k)).length) = (List.range n).map fun k => (M.filter fun q => decide (q.1 = k)).length := List.map_congr_left fun k hk => by
              have := List.mem_range.1 hk
              rw [List.filter_cons, if_neg (by simp; omega)]
            rw [lo]
            simp [e]
            omega
          · rw [ihn (by omega)]
            simp [List.filter_cons, e]
            omega
      rw [step 64 p64, ih, List.length_cons]
  exact key L h.lt
/-- The lowest begin of those that live, above all times if there is none. -/
def lowL (x : MoI) : Int := (List.range 8).foldl (fun a i => if (x.s i).id ≠ 0 then min a (x.s i).start else a) 18446744073709551615
theorem low_min (x : MoI) (T : Int) (h : ∀ i, i < 8 → (x.s i).id ≠ 0 → (x.s i).start ≤ T) (hT : x.time ≤ T) : x.low = min x.time ((List.range 8).foldl (fun a i => if (x.s i).id ≠ 0 then min a (x.s i).start else a) T) := by
  unfold MoI.low
  have : ∀ (l : List Nat) (a b : Int), a ≤ b → (∀ i ∈ l, True) → l.foldl (fun a i => if (x.s i).id ≠ 0 then min a (x.s i).start else a) a = min a (l.foldl (fun a i => if (x.s i).id ≠ 0 then min a (x.s i).start else a) b) := by
    intro l
    induction l with
    | nil => intro a b hab _; show a = min a b; omega
    | cons i l ih =>
      intro a b hab _
      rw [List.foldl_cons, List.foldl_cons]
      by_cases e : (x.s i).id ≠ 0
      · rw [if_pos e, if_pos e, ih (min a (x.s i).start) (min b (x.s i).start) (by omega) (fun _ _ => trivial)]
        have : (l.foldl (fun a i => if (x.s i).id ≠ 0 then min a (x.s i).start else a) (min b (x.s i).start)) ≤ min b (x.s i).start := by
          have mono : ∀ (l : List Nat) (a : Int), l.foldl (fun a i => if (x.s i).id ≠ 0 then min a (x.s i).start else a) a ≤ a := by
            intro l
            induction l with
            | nil => intro a; exact Int.le_refl _
            | cons j l ih2 =>
              intro a
              rw [List.foldl_cons]
              refine Int.le_trans (ih2 _) ?_
              split <;> omega
          exact mono l _
        omega
      · rw [if_neg e, if_neg e]; exact ih a b hab (fun _ _ => trivial)
  exact this _ _ _ hT (fun _ _ => trivial)
theorem Good.keep_low (g : Good x) : ∀ y ∈ x.v, MoI.keepV x.low y = MoI.keepV (lowL x) y := by
 intro y hy
 have vo := g.ver y hy
 have tm := g.time
 have cf := g.conf
 have st : y.stop ≤ x.time := by
  by_cases b0 : y.bY = 0
  ·have := vo.tm b0; omega
  ·have := (vo.by' b0).1; omega
 have := low_min x 18446744073709551615 (fun i hi hid => by have := (g.ses i hi).lv hid; omega) (by omega)
 have e : x.low = min x.time (lowL x) := this
 unfold MoI.keepV
 rw [e]
 congr 2
 rw [Bool.eq_iff_iff, decide_eq_true_iff, decide_eq_true_iff]
 omega
/-- A Collect. -/
theorem LrL.collect (h : LrL L io z x) (g : Good x) : LrL (L.filter fun p => !garbV z.F (lowL x) p.2) io { z with k := fun k => (z.k k).filter fun v => !garbV z.F (lowL x) v } x.collect := by
  have := h.filt (lowL x) fun i u hi hu p hp hm => ?_
  · have e : x.collect = { x with v := x.v.filter (MoI.keepV (lowL x)) } := by
      unfold MoI.collect
      rw [List.filter_congr g.keep_low]
    rw [e]; exact this
  · have tu := h.ts i u hi hu
    have vo := g.ver _ (h.mem hp)
    have um := h.mu p hp
    have ue := h.en p hp
    obtain ⟨k', b, val, mk, en⟩ := p
    have vb := vo.by'
    have ve := vo.en
    unfold garbV byF
    unfold verOf endO stopO at vb ve
    simp only at hm vb ve um ue ⊢
    rcases hm with hm | hm
    · have s1 : (z.F mk).st = 1 := by rw [hm]; exact tu.st
      rw [Bool.or_eq_false_iff]
      refine ⟨by rw [decide_eq_false_iff_not]; omega, ?_⟩
      cases en with
      | none => rfl
      | some d =>
        have f := (ue d rfl).fin
        have v1 := (vb (by rw [if_neg (by omega)]; exact um.nz)).1
        simp only at v1 ⊢
        by_cases s3 : (z.F d).st = 3
        · rw [if_pos s3] at v1; have := f s3; omega
        · simp [s3]
    · rw [hm] at ve ⊢
      simp only at ve ⊢
      have un := (ue u.f hm).nz
      have v1 := (ve (by rw [if_pos tu.st]; exact un)).1
      rw [decide_eq_false_iff_not] at v1
      rw [Bool.or_eq_false_iff]
      refine ⟨by rw [decide_eq_false_iff_not]; exact v1, ?_⟩
      rw [tu.st]; simp
end
end Go.Proofs.Ytalkfnblnlcklaa
/- Package model as landed, in plain lists: what each call makes of what it tells (Lr), by the ways of Do. No dump; no condition. -/
namespace Go.Proofs.Ytalkfnblnlcklaa
set_option linter.unusedVariables false
set_option linter.unusedSimpArgs false
section
variable {L : List (Nat × VeI)} {io : Nat → Int} {z : LdI} {x : MoI} {i : Nat} {t : TtI} {F : Nat → FtI} {y y' : TxI}
theorem lr_new (slots limit : Int) (F : Nat → FtI) : Lr ⟨slots, limit, 0, 0, fun _ => none, fun _ => [], F⟩ (new0 slots limit) :=
 ⟨[], fun _ => 0, rfl, rfl, rfl, rfl, rfl, fun _ _ => rfl, (fun p hp => by cases hp), List.nodup_nil, (fun p hp => by cases hp), (fun p hp => by cases hp), fun _ _ _ => rfl, (fun _ _ _ h => by cases h)⟩
/-- One more call of a transaction. -/
theorem TsO.ops1 (h : TsO L F io t y) : TsO L F io { t with ops := t.ops + 1 } { y with ops := y.ops + 1 } :=
 ⟨h.id, h.nz, h.level, h.start, by show y.ops + 1 = t.ops + 1; rw [h.ops], h.st, h.io, h.wr, h.ag, h.an⟩
/-- .. that has read. -/
theorem TsO.reads (h : TsO L F io t y) (lvl lo hi : Int) (found scan : Bool) (hl : lvl = if found = true then 2 else 3) : TsO L F io { t with again := fun k => t.again k || (decide (lvl ≤ t.level) && decide (lo ≤ (k : Int)) && decide ((k : Int) ≤ hi)) } { y with reads := y.reads ++ [⟨lo, hi, found, scan⟩] } := by
 have old : ∀ k, needs y k → needs { y with reads := y.reads ++ [⟨lo, hi, found, scan⟩] } k := fun k ⟨r, hr, a⟩ => ⟨r, List.mem_append.2 (.inl hr), a⟩
 refine ⟨h.id, h.nz, h.level, h.start, h.ops, h.st, h.io, h.wr, fun k hk ha => ?_, fun k hk h2 hn => ?_⟩
 ·have ha : (t.again k || (decide (lvl ≤ t.level) && decide (lo ≤ (k : Int)) && decide ((k : Int) ≤ hi))) = true := ha
  rw [Bool.or_eq_true, Bool.and_eq_true, Bool.and_eq_true, decide_eq_true_iff, decide_eq_true_iff, decide_eq_true_iff] at ha
  rcases ha with ha | ⟨⟨a, b⟩, c⟩
  ·obtain ⟨p, q⟩ := h.ag k hk ha
   exact ⟨p, q.imp (old _) fun q => q⟩
  ·have l2 : 2 ≤ t.level := by rw [hl] at a; split at a <;> omega
   refine ⟨l2, .inl ⟨_, List.mem_append.2 (.inr (List.mem_singleton.2 rfl)), fun e => ?_, b, c⟩⟩
   have e1 : y.level = 2 := e.1
   have e2 : found = false := e.2
   rw [hl, e2] at a
   rw [h.level] at e1
   simp at a
   omega
 ·show (t.again k || (decide (lvl ≤ t.level) && decide (lo ≤ (k : Int)) && decide ((k : Int) ≤ hi))) = true
  have h2 : 2 ≤ t.level := h2
  obtain ⟨r, hr, sk, a, b⟩ := hn
  rcases List.mem_append.1 hr with q | q
  ·rw [h.an k hk h2 ⟨r, q, sk, a, b⟩]; rfl
  ·have := List.mem_singleton.1 q
   subst this
   have sk : ¬ (y.level = 2 ∧ found = false) := sk
   rw [h.level] at sk
   rw [Bool.or_eq_true]
   right
   rw [Bool.and_eq_true, Bool.and_eq_true, decide_eq_true_iff, decide_eq_true_iff, decide_eq_true_iff]
   refine ⟨⟨?_, a⟩, b⟩
   rw [hl]
   cases found with
   | true => simp; omega
   | false => simp at sk ⊢; omega
/-- .. of a key that it has written. -/
theorem TsO.again1 (h : TsO L F io t y) (lvl : Int) (hl : 2 ≤ lvl) {key : Nat} (hk : (key : Int) ∈ y.wrote) : TsO L F io { t with again := fun k => t.again k || (decide (lvl ≤ t.level) && decide ((key : Int) ≤ (k : Int)) && decide ((k : Int) ≤ (key : Int))) } y := by
 refine ⟨h.id, h.nz, h.level, h.start, h.ops, h.st, h.io, h.wr, fun k hk' ha => ?_, fun k hk' h2 hn => ?_⟩
 ·have ha : (t.again k || (decide (lvl ≤ t.level) && decide ((key : Int) ≤ (k : Int)) && decide ((k : Int) ≤ (key : Int)))) = true := ha
  rw [Bool.or_eq_true, Bool.and_eq_true, Bool.and_eq_true, decide_eq_true_iff, decide_eq_true_iff, decide_eq_true_iff] at ha
  rcases ha with ha | ⟨⟨a, b⟩, c⟩
  ·exact h.ag k hk' ha
  ·refine ⟨by show 2 ≤ t.level; omega, .inr ?_⟩
   rw [show (k : Int) = key by omega]; exact hk
 ·show (t.again k || _) = true
  rw [h.an k hk' h2 hn]; rfl
/-- .. that has written a key. -/
theorem TsO.wrote1 (h : TsO L F io t y) (key : Nat) {p : Nat × VeI} (hp : p ∈ L) (e : p.1 = key) (hm : p.2.mr = t.f ∨ p.2.en = some t.f) : TsO L F io t { y with wrote := if (key : Int) ∈ y.wrote then y.wrote else y.wrote ++ [(key : Int)] } := by
 have sub : ∀ k, k ∈ y.wrote → k ∈ (if (key : Int) ∈ y.wrote then y.wrote else y.wrote ++ [(key : Int)]) := fun k hk => by
  split
  ·exact hk
  ·exact List.mem_append.2 (.inl hk)
 refine ⟨h.id, h.nz, h.level, h.start, h.ops, h.st, h.io, fun k hk => ?_, fun k hk ha => ?_, h.an⟩
 ·have hk : k ∈ (if (key : Int) ∈ y.wrote then y.wrote else y.wrote ++ [(key : Int)]) := hk
  by_cases c : k ∈ y.wrote
  ·exact h.wr k c
  ·have : k = key := by
    split at hk
    ·exact absurd hk c
    ·rcases List.mem_append.1 hk with q | q
     ·exact absurd q c
     ·exact List.mem_singleton.1 q
   exact ⟨p, hp, by omega, hm⟩
 ·obtain ⟨a, b⟩ := h.ag k hk ha
  exact ⟨a, b.imp (fun q => q) (sub _)⟩
theorem LrL.count (h : LrL L io z x) (hi : i < 8) (ht : z.s i = some t) : LrL L io { z with s := putT z.s i (some { t with ops := t.ops + 1 }) } (x.count i) :=
 h.putS hi ht _ _ rfl rfl (h.ts i t hi ht).ops1
/-- A get, a scan, a write that fails: what is read is kept. -/
theorem LrL.keepR (h : LrL L io z x) (hi : i < 8) (ht : z.s i = some t) (lvl lo hi' : Int) (found scan : Bool) (hl : lvl = if found = true then 2 else 3) :
  LrL L io { z with s := putT z.s i (some { t with again := fun k => t.again k || (decide (lvl ≤ t.level) && decide (lo ≤ (k : Int)) && decide ((k : Int) ≤ hi')) }) } (x.keepR i ⟨lo, hi', found, scan⟩) :=
 h.putS hi ht _ _ rfl rfl ((h.ts i t hi ht).reads lvl lo hi' found scan hl)
theorem putS_same {s : Nat → TxI} {i : Nat} : Go.Proofs.Ytalkfnblnlcklaa.putS s i (s i) = s := by
 funext j
 unfold Go.Proofs.Ytalkfnblnlcklaa.putS
 by_cases e : j = i
 ·rw [if_pos e, e]
 ·rw [if_neg e]
theorem LrL.keepA (h : LrL L io z x) (hi : i < 8) (ht : z.s i = some t) (lvl : Int) (hl : 2 ≤ lvl) {key : Nat} (hk : (key : Int) ∈ (x.s i).wrote) :
  LrL L io { z with s := putT z.s i (some { t with again := fun k => t.again k || (decide (lvl ≤ t.level) && decide ((key : Int) ≤ (k : Int)) && decide ((k : Int) ≤ (key : Int))) }) } x := by
 have := h.putS hi ht { t with again := fun k => t.again k || (decide (lvl ≤ t.level) && decide ((key : Int) ≤ (k : Int)) && decide ((k : Int) ≤ (key : Int))) } (x.s i) rfl rfl ((h.ts i t hi ht).again1 lvl hl hk)
 rw [putS_same] at this
 exact this
/-- A session has written a key. -/
theorem LrL.keepW (h : LrL L io z x) (hi : i < 8) (ht : z.s i = some t) (key : Nat) {p : Nat × VeI} (hp : p ∈ L) (e : p.1 = key) (hm : p.2.mr = t.f ∨ p.2.en = some t.f) :
  LrL L io z { x with s := Go.Proofs.Ytalkfnblnlcklaa.putS x.s i { x.s i with wrote := if (key : Int) ∈ (x.s i).wrote then (x.s i).wrote else (x.s i).wrote ++ [(key : Int)] } } := by
 have := h.putS hi ht t _ rfl rfl ((h.ts i t hi ht).wrote1 key hp e hm)
 have e2 : putT z.s i (some t) = z.s := by
  funext j
  unfold putT
  by_cases q : j = i
  ·rw [if_pos q, q, ht]
  ·rw [if_neg q]
 have e3 : ({ z with s := putT z.s i (some t) } : LdI) = z := by rw [e2]
 rw [e3] at this
 exact this
theorem LrL.usT (h : LrL L io z x) (g : Good x) (hi : i < 8) (ht : z.s i = some t) : UsO z.begun z.s z.F io t.f := by
 have ts := h.ts i t hi ht
 refine ⟨.inl ts.st, fun _ => ⟨i, t, hi, ht, rfl⟩, fun e => by rw [ts.st] at e; omega, ?_, fun j u hj' hu e => ?_⟩
 ·rw [ts.io]
  have := (g.ses i hi).id
  have c4 := h.c4
  rw [ts.id] at this
  have := ts.nz
  omega
 ·have tu := h.ts j u hj' hu
  have e2 : i = j := g.ids i j hi hj' (by rw [ts.id]; exact ts.nz) (by rw [ts.id, tu.id, ← ts.io, e])
  subst e2
  rw [ht] at hu
  cases hu; rfl
/-- What is neither barred nor unseen has not been ended by a committed one. -/
theorem stop_free (h : LrL L io z x) (hi : i < 8) (ht : z.s i = some t) {v : VeI} (hs : v.en ≠ some t.f → byF z.F v.en t.start = false) (nc : confV z.F t v = false) : stopO z.F v.en = 0 := by
  have ts := h.ts i t hi ht
  cases hen : v.en with
  | none => rfl
  | some d =>
    unfold stopO
    simp only
    by_cases s3 : (z.F d).st = 3
    · exfalso
      have nd : d ≠ t.f := fun c => by rw [c, ts.st] at s3; omega
      have b := hs (by rw [hen]; simpa using nd)
      unfold confV sinceF at nc
      unfold byF at b
      rw [Bool.or_eq_false_iff] at nc
      have q := nc.2
      rw [hen] at q b
      simp [nd, s3] at q b
      omega
    · rw [if_neg s3]
theorem LrL.conf_mem (h : LrL L io z x) {k : Nat} (hk : k < 64) (hc : (z.k k).find? (confV z.F t) = none) {v : VeI} (hm : (k, v) ∈ L) : confV z.F t v = false := by
 have : v ∈ z.k k := by rw [h.k k hk]; exact List.mem_map.2 ⟨(k, v), List.mem_filter.2 ⟨hm, decide_eq_true rfl⟩, rfl⟩
 have := List.find?_eq_none.1 hc v this
 simpa using this
/-- The version that one sees is ended by oneself. -/
theorem LrL.endV (h : LrL L io z x) (g : Good x) (hi : i < 8) (ht : z.s i = some t) {k : Nat} (hk : k < 64) (hc : (z.k k).find? (confV z.F t) = none) {j : Nat} {v : VeI} (hj : L[j]? = some (k, v)) (hs : seesV z.F t v = true) :
  ∃ L', LrL L' io { z with k := putK z.k k (turnB v.b (fun u => { u with en := some t.f }) (z.k k)) } { x with v := setV x.v j fun y => { y with ended := (x.s i).id } } ∧ ∃ p ∈ L', p.1 = k ∧ p.2.en = some t.f := by
 have ts := h.ts i t hi ht
 have hm := List.mem_of_getElem? hj
 have nc := h.conf_mem (t := t) hk hc hm
 have st0 : stopO z.F v.en = 0 := stop_free h hi ht (fun hne => by
  unfold seesV knowsF at hs
  rw [Bool.and_eq_true] at hs
  have q := hs.2
  rw [Bool.not_eq_true', Bool.or_eq_false_iff] at q
  exact q.2) nc
 obtain ⟨L', hL, hw⟩ := h.turn hj (fun u => { u with en := some t.f }) (fun y => { y with ended := (x.s i).id }) (fun _ => rfl) rfl (fun e he => by cases he; exact h.usT g hi ht) (fun a u ha hu he => by
  by_cases c : u.f = t.f
  ·left; show some t.f = some u.f; rw [c]
  ·exfalso
   have tu := h.ts a u ha hu
   unfold confV sinceF at nc
   rw [Bool.or_eq_false_iff] at nc
   have q := nc.2
   rw [he] at q
   simp [c, tu.st] at q) (by
  unfold verOf
  have e1 : endO z.F io (some t.f) = (x.s i).id := by unfold endO; simp only; rw [if_pos ts.st, ts.io, ts.id]
  have e2 : stopO z.F (some t.f) = 0 := by unfold stopO; simp only; rw [ts.st]; rfl
  simp only [e1, e2, st0])
 refine ⟨L', hL, ?_⟩
 obtain ⟨u', hu', a, _, b⟩ := hw _ hm
 refine ⟨u', hu', a, ?_⟩
 rcases b with b | ⟨_, b⟩
 ·by_cases c : v.en = some t.f
  ·rw [b]; exact c
  ·exfalso
   have nk := hL.nd
   have : (k, v) ∈ L' := by rw [← b]; exact hu'
   have hk2 := hL.k k hk
   rw [show ({ z with k := putK z.k k (turnB v.b (fun u => { u with en := some t.f }) (z.k k)) } : LdI).k k = turnB v.b (fun u => { u with en := some t.f }) (z.k k) from putK_self _ _ _] at hk2
   have : v ∈ turnB v.b (fun u => { u with en := some t.f }) (z.k k) := by rw [hk2]; exact List.mem_map.2 ⟨(k, v), List.mem_filter.2 ⟨this, decide_eq_true rfl⟩, rfl⟩
   obtain ⟨q, _, e⟩ := List.mem_map.1 this
   by_cases q2 : q.b = v.b
   ·rw [if_pos q2] at e
    have := congrArg VeI.en e
    exact c this.symm
   ·rw [if_neg q2] at e
    exact q2 (by rw [e])
 ·rw [b]
/-- One's own version is given a value. -/
theorem LrL.valV (h : LrL L io z x) (hi : i < 8) (ht : z.s i = some t) {k : Nat} (hk : k < 64) (hc : (z.k k).find? (confV z.F t) = none) {j : Nat} {v : VeI} (hj : L[j]? = some (k, v)) (hmr : v.mr = t.f) (hst : stopO z.F v.en = 0) (val : Int) :
  ∃ L', LrL L' io { z with k := putK z.k k (turnB v.b (fun u => { u with val := val, en := none }) (z.k k)) } { x with v := setV x.v j fun y => { y with ended := 0, val := val } } ∧ ∃ p ∈ L', p.1 = k ∧ p.2.mr = t.f := by
 have ts := h.ts i t hi ht
 have hm := List.mem_of_getElem? hj
 have nc := h.conf_mem (t := t) hk hc hm
 obtain ⟨L', hL, hw⟩ := h.turn hj (fun u => { u with val := val, en := none }) (fun y => { y with ended := 0, val := val }) (fun _ => rfl) rfl (fun e he => by cases he) (fun a u ha hu he => by
  by_cases c : u.f = t.f
  ·right; rw [c]; exact hmr
  ·exfalso
   have tu := h.ts a u ha hu
   unfold confV sinceF at nc
   rw [Bool.or_eq_false_iff] at nc
   have q := nc.2
   rw [he] at q
   simp [c, tu.st] at q) (by
  unfold verOf
  simp only [hst]
  rfl)
 refine ⟨L', hL, ?_⟩
 obtain ⟨u', hu', a, b, _⟩ := hw _ hm
 exact ⟨u', hu', a, by rw [b]; exact hmr⟩
/-- A version is made by a session. -/
theorem LrL.newV (h : LrL L io z x) (g : Good x) (hi : i < 8) (ht : z.s i = some t) {k nb : Nat} (hk : k < 64) (hb : ∀ p ∈ L, p.2.b ≠ nb) (val : Int) :
  LrL (L ++ [(k, ⟨nb, val, t.f, none⟩)]) io { z with k := putK z.k k (z.k k ++ [⟨nb, val, t.f, none⟩]) } { x with v := x.v ++ [Go.Proofs.Ytalkfnblnlcklaa.newV k val (x.s i).id] } := by
 have ts := h.ts i t hi ht
 have := h.new hk ⟨nb, val, t.f, none⟩ hb (h.usT g hi ht) rfl
 have e : verOf z.F io (k, ⟨nb, val, t.f, none⟩) = Go.Proofs.Ytalkfnblnlcklaa.newV k val (x.s i).id := by
  unfold verOf Go.Proofs.Ytalkfnblnlcklaa.newV endO stopO
  simp [ts.st, ts.io, ts.id]
 rw [e] at this
 exact this
end
end Go.Proofs.Ytalkfnblnlcklaa
