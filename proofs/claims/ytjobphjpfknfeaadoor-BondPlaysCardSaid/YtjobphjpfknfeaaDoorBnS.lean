/- The row of parties and what the document says of it: who waits for whom, directly and by others, is what the sets hold; kept by each turn. Plain lists; no dump beyond the row's own. -/
import Derived.Test.YtjobphjpfknfeaaDoorBdI
import Derived.Test.YtjobphjpfknfeaaDoorBnO
namespace Go.Proofs.YtjobphjpfknfeaaDoor
set_option linter.unusedVariables false
open Classical

structure Rel (xs : List Pty) (s : BdS) : Prop where
  ids : s.ids = (List.range xs.length).map fun i => ((pty xs i).id, (pty xs i).st)
  ed : ∀ a b, (a, b) ∈ s.ed → ∃ i j, i < xs.length ∧ j < xs.length ∧ (pty xs i).id = a ∧ (pty xs j).id = b
  nd : ∀ i j, i < j → j < xs.length → (pty xs i).id ≠ (pty xs j).id
  bo : ∀ i j, i < xs.length → j < xs.length → ((pty xs i).bo j ↔ s.wt (pty xs i).id (pty xs j).id)
  be : ∀ i j, i < xs.length → j < xs.length → ((pty xs i).be j ↔ s.Rch (pty xs i).id (pty xs j).id)
  ab : ∀ i j, i < xs.length → j < xs.length → (pty xs i).st ≠ 3 → ((pty xs i).ab j ↔ s.Rch (pty xs j).id (pty xs i).id)
  inx : InX xs
  rng : ∀ i, i < xs.length → 1 ≤ (pty xs i).st ∧ (pty xs i).st ≤ 4
  loop : ∀ a, ¬ s.Rch a a
  good : ∀ a b, s.st a = 3 → ¬ s.wt a b
  short : xs.length ≤ 2000
section
variable {xs ys : List Pty} {s t : BdS} {i j k kx ky : Nat} {a b id : Int}
theorem find_mem : ∀ {l : List (Int × Int)} {p : Int × Int}, l.Pairwise (fun p q => p.1 ≠ q.1) → p ∈ l → l.find? (fun q => q.1 == p.1) = some p
  | [], p, _, h => by cases h
  | q :: l, p, hn, h => by
    have h' := List.pairwise_cons.1 hn
    rcases List.mem_cons.1 h with rfl | h
    · rw [List.find?_cons_of_pos (by simp)]
    · rw [List.find?_cons_of_neg (by simpa using h'.1 p h)]
      exact find_mem h'.2 h
theorem Rel.one (h : Rel xs s) (hi : i < xs.length) (hj : j < xs.length) : (pty xs i).id = (pty xs j).id ↔ i = j := by
  constructor
  · intro e
    rcases Nat.lt_trichotomy i j with q | q | q
    · exact absurd e (h.nd i j q hj)
    · exact q
    · exact absurd e.symm (h.nd j i q hi)
  · rintro rfl; rfl
theorem Rel.pw (h : Rel xs s) : s.ids.Pairwise (fun p q => p.1 ≠ q.1) := by
  rw [h.ids, List.pairwise_map]
  refine List.Pairwise.imp_of_mem (fun {a b} ha hb hab => h.nd a b hab (List.mem_range.1 hb)) List.pairwise_lt_range
theorem Rel.st (h : Rel xs s) (hi : i < xs.length) : s.st (pty xs i).id = (pty xs i).st := by
  have hm : ((pty xs i).id, (pty xs i).st) ∈ s.ids := by rw [h.ids]; exact List.mem_map.2 ⟨i, List.mem_range.2 hi, rfl⟩
  have := find_mem h.pw hm
  unfold BdS.st
  rw [this]
theorem Rel.has (h : Rel xs s) : s.has id ↔ ∃ i, i < xs.length ∧ (pty xs i).id = id := by
  unfold BdS.has
  rw [h.ids, List.mem_map]
  constructor
  · rintro ⟨p, hp, rfl⟩
    obtain ⟨i, hi, rfl⟩ := List.mem_map.1 hp
    exact ⟨i, List.mem_range.1 hi, rfl⟩
  · rintro ⟨i, hi, rfl⟩
    exact ⟨_, List.mem_map.2 ⟨i, List.mem_range.2 hi, rfl⟩, rfl⟩
theorem Rel.no (h : Rel xs s) (hn : NoId xs id) : ¬ s.has id := fun c => by
  obtain ⟨i, hi, e⟩ := h.has.1 c
  exact hn i hi e
theorem Rel.st0 (h : Rel xs s) (hn : NoId xs id) : s.st id = 0 := by
  have : s.ids.find? (fun q => q.1 == id) = none := by
    rw [List.find?_eq_none]
    intro p hp c
    rw [h.ids] at hp
    obtain ⟨i, hi, rfl⟩ := List.mem_map.1 hp
    exact hn i (List.mem_range.1 hi) (by simpa using c)
  unfold BdS.st
  rw [this]
theorem Rel.wtP (h : Rel xs s) (w : s.wt a b) : ∃ i j, i < xs.length ∧ j < xs.length ∧ (pty xs i).id = a ∧ (pty xs j).id = b := h.ed a b w.1
theorem Rel.rchP (h : Rel xs s) (r : s.Rch a b) : ∃ i j, i < xs.length ∧ j < xs.length ∧ (pty xs i).id = a ∧ (pty xs j).id = b := by
  induction r with
  | one w => exact h.wtP w
  | more w _ ih =>
    obtain ⟨i, _, hi, _, e, _⟩ := h.wtP w
    obtain ⟨_, j, _, hj, _, e2⟩ := ih
    exact ⟨i, j, hi, hj, e, e2⟩
theorem rch_iff (h : ∀ a b, s.wt a b ↔ t.wt a b) : s.Rch a b ↔ t.Rch a b := ⟨Rch.same fun a b => (h a b).1, Rch.same fun a b => (h a b).2⟩
theorem wt_iff (he : t.ed = s.ed) (h : ∀ b, t.st b = 3 ↔ s.st b = 3) : t.wt a b ↔ s.wt a b := by
  unfold BdS.wt
  rw [he]
  exact ⟨fun q => ⟨q.1, fun c => q.2 ((h b).2 c)⟩, fun q => ⟨q.1, fun c => q.2 ((h b).1 c)⟩⟩
/-- Only states turn, and nobody becomes good, or not good. -/
theorem Rel.restate (h : Rel xs s) (f : Nat → Int) (hl : ys.length = xs.length) (hp : ∀ i, i < xs.length → pty ys i = { pty xs i with st := f i }) (he : t.ed = s.ed) (hids : t.ids = (List.range xs.length).map fun i => ((pty xs i).id, f i)) (h3 : ∀ i, i < xs.length → (f i = 3 ↔ (pty xs i).st = 3)) (hr : ∀ i, i < xs.length → 1 ≤ f i ∧ f i ≤ 4) : Rel ys t := by
  have ids' : ∀ i, i < xs.length → (pty ys i).id = (pty xs i).id := fun i hi => by rw [hp i hi]
  have st' : ∀ i, i < xs.length → (pty ys i).st = f i := fun i hi => by rw [hp i hi]
  have hn : ∀ i j, i < j → j < ys.length → (pty ys i).id ≠ (pty ys j).id := fun i j hij hj => by
    rw [hl] at hj
    rw [ids' i (by omega), ids' j hj]
    exact h.nd i j hij hj
  have hid2 : t.ids = (List.range ys.length).map fun i => ((pty ys i).id, (pty ys i).st) := by
    rw [hids, hl]
    refine List.map_congr_left fun i hi => ?_
    have := List.mem_range.1 hi
    rw [ids' i this, st' i this]
  have pw : t.ids.Pairwise (fun p q => p.1 ≠ q.1) := by
    rw [hid2, List.pairwise_map]
    exact List.Pairwise.imp_of_mem (fun {a b} ha hb hab => hn a b hab (List.mem_range.1 hb)) List.pairwise_lt_range
  have stt : ∀ b, t.st b = 3 ↔ s.st b = 3 := fun b => by
    by_cases hb : ∃ i, i < xs.length ∧ (pty xs i).id = b
    · obtain ⟨i, hi, rfl⟩ := hb
      have hm : ((pty xs i).id, f i) ∈ t.ids := by rw [hids]; exact List.mem_map.2 ⟨i, List.mem_range.2 hi, rfl⟩
      have : t.st (pty xs i).id = f i := by unfold BdS.st; rw [find_mem pw hm]
      rw [this, h.st hi]
      exact h3 i hi
    · have hno : NoId xs b := fun i hi e => hb ⟨i, hi, e⟩
      have : t.st b = 0 := by
        have : t.ids.find? (fun q => q.1 == b) = none := by
          rw [List.find?_eq_none]
          intro p hp c
          rw [hids] at hp
          obtain ⟨i, hi, rfl⟩ := List.mem_map.1 hp
          exact hno i (List.mem_range.1 hi) (by simpa using c)
        unfold BdS.st
        rw [this]
      rw [this, h.st0 hno]
  have wt : ∀ a b, t.wt a b ↔ s.wt a b := fun a b => wt_iff he stt
  have rc : ∀ {a b}, t.Rch a b ↔ s.Rch a b := rch_iff wt
  refine ⟨hid2, fun a b hab => ?_, hn, fun i j hi hj => ?_, fun i j hi hj => ?_, fun i j hi hj hs => ?_, fun i hi q hq => ?_, fun i hi => ?_, fun a => by rw [rc]; exact h.loop a, fun a b ha => by rw [wt]; exact h.good a b ((stt a).1 ha), by rw [hl]; exact h.short⟩
  · rw [he] at hab
    obtain ⟨i, j, hi, hj, e1, e2⟩ := h.ed a b hab
    exact ⟨i, j, by omega, by omega, (ids' i hi).trans e1, (ids' j hj).trans e2⟩
  · rw [hl] at hi hj
    rw [wt, ids' i hi, ids' j hj, hp i hi]
    exact h.bo i j hi hj
  · rw [hl] at hi hj
    rw [rc, ids' i hi, ids' j hj, hp i hi]
    exact h.be i j hi hj
  · rw [hl] at hi hj
    rw [st' i hi] at hs
    rw [rc, ids' i hi, ids' j hj, hp i hi]
    exact h.ab i j hi hj fun c => hs ((h3 i hi).2 c)
  · rw [hl] at hi ⊢
    rw [hp i hi]
    exact h.inx i hi q hq
  · rw [hl] at hi
    rw [st' i hi]
    exact hr i hi
/-- Nothing is there. -/
theorem Rel.none : Rel [] BdS.new := by
  have hw : ∀ a b, ¬ BdS.new.wt a b := fun a b w => by cases w.1
  refine ⟨rfl, fun a b h => (by cases h), fun i j _ hj => absurd hj (Nat.not_lt_zero j), fun i j hi => absurd hi (Nat.not_lt_zero i), fun i j hi => absurd hi (Nat.not_lt_zero i), fun i j hi => absurd hi (Nat.not_lt_zero i), fun i hi => absurd hi (Nat.not_lt_zero i), fun i hi => absurd hi (Nat.not_lt_zero i), fun a r => ?_, fun a b _ => hw a b, Nat.zero_le _⟩
  obtain ⟨c, w, _⟩ := Rch.first r
  exact hw _ _ w
/-- One more id. -/
theorem Rel.opened (h : Rel xs s) (hn : NoId xs id) (hl : xs.length < 2000) : Rel (xs ++ [newP id]) { s with ids := s.ids ++ [(id, 1)] } := by
  have ln : (xs ++ [newP id]).length = xs.length + 1 := by simp
  have pd : ∀ j, pty (xs ++ [newP id]) j = if j < xs.length then pty xs j else if j = xs.length then newP id else noP := fun j => pty_push j
  have po : ∀ j, j < xs.length → pty (xs ++ [newP id]) j = pty xs j := fun j hj => by rw [pd, if_pos hj]
  have pn : pty (xs ++ [newP id]) xs.length = newP id := by rw [pd, if_neg (by omega), if_pos rfl]
  have hst : ∀ b, b ≠ id → ({ s with ids := s.ids ++ [(id, 1)] } : BdS).st b = s.st b := fun b hb => by
    unfold BdS.st
    simp only [List.find?_append]
    cases e : s.ids.find? (fun p => p.1 == b) with
    | some p => rfl
    | none =>
      have : ((id : Int) == b) = false := by simpa using fun q : id = b => hb q.symm
      simp [this]
  have edn : ∀ a b, (a, b) ∈ s.ed → a ≠ id ∧ b ≠ id := fun a b hab => by
    obtain ⟨i, j, hi, hj, e1, e2⟩ := h.ed a b hab
    exact ⟨fun q => hn i hi (e1.trans q), fun q => hn j hj (e2.trans q)⟩
  have wt : ∀ a b, ({ s with ids := s.ids ++ [(id, 1)] } : BdS).wt a b ↔ s.wt a b := fun a b => by
    unfold BdS.wt
    constructor
    · rintro ⟨h1, h2⟩
      rw [hst b (edn a b h1).2] at h2
      exact ⟨h1, h2⟩
    · rintro ⟨h1, h2⟩
      exact ⟨h1, by rw [hst b (edn a b h1).2]; exact h2⟩
  have rc : ∀ {a b}, ({ s with ids := s.ids ++ [(id, 1)] } : BdS).Rch a b ↔ s.Rch a b := rch_iff wt
  have noR : ∀ a, ¬ s.Rch a id ∧ ¬ s.Rch id a := fun a => ⟨fun r => by obtain ⟨_, j, _, hj, _, e⟩ := h.rchP r; exact hn j hj e, fun r => by obtain ⟨i, _, hi, _, e, _⟩ := h.rchP r; exact hn i hi e⟩
  have noW : ∀ a, ¬ s.wt a id ∧ ¬ s.wt id a := fun a => ⟨fun w => (edn _ _ w.1).2 rfl, fun w => (edn _ _ w.1).1 rfl⟩
  have sets : ∀ i q, i < xs.length → q < 2048 → ¬ q < xs.length → ¬ (pty xs i).bo q ∧ ¬ (pty xs i).be q ∧ ¬ (pty xs i).ab q := fun i q hi h8 hq => ⟨fun c => hq ((h.inx i hi q h8).1 c), fun c => hq ((h.inx i hi q h8).2.1 c), fun c => hq ((h.inx i hi q h8).2.2 c)⟩
  have l8 : xs.length < 2048 := by omega
  refine ⟨?_, fun a b hab => ?_, fun i j hij hj => ?_, fun i j hi hj => ?_, fun i j hi hj => ?_, fun i j hi hj hs => ?_, fun i hi q hq => ?_, fun i hi => ?_, fun a => by rw [rc]; exact h.loop a, fun a b ha => ?_, by omega⟩
  · show s.ids ++ [(id, 1)] = _
    rw [ln, List.range_succ, List.map_append, h.ids, List.map_singleton, pn]
    refine congrArg (· ++ [(id, (1 : Int))]) (List.map_congr_left fun i hi => ?_)
    rw [po i (List.mem_range.1 hi)]
  · obtain ⟨i, j, hi, hj, e1, e2⟩ := h.ed a b hab
    exact ⟨i, j, by omega, by omega, by rw [po i hi]; exact e1, by rw [po j hj]; exact e2⟩
  · rw [ln] at hj
    by_cases e : j = xs.length
    · subst e
      rw [po i hij, pn]
      exact hn i hij
    · rw [po i (by omega), po j (by omega)]
      exact h.nd i j hij (by omega)
  · rw [ln] at hi hj
    rw [wt]
    by_cases e : i = xs.length
    · subst e
      rw [pn]
      exact ⟨fun q => q.elim, fun w => ((noW _).2 w).elim⟩
    · rw [po i (by omega)]
      by_cases e2 : j = xs.length
      · subst e2
        rw [pn]
        exact ⟨fun q => ((sets i _ (by omega) l8 (Nat.lt_irrefl _)).1 q).elim, fun w => ((noW _).1 w).elim⟩
      · rw [po j (by omega)]
        exact h.bo i j (by omega) (by omega)
  · rw [ln] at hi hj
    rw [rc]
    by_cases e : i = xs.length
    · subst e
      rw [pn]
      exact ⟨fun q => q.elim, fun w => ((noR _).2 w).elim⟩
    · rw [po i (by omega)]
      by_cases e2 : j = xs.length
      · subst e2
        rw [pn]
        exact ⟨fun q => ((sets i _ (by omega) l8 (Nat.lt_irrefl _)).2.1 q).elim, fun w => ((noR _).1 w).elim⟩
      · rw [po j (by omega)]
        exact h.be i j (by omega) (by omega)
  · rw [ln] at hi hj
    rw [rc]
    by_cases e : i = xs.length
    · subst e
      rw [pn]
      exact ⟨fun q => q.elim, fun w => ((noR _).1 w).elim⟩
    · rw [po i (by omega)] at hs ⊢
      by_cases e2 : j = xs.length
      · subst e2
        rw [pn]
        exact ⟨fun q => ((sets i _ (by omega) l8 (Nat.lt_irrefl _)).2.2 q).elim, fun w => ((noR _).2 w).elim⟩
      · rw [po j (by omega)]
        exact h.ab i j (by omega) (by omega) hs
  · rw [ln] at hi ⊢
    by_cases e : i = xs.length
    · subst e
      rw [pn]
      exact ⟨fun q => q.elim, fun q => q.elim, fun q => q.elim⟩
    · rw [po i (by omega)]
      have := h.inx i (by omega) q hq
      exact ⟨fun c => Nat.lt_succ_of_lt (this.1 c), fun c => Nat.lt_succ_of_lt (this.2.1 c), fun c => Nat.lt_succ_of_lt (this.2.2 c)⟩
  · rw [ln] at hi
    by_cases e : i = xs.length
    · subst e
      rw [pn]
      exact ⟨by show (1 : Int) ≤ 1; omega, by show (1 : Int) ≤ 4; omega⟩
    · rw [po i (by omega)]
      exact h.rng i (by omega)
  · rw [wt]
    by_cases e : a = id
    · subst e
      exact (noW _).2
    · rw [hst a e] at ha
      exact h.good a b ha
theorem mem_up (hl : xs.length ≤ 2000) {P : Nat → Prop} (hP : ∀ q, q < 2048 → P q → q < xs.length) {q : Nat} : q ∈ plc P 2048 ↔ q < xs.length ∧ P q := by
  rw [mem_plc]
  exact ⟨fun c => ⟨hP q c.1 c.2, c.2⟩, fun c => ⟨by omega, c.2⟩⟩
theorem Rel.abk (h : Rel xs s) (hk : k < xs.length) : ∀ q, q < 2048 → ((pty xs k).ab q ∨ q = k) → q < xs.length := fun q hq c => c.elim (h.inx k hk q hq).2.2 fun e => by omega
theorem Rel.nodup (h : Rel xs s) {L : List Nat} (hL : L.Nodup) (hl : ∀ q ∈ L, q < xs.length) : (L.map fun q => (pty xs q).id).Nodup := by
  unfold List.Nodup
  rw [List.pairwise_map]
  refine List.Pairwise.imp_of_mem (fun {a b} ha hb hne e => hne ((h.one (hl a ha) (hl b hb)).1 e)) hL
/-- What For tells. -/
theorem Rel.waits (h : Rel xs s) (hi : i < xs.length) : srt (idsL xs (plc (pty xs i).bo 2048)) = s.waits (pty xs i).id := by
  have hP : ∀ q, q < 2048 → (pty xs i).bo q → q < xs.length := fun q hq => (h.inx i hi q hq).1
  refine rise_ext (srt_rises (h.nodup plc_nd fun q hq => ((mem_up h.short hP).1 hq).1)) rise_rises fun x => ?_
  rw [mem_srt, mem_idsL]
  have e : x ∈ s.waits (pty xs i).id ↔ _ := mem_waits
  rw [e]
  constructor
  · rintro ⟨q, hq, rfl⟩
    have := (mem_up h.short hP).1 hq
    exact (h.bo i q hi this.1).1 this.2
  · intro w
    obtain ⟨_, q, _, hq, _, rfl⟩ := h.wtP w
    exact ⟨q, (mem_up h.short hP).2 ⟨hq, (h.bo i q hi hq).2 w⟩, rfl⟩
theorem Rel.waits_len (h : Rel xs s) (hi : i < xs.length) : (plc (pty xs i).bo 2048).length = (s.waits (pty xs i).id).length := by
  rw [← h.waits hi, srt_len]
  unfold idsL
  rw [List.length_map]
theorem Rel.waits0 (h : Rel xs s) (hn : NoId xs id) : s.waits id = [] := waits_nil.2 fun b w => by
  obtain ⟨i, _, hi, _, e, _⟩ := h.wtP w
  exact hn i hi e
theorem Rel.idle (h : Rel xs s) (hi : i < xs.length) : (∀ z, z < 2048 → ¬ (pty xs i).bo z) ↔ s.waits (pty xs i).id = [] := by
  rw [waits_nil]
  constructor
  · intro hz b w
    obtain ⟨_, q, _, hq, _, rfl⟩ := h.wtP w
    exact hz q (by have := h.short; omega) ((h.bo i q hi hq).2 w)
  · intro hw z hz c
    have hq := (h.inx i hi z hz).1 c
    exact hw _ ((h.bo i z hi hq).1 c)
/-- Whom an end dooms. -/
theorem Rel.hit (h : Rel xs s) (hk : k < xs.length) (hs : (pty xs k).st ≠ 3) (hi : i < xs.length) : ((pty xs k).ab i ∨ i = k) ↔ ((pty xs i).id = (pty xs k).id ∨ s.Rch (pty xs i).id (pty xs k).id) := by
  rw [h.ab k i hk hi hs, h.one hi hk]
  exact ⟨fun c => c.symm, fun c => c.symm⟩
theorem Rel.doom_ids (h : Rel xs s) : (s.doom id).ids = (List.range xs.length).map fun i => ((pty xs i).id, if (pty xs i).st = 1 ∧ ((pty xs i).id = id ∨ s.Rch (pty xs i).id id) then 2 else (pty xs i).st) := by
  unfold BdS.doom
  show s.ids.map _ = _
  rw [h.ids, List.map_map]
  refine List.map_congr_left fun i hi => ?_
  show (if (pty xs i).st = 1 ∧ ((pty xs i).id = id ∨ s.Rch (pty xs i).id id) then ((pty xs i).id, (2 : Int)) else ((pty xs i).id, (pty xs i).st)) = _
  by_cases c : (pty xs i).st = 1 ∧ ((pty xs i).id = id ∨ s.Rch (pty xs i).id id)
  · rw [if_pos c, if_pos c]
  · rw [if_neg c, if_neg c]
theorem Rel.doomed (h : Rel xs s) (hk : k < xs.length) (hs : (pty xs k).st ≠ 3) : Rel (doomX xs k) (s.doom (pty xs k).id) := by
  refine h.restate (fun i => if (pty xs i).st = 1 ∧ ((pty xs i).id = (pty xs k).id ∨ s.Rch (pty xs i).id (pty xs k).id) then 2 else (pty xs i).st) doomX_len (fun i hi => ?_) rfl h.doom_ids (fun i hi => ?_) (fun i hi => ?_)
  · unfold doomX
    rw [doomL_get _ _ plc_nd (fun q hq => ((mem_up h.short (h.abk hk)).1 hq).1)]
    have hm : i ∈ plc (fun q => (pty xs k).ab q ∨ q = k) 2048 ↔ _ := (mem_up h.short (h.abk hk)).trans (and_congr_right fun _ => h.hit hk hs hi)
    by_cases c : i ∈ plc (fun q => (pty xs k).ab q ∨ q = k) 2048
    · rw [if_pos c]
      have c2 := (hm.1 c).2
      unfold dmP
      by_cases c3 : (pty xs i).st = 1
      · rw [if_pos c3, if_pos ⟨c3, c2⟩]
      · rw [if_neg c3, if_neg (fun q => c3 q.1)]
    · rw [if_neg c, if_neg (fun q => c (hm.2 ⟨hi, q.2⟩))]
  · show (if _ then (2 : Int) else (pty xs i).st) = 3 ↔ _
    by_cases c : (pty xs i).st = 1 ∧ ((pty xs i).id = (pty xs k).id ∨ s.Rch (pty xs i).id (pty xs k).id)
    · rw [if_pos c, c.1]; decide
    · rw [if_neg c]
  · show 1 ≤ (if _ then (2 : Int) else (pty xs i).st) ∧ (if _ then (2 : Int) else (pty xs i).st) ≤ 4
    by_cases c : (pty xs i).st = 1 ∧ ((pty xs i).id = (pty xs k).id ∨ s.Rch (pty xs i).id (pty xs k).id)
    · rw [if_pos c]; decide
    · rw [if_neg c]; exact h.rng i hi
/-- One ends badly. -/
theorem Rel.bad (h : Rel xs s) (hk : k < xs.length) (hs : (pty xs k).st ≤ 2) :
    Rel (doomL (xs.set k { pty xs k with st := 4 }) (plc (fun q => (pty xs k).ab q ∨ q = k) 2048)) ((s.doom (pty xs k).id).put (pty xs k).id 4) ∧
    srt (gath (xs.set k { pty xs k with st := 4 }) (plc (fun q => (pty xs k).ab q ∨ q = k) 2048)) = (s.dooms (pty xs k).id).filter (fun x => decide (x ≠ (pty xs k).id)) := by
  have hs3 : (pty xs k).st ≠ 3 := by omega
  have up := fun {q} => mem_up (q := q) h.short (h.abk hk)
  have pd : ∀ i, pty (xs.set k { pty xs k with st := 4 }) i = if i = k then { pty xs k with st := 4 } else pty xs i := fun i => pty_set k i hk
  constructor
  · refine h.restate (fun i => if i = k then 4 else if (pty xs i).st = 1 ∧ ((pty xs i).id = (pty xs k).id ∨ s.Rch (pty xs i).id (pty xs k).id) then 2 else (pty xs i).st) ((doomL_len _ _).trans List.length_set) (fun i hi => ?_) rfl ?_ (fun i hi => ?_) (fun i hi => ?_)
    · rw [doomL_get _ _ plc_nd (fun q hq => by rw [List.length_set]; exact (up.1 hq).1), pd]
      have hm : i ∈ plc (fun q => (pty xs k).ab q ∨ q = k) 2048 ↔ _ := up.trans (and_congr_right fun _ => h.hit hk hs3 hi)
      by_cases ek : i = k
      · subst ek
        rw [if_pos rfl, if_pos rfl]
        split
        · rfl
        · rfl
      · rw [if_neg ek, if_neg ek]
        by_cases c : i ∈ plc (fun q => (pty xs k).ab q ∨ q = k) 2048
        · rw [if_pos c]
          have c2 := (hm.1 c).2
          unfold dmP
          by_cases c3 : (pty xs i).st = 1
          · rw [if_pos c3, if_pos ⟨c3, c2⟩]
          · rw [if_neg c3, if_neg (fun q => c3 q.1)]
        · rw [if_neg c, if_neg (fun q => c (hm.2 ⟨hi, q.2⟩))]
    · unfold BdS.put
      show ((s.doom (pty xs k).id).ids).map _ = _
      rw [h.doom_ids, List.map_map]
      refine List.map_congr_left fun i hi => ?_
      have hi := List.mem_range.1 hi
      show (if (pty xs i).id = (pty xs k).id then ((pty xs i).id, (4 : Int)) else ((pty xs i).id, _)) = _
      by_cases ek : i = k
      · subst ek; rw [if_pos rfl, if_pos rfl]
      · rw [if_neg ek, if_neg (fun q => ek ((h.one hi hk).1 q))]
    · show (if i = k then (4 : Int) else if _ then (2 : Int) else (pty xs i).st) = 3 ↔ _
      by_cases ek : i = k
      · subst ek; rw [if_pos rfl]; omega
      · rw [if_neg ek]
        by_cases c : (pty xs i).st = 1 ∧ ((pty xs i).id = (pty xs k).id ∨ s.Rch (pty xs i).id (pty xs k).id)
        · rw [if_pos c, c.1]; decide
        · rw [if_neg c]
    · show 1 ≤ (if i = k then (4 : Int) else if _ then (2 : Int) else (pty xs i).st) ∧ (if i = k then (4 : Int) else if _ then (2 : Int) else (pty xs i).st) ≤ 4
      by_cases ek : i = k
      · rw [if_pos ek]; decide
      · rw [if_neg ek]
        by_cases c : (pty xs i).st = 1 ∧ ((pty xs i).id = (pty xs k).id ∨ s.Rch (pty xs i).id (pty xs k).id)
        · rw [if_pos c]; decide
        · rw [if_neg c]; exact h.rng i hi
  · have hid : ∀ q, q < xs.length → (pty (xs.set k { pty xs k with st := 4 }) q).id = (pty xs q).id := fun q hq => by
      rw [pd]
      by_cases e : q = k
      · subst e; rw [if_pos rfl]
      · rw [if_neg e]
    have nd : (gath (xs.set k { pty xs k with st := 4 }) (plc (fun q => (pty xs k).ab q ∨ q = k) 2048)).Nodup := by
      unfold gath
      have e : ∀ L : List Nat, (∀ q ∈ L, q < xs.length) → L.map (fun q => (pty (xs.set k { pty xs k with st := 4 }) q).id) = L.map fun q => (pty xs q).id := fun L hL => List.map_congr_left fun q hq => hid q (hL q hq)
      rw [e _ fun q hq => (up.1 (List.mem_filter.1 hq).1).1]
      exact h.nodup (plc_nd.filter _) fun q hq => (up.1 (List.mem_filter.1 hq).1).1
    refine rise_ext (srt_rises nd) (List.Pairwise.filter _ rise_rises) fun x => ?_
    rw [mem_srt, mem_gath, List.mem_filter, decide_eq_true_iff]
    unfold BdS.dooms
    rw [mem_rise]
    constructor
    · rintro ⟨q, hq, h1, rfl⟩
      have hq := up.1 hq
      rw [hid q hq.1]
      have nk : q ≠ k := fun e => by
        subst e
        rw [pd, if_pos rfl] at h1
        have h1 : (4 : Int) = 1 := h1
        omega
      rw [pd, if_neg nk] at h1
      refine ⟨⟨(h.has (id := (pty xs q).id)).2 ⟨q, hq.1, rfl⟩, (h.st hq.1).trans h1, (h.hit hk hs3 hq.1).1 hq.2⟩, fun e => nk ((h.one hq.1 hk).1 e)⟩
    · rintro ⟨⟨hm, h1, h2⟩, hne⟩
      obtain ⟨q, hq, rfl⟩ := h.has.1 hm
      have nk : q ≠ k := fun e => hne (by rw [e])
      refine ⟨q, up.2 ⟨hq, (h.hit hk hs3 hq).2 h2⟩, ?_, hid q hq⟩
      rw [pd, if_neg nk, ← h.st hq]
      exact h1
/-- One ends well. -/
theorem Rel.well (h : Rel xs s) (hk : k < xs.length) (hs : (pty xs k).st = 1) (hw : s.waits (pty xs k).id = []) :
    Rel (updL (relP k) (xs.set k { pty xs k with st := 3 }) (plc (pty xs k).ab 2048)) (s.put (pty xs k).id 3) ∧
    srt (gatP (freeP k) (xs.set k { pty xs k with st := 3 }) (plc (pty xs k).ab 2048)) = riseB (fun x => (s.st x = 1 ∨ s.st x = 2) ∧ s.waits x = [(pty xs k).id]) (s.ids.map Prod.fst) ∧ ¬ (pty xs k).ab k := by
  have hs3 : (pty xs k).st ≠ 3 := by omega
  have hP : ∀ q, q < 2048 → (pty xs k).ab q → q < xs.length := fun q hq => (h.inx k hk q hq).2.2
  have up := fun {q} => mem_up (q := q) h.short hP
  have hkk : ¬ (pty xs k).ab k := fun c => h.loop _ ((h.ab k k hk hk hs3).1 c)
  have noW : ∀ b, ¬ s.wt (pty xs k).id b := waits_nil.1 hw
  have noR : ∀ b, ¬ s.Rch (pty xs k).id b := fun b r => by obtain ⟨c, w, _⟩ := Rch.first r; exact noW _ w
  have pd : ∀ i, pty (xs.set k { pty xs k with st := 3 }) i = if i = k then { pty xs k with st := 3 } else pty xs i := fun i => pty_set k i hk
  have hid : ∀ q, (pty (xs.set k { pty xs k with st := 3 }) q).id = (pty xs q).id := fun q => by
    rw [pd]
    by_cases e : q = k
    · subst e; rw [if_pos rfl]
    · rw [if_neg e]
  have ln : (updL (relP k) (xs.set k { pty xs k with st := 3 }) (plc (pty xs k).ab 2048)).length = xs.length := (updL_len _ _).trans List.length_set
  have pg : ∀ i, pty (updL (relP k) (xs.set k { pty xs k with st := 3 }) (plc (pty xs k).ab 2048)) i = if i ∈ plc (pty xs k).ab 2048 then relP k (pty xs i) else if i = k then { pty xs k with st := 3 } else pty xs i := fun i => by
    rw [updL_get _ _ plc_nd (fun q hq => by rw [List.length_set]; exact (up.1 hq).1), pd]
    by_cases c : i ∈ plc (pty xs k).ab 2048
    · rw [if_pos c, if_pos c, if_neg (fun e : i = k => hkk (e ▸ (up.1 c).2))]
    · rw [if_neg c, if_neg c]
  obtain ⟨zs, ez⟩ : ∃ zs, updL (relP k) (xs.set k { pty xs k with st := 3 }) (plc (pty xs k).ab 2048) = zs := ⟨_, rfl⟩
  rw [ez] at ln pg
  have zid : ∀ i, (pty zs i).id = (pty xs i).id := fun i => by
    rw [pg]
    by_cases c : i ∈ plc (pty xs k).ab 2048
    · rw [if_pos c]; rfl
    · rw [if_neg c]
      by_cases e : i = k
      · subst e; rw [if_pos rfl]
      · rw [if_neg e]
  have zst : ∀ i, (pty zs i).st = if i = k then 3 else (pty xs i).st := fun i => by
    rw [pg]
    by_cases c : i ∈ plc (pty xs k).ab 2048
    · rw [if_pos c, if_neg (fun e : i = k => hkk (e ▸ (up.1 c).2))]; rfl
    · rw [if_neg c]
      by_cases e : i = k
      · subst e; rw [if_pos rfl, if_pos rfl]
      · rw [if_neg e, if_neg e]
  have tids : (s.put (pty xs k).id 3).ids = (List.range xs.length).map fun i => ((pty xs i).id, if i = k then 3 else (pty xs i).st) := by
    unfold BdS.put
    show s.ids.map _ = _
    rw [h.ids, List.map_map]
    refine List.map_congr_left fun i hi => ?_
    have hi := List.mem_range.1 hi
    show (if (pty xs i).id = (pty xs k).id then ((pty xs i).id, (3 : Int)) else ((pty xs i).id, (pty xs i).st)) = _
    by_cases ek : i = k
    · subst ek; rw [if_pos rfl, if_pos rfl]
    · rw [if_neg ek, if_neg (fun q => ek ((h.one hi hk).1 q))]
  have tst : ∀ i, i < xs.length → (s.put (pty xs k).id 3).st (pty xs i).id = if i = k then 3 else (pty xs i).st := fun i hi => by
    have pw : (s.put (pty xs k).id 3).ids.Pairwise (fun p q => p.1 ≠ q.1) := by
      rw [tids, List.pairwise_map]
      exact List.Pairwise.imp_of_mem (fun {a b} ha hb hab => h.nd a b hab (List.mem_range.1 hb)) List.pairwise_lt_range
    have hm : ((pty xs i).id, if i = k then 3 else (pty xs i).st) ∈ (s.put (pty xs k).id 3).ids := by rw [tids]; exact List.mem_map.2 ⟨i, List.mem_range.2 hi, rfl⟩
    unfold BdS.st
    rw [find_mem pw hm]
  have twt : ∀ a b, (s.put (pty xs k).id 3).wt a b ↔ s.wt a b ∧ b ≠ (pty xs k).id := fun a b => by
    have e : (a, b) ∈ (s.put (pty xs k).id 3).ed ↔ (a, b) ∈ s.ed := Iff.rfl
    unfold BdS.wt
    rw [e]
    constructor
    · rintro ⟨h1, h2⟩
      obtain ⟨_, j, _, hj, _, rfl⟩ := h.ed a b h1
      rw [tst j hj] at h2
      by_cases c : j = k
      · rw [if_pos c] at h2; exact absurd rfl h2
      · rw [if_neg c] at h2
        exact ⟨⟨h1, by rw [h.st hj]; exact h2⟩, fun q => c ((h.one hj hk).1 q)⟩
    · rintro ⟨⟨h1, h2⟩, h3⟩
      obtain ⟨_, j, _, hj, _, rfl⟩ := h.ed a b h1
      rw [tst j hj, if_neg (fun c => h3 (by rw [c])), ← h.st hj]
      exact ⟨h1, h2⟩
  have trc : ∀ a b, (s.put (pty xs k).id 3).Rch a b ↔ s.Rch a b ∧ b ≠ (pty xs k).id := fun a b => by
    constructor
    · intro r
      induction r with
      | one w => exact ⟨.one ((twt _ _).1 w).1, ((twt _ _).1 w).2⟩
      | more w _ ih => exact ⟨.more ((twt _ _).1 w).1 ih.1, ih.2⟩
    · rintro ⟨r, hne⟩
      induction r with
      | one w => exact .one ((twt _ _).2 ⟨w, hne⟩)
      | @more a c b w r2 ih =>
        refine .more ((twt _ _).2 ⟨w, fun e => ?_⟩) (ih hne)
        subst e
        exact noR _ r2
  refine ⟨?_, ?_, hkk⟩
  · refine ⟨?_, fun a b hab => ?_, fun i j hij hj => ?_, fun i j hi hj => ?_, fun i j hi hj => ?_, fun i j hi hj hs2 => ?_, fun i hi q hq => ?_, fun i hi => ?_, fun a r => h.loop a ((trc _ _).1 r).1, fun a b ha w => ?_, by rw [ez, ln]; exact h.short⟩
    · rw [ez, tids, ln]
      refine List.map_congr_left fun i hi => ?_
      rw [zid, zst]
    · obtain ⟨i, j, hi, hj, e1, e2⟩ := h.ed a b hab
      exact ⟨i, j, by rw [ez]; omega, by rw [ez]; omega, by rw [ez, zid]; exact e1, by rw [ez, zid]; exact e2⟩
    · rw [ez] at hj ⊢
      rw [zid, zid]
      exact h.nd i j hij (by omega)
    · rw [ez] at hi hj ⊢
      rw [ln] at hi hj
      rw [zid, zid, twt, pg, ← h.bo i j hi hj]
      by_cases c : i ∈ plc (pty xs k).ab 2048
      · rw [if_pos c]
        show ((pty xs i).bo j ∧ j ≠ k) ↔ _
        exact and_congr_right fun _ => not_congr (h.one hj hk).symm
      · rw [if_neg c]
        have nr : ¬ s.Rch (pty xs i).id (pty xs k).id := fun r => c (up.2 ⟨hi, (h.ab k i hk hi hs3).2 r⟩)
        have main : (pty xs i).bo j ↔ (pty xs i).bo j ∧ (pty xs j).id ≠ (pty xs k).id := ⟨fun q => ⟨q, fun e => nr (.one (e ▸ (h.bo i j hi hj).1 q))⟩, fun q => q.1⟩
        by_cases e : i = k
        · subst e; rw [if_pos rfl]; exact main
        · rw [if_neg e]; exact main
    · rw [ez] at hi hj ⊢
      rw [ln] at hi hj
      rw [zid, zid, trc, pg, ← h.be i j hi hj]
      by_cases c : i ∈ plc (pty xs k).ab 2048
      · rw [if_pos c]
        show ((pty xs i).be j ∧ j ≠ k) ↔ _
        exact and_congr_right fun _ => not_congr (h.one hj hk).symm
      · rw [if_neg c]
        have nr : ¬ s.Rch (pty xs i).id (pty xs k).id := fun r => c (up.2 ⟨hi, (h.ab k i hk hi hs3).2 r⟩)
        have main : (pty xs i).be j ↔ (pty xs i).be j ∧ (pty xs j).id ≠ (pty xs k).id := ⟨fun q => ⟨q, fun e => nr (e ▸ (h.be i j hi hj).1 q)⟩, fun q => q.1⟩
        by_cases e : i = k
        · subst e; rw [if_pos rfl]; exact main
        · rw [if_neg e]; exact main
    · rw [ez] at hi hj hs2 ⊢
      rw [ln] at hi hj
      rw [zst] at hs2
      have ik : i ≠ k := fun e => by rw [if_pos e] at hs2; exact hs2 rfl
      rw [if_neg ik] at hs2
      rw [zid, zid, trc, pg]
      have main : (pty xs i).ab j ↔ s.Rch (pty xs j).id (pty xs i).id ∧ (pty xs i).id ≠ (pty xs k).id := (h.ab i j hi hj hs2).trans ⟨fun r => ⟨r, fun e => ik ((h.one hi hk).1 e)⟩, fun r => r.1⟩
      by_cases c : i ∈ plc (pty xs k).ab 2048
      · rw [if_pos c]; exact main
      · rw [if_neg c, if_neg ik]; exact main
    · rw [ez] at hi ⊢
      rw [ln] at hi ⊢
      have h0 := h.inx i hi q hq
      rw [pg]
      by_cases c : i ∈ plc (pty xs k).ab 2048
      · rw [if_pos c]
        exact ⟨fun d => h0.1 d.1, fun d => h0.2.1 d.1, h0.2.2⟩
      · rw [if_neg c]
        by_cases e : i = k
        · subst e; rw [if_pos rfl]; exact h0
        · rw [if_neg e]; exact h0
    · rw [ez] at hi ⊢
      rw [ln] at hi
      rw [zst]
      by_cases e : i = k
      · rw [if_pos e]; decide
      · rw [if_neg e]; exact h.rng i hi
    · have w1 := ((twt _ _).1 w).1
      obtain ⟨i, _, hi, _, rfl, _⟩ := h.wtP w1
      rw [tst i hi] at ha
      by_cases e : i = k
      · subst e; exact noW _ w1
      · rw [if_neg e] at ha
        exact h.good _ _ ((h.st hi).trans ha) w1
  · have nd : (gatP (freeP k) (xs.set k { pty xs k with st := 3 }) (plc (pty xs k).ab 2048)).Nodup := by
      unfold gatP
      simp only [hid]
      exact h.nodup (plc_nd.filter _) fun q hq => (up.1 (List.mem_filter.1 hq).1).1
    refine rise_ext (srt_rises nd) rise_rises fun x => ?_
    rw [mem_srt, mem_gatP, mem_rise]
    have key : ∀ q, q < xs.length → ((q ∈ plc (pty xs k).ab 2048 ∧ freeP k (pty (xs.set k { pty xs k with st := 3 }) q)) ↔ (q < xs.length ∧ ((s.st (pty xs q).id = 1 ∨ s.st (pty xs q).id = 2) ∧ s.waits (pty xs q).id = [(pty xs k).id]))) := fun q hq => by
      rw [up, h.st hq]
      have rg := h.rng q hq
      constructor
      · rintro ⟨⟨_, ha⟩, h1, h2⟩
        have qk : q ≠ k := fun e => hkk (e ▸ ha)
        rw [pd, if_neg qk] at h1 h2
        have r := (h.ab k q hk hq hs3).1 ha
        have only : ∀ b, s.wt (pty xs q).id b → b = (pty xs k).id := fun b w => by
          obtain ⟨_, z, _, hz, _, rfl⟩ := h.wtP w
          by_cases e : z = k
          · rw [e]
          · exact absurd ⟨(h.bo q z hq hz).2 w, e⟩ (h1 z (by have := h.short; omega))
        obtain ⟨c, w, _⟩ := Rch.first r
        have wk : s.wt (pty xs q).id (pty xs k).id := by rw [← only c w]; exact w
        refine ⟨hq, by omega, rise_ext rise_rises (List.pairwise_singleton _ _) fun y => ?_⟩
        have e : y ∈ s.waits (pty xs q).id ↔ _ := mem_waits
        refine e.trans ?_
        rw [List.mem_singleton]
        exact ⟨only y, fun e => e ▸ wk⟩
      · rintro ⟨_, h1, h2⟩
        have wk : s.wt (pty xs q).id (pty xs k).id := mem_waits.1 (by rw [h2]; simp)
        have ha : (pty xs k).ab q := (h.ab k q hk hq hs3).2 (.one wk)
        have qk : q ≠ k := fun e => hkk (e ▸ ha)
        refine ⟨⟨hq, ha⟩, ?_⟩
        rw [pd, if_neg qk]
        refine ⟨fun z hz c => ?_, by omega⟩
        have hz2 := (h.inx q hq z hz).1 c.1
        have : (pty xs z).id ∈ s.waits (pty xs q).id := mem_waits.2 ((h.bo q z hq hz2).1 c.1)
        rw [h2, List.mem_singleton] at this
        exact c.2 ((h.one hz2 hk).1 this)
    constructor
    · rintro ⟨q, hq, hf, rfl⟩
      have hql := (up.1 hq).1
      rw [hid]
      exact ⟨h.has.2 ⟨q, hql, rfl⟩, ((key q hql).1 ⟨hq, hf⟩).2⟩
    · rintro ⟨hm, hc⟩
      obtain ⟨q, hq, rfl⟩ := h.has.1 hm
      have := (key q hq).2 ⟨hq, hc⟩
      exact ⟨q, this.1, this.2, hid q⟩
/-- One more bond, which closes no loop. -/
theorem Rel.tied (h : Rel xs s) (hx : kx < xs.length) (hy : ky < xs.length) (sx : (pty xs kx).st ≠ 3) (sy : (pty xs ky).st ≠ 3) (hl : ¬ s.Rch (pty xs ky).id (pty xs kx).id) (hne : kx ≠ ky) :
    Rel (carryX (xs.set kx (tieP ky (pty xs kx))) kx ky) { s with ed := s.ed ++ [((pty xs kx).id, (pty xs ky).id)] } ∧ ∀ a, ({ s with ed := s.ed ++ [((pty xs kx).id, (pty xs ky).id)] } : BdS).Rch a (pty xs kx).id ↔ s.Rch a (pty xs kx).id := by
  have pd : ∀ i, pty (xs.set kx (tieP ky (pty xs kx))) i = if i = kx then tieP ky (pty xs kx) else pty xs i := fun i => pty_set kx i hx
  have l1 : (xs.set kx (tieP ky (pty xs kx))).length = xs.length := List.length_set
  have hI1 := h.inx.tie hx hy
  obtain ⟨x1, ex1⟩ : ∃ x1, xs.set kx (tieP ky (pty xs kx)) = x1 := ⟨_, rfl⟩
  rw [ex1] at pd l1 hI1 ⊢
  have p1 : ∀ i, (pty x1 i).id = (pty xs i).id ∧ (pty x1 i).st = (pty xs i).st ∧ (pty x1 i).be = (pty xs i).be ∧ (pty x1 i).ab = (pty xs i).ab := fun i => by
    rw [pd]
    by_cases e : i = kx
    · subst e; rw [if_pos rfl]; exact ⟨rfl, rfl, rfl, rfl⟩
    · rw [if_neg e]; exact ⟨rfl, rfl, rfl, rfl⟩
  have hx1 : kx < x1.length := by omega
  have hy1 : ky < x1.length := by omega
  obtain ⟨r1, r2⟩ := carry_rows hI1 hx1 hy1
  have same := carry_same hI1 hx1 hy1
  have l2 : (carryX x1 kx ky).length = xs.length := carry_len.trans l1
  have hI2 := hI1.carry hx1 hy1
  have g1 : ∀ i, i < xs.length → (i ∈ plc (fun q => ((pty x1 kx).ab q ∨ q = kx) ∧ ¬ (pty x1 ky).ab q) 2048 ↔ ((s.Rch (pty xs i).id (pty xs kx).id ∨ i = kx) ∧ ¬ s.Rch (pty xs i).id (pty xs ky).id)) := fun i hi => by
    rw [mem_plc, (p1 kx).2.2.2, (p1 ky).2.2.2, h.ab kx i hx hi sx, h.ab ky i hy hi sy]
    exact ⟨fun c => c.2, fun c => ⟨by have := h.short; omega, c⟩⟩
  have g2 : ∀ i, i < xs.length → (i ∈ plc (fun q => ((pty x1 ky).be q ∨ q = ky) ∧ ¬ (pty x1 kx).be q) 2048 ↔ ((s.Rch (pty xs ky).id (pty xs i).id ∨ i = ky) ∧ ¬ s.Rch (pty xs kx).id (pty xs i).id)) := fun i hi => by
    rw [mem_plc, (p1 kx).2.2.1, (p1 ky).2.2.1, h.be kx i hx hi, h.be ky i hy hi]
    exact ⟨fun c => c.2, fun c => ⟨by have := h.short; omega, c⟩⟩
  have be2 : ∀ i j, i < xs.length → j < xs.length → ((pty (carryX x1 kx ky) i).be j ↔ s.Rch (pty xs i).id (pty xs j).id ∨ ((i = kx ∨ s.Rch (pty xs i).id (pty xs kx).id) ∧ (j = ky ∨ s.Rch (pty xs ky).id (pty xs j).id))) := fun i j hi hj => by
    have e : (pty (carryX x1 kx ky) i).be = if i ∈ plc (fun q => ((pty x1 kx).ab q ∨ q = kx) ∧ ¬ (pty x1 ky).ab q) 2048 then fun z => (pty xs i).be z ∨ ((pty xs ky).be z ∨ z = ky) else (pty xs i).be := by
      unfold carryX
      rw [updL_get _ _ plc_nd (by rw [updL_len]; exact r2), updL_get _ _ plc_nd r1, ← (p1 i).2.2.1, ← (p1 ky).2.2.1]
      generalize plc (fun q => ((pty x1 ky).be q ∨ q = ky) ∧ ¬ (pty x1 kx).be q) 2048 = L2
      generalize plc (fun q => ((pty x1 kx).ab q ∨ q = kx) ∧ ¬ (pty x1 ky).ab q) 2048 = L1
      by_cases c : i ∈ L1
      · by_cases d : i ∈ L2
        · simp only [c, d, if_true]; rfl
        · simp only [c, d, if_true, if_false]; rfl
      · by_cases d : i ∈ L2
        · simp only [c, d, if_true, if_false]; rfl
        · simp only [c, d, if_false]
    rw [e]
    by_cases c : i ∈ plc (fun q => ((pty x1 kx).ab q ∨ q = kx) ∧ ¬ (pty x1 ky).ab q) 2048
    · rw [if_pos c]
      have c2 := (g1 i hi).1 c
      show ((pty xs i).be j ∨ ((pty xs ky).be j ∨ j = ky)) ↔ _
      rw [h.be i j hi hj, h.be ky j hy hj]
      exact ⟨fun q => q.elim .inl fun q => .inr ⟨c2.1.symm, q.symm⟩, fun q => q.elim .inl fun q => .inr q.2.symm⟩
    · rw [if_neg c, h.be i j hi hj]
      constructor
      · exact .inl
      · rintro (q | ⟨q1, q2⟩)
        · exact q
        · have ry : s.Rch (pty xs i).id (pty xs ky).id := Classical.byContradiction fun n => c ((g1 i hi).2 ⟨q1.symm, n⟩)
          rcases q2 with rfl | q2
          · exact ry
          · exact Rch.trans ry q2
  have ab2 : ∀ i j, i < xs.length → j < xs.length → (pty xs i).st ≠ 3 → ((pty (carryX x1 kx ky) i).ab j ↔ s.Rch (pty xs j).id (pty xs i).id ∨ ((j = kx ∨ s.Rch (pty xs j).id (pty xs kx).id) ∧ (i = ky ∨ s.Rch (pty xs ky).id (pty xs i).id))) := fun i j hi hj hs => by
    have e : (pty (carryX x1 kx ky) i).ab = if i ∈ plc (fun q => ((pty x1 ky).be q ∨ q = ky) ∧ ¬ (pty x1 kx).be q) 2048 then fun z => (pty xs i).ab z ∨ ((pty xs kx).ab z ∨ z = kx) else (pty xs i).ab := by
      unfold carryX
      rw [updL_get _ _ plc_nd (by rw [updL_len]; exact r2), updL_get _ _ plc_nd r1, ← (p1 i).2.2.2, ← (p1 kx).2.2.2]
      generalize plc (fun q => ((pty x1 ky).be q ∨ q = ky) ∧ ¬ (pty x1 kx).be q) 2048 = L2
      generalize plc (fun q => ((pty x1 kx).ab q ∨ q = kx) ∧ ¬ (pty x1 ky).ab q) 2048 = L1
      by_cases c : i ∈ L1
      · by_cases d : i ∈ L2
        · simp only [c, d, if_true]; rfl
        · simp only [c, d, if_true, if_false]; rfl
      · by_cases d : i ∈ L2
        · simp only [c, d, if_true, if_false]; rfl
        · simp only [c, d, if_false]
    rw [e]
    by_cases c : i ∈ plc (fun q => ((pty x1 ky).be q ∨ q = ky) ∧ ¬ (pty x1 kx).be q) 2048
    · rw [if_pos c]
      have c2 := (g2 i hi).1 c
      show ((pty xs i).ab j ∨ ((pty xs kx).ab j ∨ j = kx)) ↔ _
      rw [h.ab i j hi hj hs, h.ab kx j hx hj sx]
      exact ⟨fun q => q.elim .inl fun q => .inr ⟨q.symm, c2.1.symm⟩, fun q => q.elim .inl fun q => .inr q.1.symm⟩
    · rw [if_neg c, h.ab i j hi hj hs]
      constructor
      · exact .inl
      · rintro (q | ⟨q1, q2⟩)
        · exact q
        · have ry : s.Rch (pty xs kx).id (pty xs i).id := Classical.byContradiction fun n => c ((g2 i hi).2 ⟨q2.symm, n⟩)
          rcases q1 with rfl | q1
          · exact ry
          · exact Rch.trans q1 ry
  obtain ⟨x2, ex2⟩ : ∃ x2, carryX x1 kx ky = x2 := ⟨_, rfl⟩
  rw [ex2] at same l2 hI2 be2 ab2 ⊢
  have id2 : ∀ i, (pty x2 i).id = (pty xs i).id := fun i => (same i).2.1.trans (p1 i).1
  have st2 : ∀ i, (pty x2 i).st = (pty xs i).st := fun i => (same i).1.trans (p1 i).2.1
  have tst : ∀ b, ({ s with ed := s.ed ++ [((pty xs kx).id, (pty xs ky).id)] } : BdS).st b = s.st b := fun b => rfl
  have twt : ∀ a b, ({ s with ed := s.ed ++ [((pty xs kx).id, (pty xs ky).id)] } : BdS).wt a b ↔ s.wt a b ∨ (a = (pty xs kx).id ∧ b = (pty xs ky).id) := fun a b => by
    unfold BdS.wt
    rw [tst]
    show ((a, b) ∈ s.ed ++ [_] ∧ _) ↔ _
    rw [List.mem_append, List.mem_singleton, Prod.mk.injEq]
    constructor
    · rintro ⟨q | q, q3⟩
      · exact .inl ⟨q, q3⟩
      · exact .inr q
    · rintro (q | q)
      · exact ⟨.inl q.1, q.2⟩
      · exact ⟨.inr q, by rw [q.2, h.st hy]; exact sy⟩
  have up1 : ∀ {a b}, s.Rch a b → ({ s with ed := s.ed ++ [((pty xs kx).id, (pty xs ky).id)] } : BdS).Rch a b := fun r => Rch.same (fun a b w => (twt a b).2 (.inl w)) r
  have trc : ∀ a b, ({ s with ed := s.ed ++ [((pty xs kx).id, (pty xs ky).id)] } : BdS).Rch a b ↔ s.Rch a b ∨ ((a = (pty xs kx).id ∨ s.Rch a (pty xs kx).id) ∧ (b = (pty xs ky).id ∨ s.Rch (pty xs ky).id b)) := fun a b => by
    constructor
    · intro r
      induction r with
      | @one a b w =>
        rcases (twt a b).1 w with w | ⟨e1, e2⟩
        · exact .inl (.one w)
        · exact .inr ⟨.inl e1, .inl e2⟩
      | @more a c b w _ ih =>
        rcases (twt a c).1 w with w | ⟨e1, e2⟩
        · rcases ih with ih | ⟨ih1, ih2⟩
          · exact .inl (.more w ih)
          · rcases ih1 with e | r
            · exact .inr ⟨.inr (e ▸ .one w), ih2⟩
            · exact .inr ⟨.inr (.more w r), ih2⟩
        · rcases ih with ih | ⟨_, ih2⟩
          · exact .inr ⟨.inl e1, .inr (e2 ▸ ih)⟩
          · exact .inr ⟨.inl e1, ih2⟩
    · have w0 : ({ s with ed := s.ed ++ [((pty xs kx).id, (pty xs ky).id)] } : BdS).Rch (pty xs kx).id (pty xs ky).id := .one ((twt _ _).2 (.inr ⟨rfl, rfl⟩))
      rintro (q | ⟨q1, q2⟩)
      · exact up1 q
      · rcases q1 with rfl | q1
        · rcases q2 with rfl | q2
          · exact w0
          · exact Rch.trans w0 (up1 q2)
        · rcases q2 with rfl | q2
          · exact Rch.trans (up1 q1) w0
          · exact Rch.trans (up1 q1) (Rch.trans w0 (up1 q2))
  have ne : (pty xs kx).id ≠ (pty xs ky).id := fun e => hne ((h.one hx hy).1 e)
  refine ⟨⟨?_, fun a b hab => ?_, fun i j hij hj => ?_, fun i j hi hj => ?_, fun i j hi hj => ?_, fun i j hi hj hs => ?_, hI2, fun i hi => ?_, fun a r => ?_, fun a b ha w => ?_, by rw [l2]; exact h.short⟩, fun a => ?_⟩
  · show s.ids = _
    rw [h.ids, l2]
    refine List.map_congr_left fun i hi => ?_
    rw [id2, st2]
  · rcases List.mem_append.1 hab with hab | hab
    · obtain ⟨i, j, hi, hj, e1, e2⟩ := h.ed a b hab
      exact ⟨i, j, by omega, by omega, by rw [id2]; exact e1, by rw [id2]; exact e2⟩
    · rw [List.mem_singleton, Prod.mk.injEq] at hab
      exact ⟨kx, ky, by omega, by omega, by rw [id2]; exact hab.1.symm, by rw [id2]; exact hab.2.symm⟩
  · rw [id2, id2]
    exact h.nd i j hij (by omega)
  · rw [l2] at hi hj
    rw [id2, id2, twt, (same i).2.2, pd, ← h.bo i j hi hj, h.one hi hx, h.one hj hy]
    by_cases e : i = kx
    · subst e
      rw [if_pos rfl]
      show ((pty xs i).bo j ∨ j = ky) ↔ _
      exact ⟨fun q => q.elim .inl fun q => .inr ⟨rfl, q⟩, fun q => q.elim .inl fun q => .inr q.2⟩
    · rw [if_neg e]
      exact ⟨.inl, fun q => q.elim id fun q => absurd q.1 e⟩
  · rw [l2] at hi hj
    rw [id2, id2, trc, be2 i j hi hj, h.one hi hx, h.one hj hy]
  · rw [l2] at hi hj
    rw [st2] at hs
    rw [id2, id2, trc, ab2 i j hi hj hs, h.one hj hx, h.one hi hy]
  · rw [l2] at hi
    rw [st2]
    exact h.rng i hi
  · rcases (trc a a).1 r with q | ⟨q1, q2⟩
    · exact h.loop a q
    · rcases q1 with rfl | q1
      · rcases q2 with e | q2
        · exact ne e
        · exact hl q2
      · rcases q2 with rfl | q2
        · exact hl q1
        · exact hl (Rch.trans q2 q1)
  · rcases (twt a b).1 w with w | ⟨rfl, rfl⟩
    · exact h.good a b ha w
    · have : s.st (pty xs kx).id = 3 := ha
      rw [h.st hx] at this
      exact sx this
  · rw [trc]
    constructor
    · rintro (q | ⟨_, q2⟩)
      · exact q
      · rcases q2 with e | q2
        · exact absurd e ne
        · exact absurd q2 hl
    · exact .inl
end
end Go.Proofs.YtjobphjpfknfeaaDoor
