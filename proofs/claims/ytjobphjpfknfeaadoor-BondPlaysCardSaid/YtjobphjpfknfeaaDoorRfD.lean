/- The document's own Bonds: a state is set; whom an end dooms (doom). Conditions: as XRfB's. -/
import Derived.Test.YtjobphjpfknfeaaDoorRfR
import Derived.StillTailTactics
namespace Go.Proofs.YtjobphjpfknfeaaDoor
open Go.ChangeShapes Go.WideShapes Go.ChangeAt Go.RowKit
set_option linter.unusedVariables false
open Classical

section
variable {w w' : World} {r : Nat} {vs : Nat → Value} {s : BdS} {id v : Int}
theorem own_put {B g c n : Nat} {zs : List Int} (h : OwnN B w (.slice (some ⟨g, 0, none⟩) n c) zs) (i : Nat) (x : Int) : OwnN B (w.setCell ⟨g, i, none⟩ (.int .i64 x)) (.slice (some ⟨g, 0, none⟩) n c) (zs.set i x) := by
  have hn : n = zs.length := by
    obtain ⟨h1, h2⟩ := id h
    rcases h2 with ⟨h2, _⟩ | ⟨g', c', cur, hv, _⟩
    · simp at h2
    · simp at hv; exact hv.2.1
  subst hn
  have := World.ownsRow.stored h i (.int .i64 x)
  unfold OwnN
  rw [List.length_set, List.map_set]
  exact this.1
theorem own_free {B g c n : Nat} {zs : List Int} (h : OwnN B w (.slice (some ⟨g, 0, none⟩) n c) zs) (i : Nat) : w.frozen? ⟨g, i, none⟩ = false := by
  have hn : n = zs.length := by
    obtain ⟨h1, h2⟩ := id h
    rcases h2 with ⟨h2, _⟩ | ⟨g', c', cur, hv, _⟩
    · simp at h2
    · simp at hv; exact hv.2.1
  subst hn
  exact World.ownsRow.frozenAt h i
theorem pos_one (hn : (s.ids.map Prod.fst).Nodup) {i j : Nat} (hi : i < s.ids.length) (hj : j < s.ids.length) (e : (s.ids.getD i (0, 0)).1 = (s.ids.getD j (0, 0)).1) : i = j := by
  have hi2 : i < (s.ids.map Prod.fst).length := by simpa using hi
  have hj2 : j < (s.ids.map Prod.fst).length := by simpa using hj
  rw [List.getD_eq_getElem?_getD, List.getD_eq_getElem?_getD, List.getElem?_eq_getElem hi, List.getElem?_eq_getElem hj] at e
  have e2 : (s.ids.map Prod.fst)[i] = (s.ids.map Prod.fst)[j] := by rw [List.getElem_map, List.getElem_map]; exact e
  have P := List.pairwise_iff_getElem.1 hn
  rcases Nat.lt_trichotomy i j with q | q | q
  · exact absurd e2 (P i j hi2 hj2 q)
  · exact q
  · exact absurd e2.symm (P j i hj2 hi2 q)
theorem rat_to (h : RB w r vs s) {i : Nat} (hi : i < s.ids.length) (e : (s.ids.getD i (0, 0)).1 = id) : Calls Tryd.prog 32 #[.pointer (some ⟨r, 0, .none⟩), .int .i64 id] w fun e w' => e = .returned (.int .i64 i) ∧ w' = w := by
  refine (rat_any h).mono ?_
  rintro e' w' ⟨rfl, a, rfl, ⟨_, hn⟩ | ⟨j, rfl, hj, ej⟩⟩
  · exact absurd (has_at.2 ⟨i, hi, e⟩) hn
  · rw [pos_one h.one hi hj (e.trans ej.symm)]
    exact ⟨rfl, rfl⟩
theorem put_ids : (s.put id v).ids.map Prod.fst = s.ids.map Prod.fst := by
  unfold BdS.put
  rw [List.map_map]
  refine List.map_congr_left fun p _ => ?_
  show (if p.1 = id then (p.1, v) else p).1 = p.1
  by_cases h : p.1 = id
  · rw [if_pos h]
  · rw [if_neg h]
theorem put_sts (hn : (s.ids.map Prod.fst).Nodup) {i : Nat} (hi : i < s.ids.length) (e : (s.ids.getD i (0, 0)).1 = id) : (s.put id v).ids.map Prod.snd = (s.ids.map Prod.snd).set i v := by
  refine List.ext_getElem (by simp [BdS.put]) fun j h1 h2 => ?_
  have hj : j < s.ids.length := by simpa [BdS.put] using h1
  rw [List.getElem_set, List.getElem_map, List.getElem_map]
  simp only [BdS.put, List.getElem_map]
  by_cases q : i = j
  · subst q
    rw [if_pos rfl]
    rw [List.getD_eq_getElem?_getD, List.getElem?_eq_getElem hi] at e
    have e : s.ids[i].1 = id := e
    rw [if_pos e]
  · rw [if_neg q, if_neg]
    intro e2
    apply q
    refine pos_one hn hi hj (e.trans ?_)
    rw [List.getD_eq_getElem?_getD, List.getElem?_eq_getElem hj]
    exact e2.symm
theorem RB.put (h : RB w r vs s) {i : Nat} (hi : i < s.ids.length) (e : (s.ids.getD i (0, 0)).1 = id) {g n c : Nat} (hv : vs 1 = .slice (some ⟨g, 0, none⟩) n c) (v : Int) : RB (w.setCell ⟨g, i, none⟩ (.int .i64 v)) r vs (s.put id v) := by
  have o1 := h.own 1 (by omega)
  rw [hv] at o1
  have gr := (OwnN.lt o1 (g := g) rfl).1
  have k : Keep (fun q => q = g) w (w.setCell ⟨g, i, none⟩ (.int .i64 v)) := (Keep.refl _ _).setCell (S := fun q => q = g) rfl _
  refine ⟨fun j hj => k.cell (h.cell j hj) (by show ¬ r = g; omega), fun j => (k.frozen (a := ⟨r, j, none⟩) h.lt (by show ¬ r = g; omega)).trans (h.free j), Nat.lt_of_lt_of_le h.lt k.size, fun j hj => ?_, h.ne, by rw [put_ids]; exact h.one, by have := h.few; simpa [BdS.put] using this⟩
  by_cases q : j = 1
  · subst q
    rw [hv]
    have := own_put o1 i v
    show OwnN (r + 1) _ _ ((s.put id v).ids.map Prod.snd)
    rw [put_sts h.one hi e]
    exact this
  · have e2 : rowB (s.put id v) j = rowB s j := by
      match j, q with
      | 0, _ => exact put_ids
      | 2, _ => rfl
      | 3, _ => rfl
      | j + 4, _ => rfl
    rw [e2]
    refine OwnN.keep (h.own j hj) k fun g' hg e3 => q (h.ne j 1 g' hj (by omega) hg ?_)
    rw [hv, e3]
    rfl
/-- Those of the list are doomed. -/
noncomputable def mid (s : BdS) (L : List Int) : BdS := { s with ids := s.ids.map (fun p => if p.1 ∈ L then (p.1, 2) else p) }
theorem mid_none : mid s [] = s := by
  unfold mid
  congr 1
  refine (List.map_congr_left (g := fun p => p) fun p _ => by simp).trans (by simp)
theorem mid_next {L : List Int} {k : Nat} {x : Int} (hk : k < L.length) (e : L.getD k 0 = x) : mid s (L.take (k + 1)) = (mid s (L.take k)).put x 2 := by
  unfold mid BdS.put
  congr 1
  rw [List.map_map]
  refine List.map_congr_left fun p _ => ?_
  have hm : p.1 ∈ L.take (k + 1) ↔ p.1 ∈ L.take k ∨ p.1 = x := by
    rw [List.take_add_one, List.mem_append, List.getElem?_eq_getElem hk]
    rw [List.getD_eq_getElem?_getD, List.getElem?_eq_getElem hk] at e
    have e : L[k] = x := e
    simp [e]
  show (if p.1 ∈ L.take (k + 1) then (p.1, (2 : Int)) else p) = (if (if p.1 ∈ L.take k then (p.1, (2 : Int)) else p).1 = x then ((if p.1 ∈ L.take k then (p.1, (2 : Int)) else p).1, (2 : Int)) else (if p.1 ∈ L.take k then (p.1, (2 : Int)) else p))
  by_cases h1 : p.1 ∈ L.take k
  · rw [if_pos (hm.2 (.inl h1)), if_pos h1]
    by_cases h2 : p.1 = x
    · rw [if_pos h2]
    · rw [if_neg h2]
  · rw [if_neg h1]
    by_cases h2 : p.1 = x
    · rw [if_pos (hm.2 (.inr h2)), if_pos h2]
    · rw [if_neg h2, if_neg (fun q => (hm.1 q).elim h1 h2)]
theorem mid_has {L : List Int} {x : Int} : (mid s L).has x ↔ s.has x := by
  unfold BdS.has mid
  rw [List.map_map]
  rw [List.map_congr_left (g := Prod.fst) fun p _ => ?_]
  show (if p.1 ∈ L then (p.1, (2 : Int)) else p).1 = p.1
  by_cases h : p.1 ∈ L
  · rw [if_pos h]
  · rw [if_neg h]
theorem mid_doom (hn : (s.ids.map Prod.fst).Nodup) : mid s (s.dooms id) = s.doom id := by
  unfold mid BdS.doom
  congr 1
  refine List.map_congr_left fun p hp => ?_
  obtain ⟨i, hi, e⟩ := List.mem_iff_getElem.1 hp
  have hst : s.st p.1 = p.2 := by
    have := st_at hn hi (id := p.1) (by rw [List.getD_eq_getElem?_getD, List.getElem?_eq_getElem hi, e]; rfl)
    rw [this, List.getD_eq_getElem?_getD, List.getElem?_eq_getElem hi, e]
    rfl
  have hm : p.1 ∈ s.dooms id ↔ p.2 = 1 ∧ (p.1 = id ∨ s.Rch p.1 id) := by
    unfold BdS.dooms
    rw [mem_rise, hst]
    exact ⟨fun q => q.2, fun q => ⟨List.mem_map_of_mem hp, q⟩⟩
  by_cases h : p.1 ∈ s.dooms id
  · rw [if_pos h, if_pos (hm.1 h)]
  · rw [if_neg h, if_neg (fun q => h (hm.2 q))]
/-- Whom the first k ids give. -/
def Dmk (s : BdS) (id : Int) (k : Nat) (zs : List Int) : Prop := zs.Pairwise (· < ·) ∧ zs.length ≤ k ∧ ∀ x, x ∈ zs ↔ ∃ j, j < k ∧ (s.ids.getD j (0, 0)).1 = x ∧ (s.ids.getD j (0, 0)).2 = 1 ∧ (x = id ∨ s.Rch x id)
theorem Dmk.none : Dmk s id 0 [] := ⟨List.Pairwise.nil, Nat.le_refl _, fun x => ⟨(fun h => by cases h), fun ⟨_, h, _⟩ => by omega⟩⟩
theorem Dmk.put {k : Nat} {zs : List Int} {x : Int} (h : Dmk s id k zs) (h1 : (s.ids.getD k (0, 0)).1 = x) (h2 : (s.ids.getD k (0, 0)).2 = 1) (h3 : x = id ∨ s.Rch x id) : Dmk s id (k + 1) (putB zs x) := by
  refine ⟨putB_rises h.1, Nat.le_trans putB_len (by have := h.2.1; omega), fun y => ?_⟩
  rw [mem_putB, h.2.2]
  constructor
  · rintro (rfl | ⟨j, q, r⟩)
    · exact ⟨k, by omega, h1, h2, h3⟩
    · exact ⟨j, by omega, r⟩
  · rintro ⟨j, q, r1, r2, r3⟩
    by_cases e : j = k
    · subst e; exact .inl (r1.symm.trans h1)
    · exact .inr ⟨j, by omega, r1, r2, r3⟩
theorem Dmk.skip {k : Nat} {zs : List Int} {x : Int} (h : Dmk s id k zs) (h1 : (s.ids.getD k (0, 0)).1 = x) (hn : (s.ids.getD k (0, 0)).2 = 1 → ¬ (x = id ∨ s.Rch x id)) : Dmk s id (k + 1) zs := by
  refine ⟨h.1, Nat.le_succ_of_le h.2.1, fun y => ?_⟩
  rw [h.2.2]
  constructor
  · rintro ⟨j, q, r⟩
    exact ⟨j, by omega, r⟩
  · rintro ⟨j, q, r1, r2, r3⟩
    by_cases e : j = k
    · subst e; exact absurd (by rw [← r1.symm.trans h1]; exact r3) (hn r2)
    · exact ⟨j, by omega, r1, r2, r3⟩
theorem Dmk.all {zs : List Int} (hn : (s.ids.map Prod.fst).Nodup) (h : Dmk s id s.ids.length zs) : zs = s.dooms id :=
  rise_ext h.1 rise_rises fun x => by
    have e : x ∈ s.dooms id ↔ _ := mem_rise
    rw [h.2.2]
    refine Iff.trans ?_ e.symm
    constructor
    · rintro ⟨j, q, r1, r2, r3⟩
      exact ⟨has_at.2 ⟨j, q, r1⟩, (st_at hn q r1).trans r2, r3⟩
    · rintro ⟨q, r2, r3⟩
      obtain ⟨j, q, r1⟩ := has_at.1 q
      exact ⟨j, q, r1, (st_at hn q r1).symm.trans r2, r3⟩
end
end Go.Proofs.YtjobphjpfknfeaaDoor
