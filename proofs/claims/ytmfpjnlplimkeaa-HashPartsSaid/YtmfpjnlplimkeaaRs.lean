/- What a Store of versions is in plain lists, and what each call of layer 6 answers and leaves; no dump; no condition. c: how often its words may have been looked at, at most (an Arena counts). -/
import Derived.Test.YtmfpjnlplimkeaaSt2
import Derived.Test.YtmfpjnlplimkeaaKeep
namespace Go.Proofs.Ytmfpjnlplimkeaa
open Go.ChangeShapes Go.WideShapes Go.ChangeAt Go.RowKit
set_option linter.unusedVariables false

structure Ver where
  k : Int
  v : Int
  b : Int
  e : Int
  n : Int
structure RS where
  s : St
  r : List Ver
  c : Int
def RS.ver (s : RS) (i : Nat) : Ver := s.r.getD i ⟨0, 0, 0, 0, 0⟩
/-- The slot that a link names. -/
def slotOf (l : Int) : Nat := (l % 131072 - 1).toNat
def RS.tick (s : RS) : RS := { s with c := s.c + 64 }
def RS.put (s : RS) (i : Nat) (x : Ver) : RS := { s with r := s.r.set i x, c := s.c + 64 }
/-- The slot that is taken next; the Pool behind it; the Pool behind a slot's return. -/
def St.top (s : St) : Option Nat := match s.given.getLast? with
  | some g => some g.toNat
  | none => if s.fresh < s.tags.length then some s.fresh.toNat else none
def St.took (s : St) : St := match s.given.getLast? with
  | some g => { s with taken := s.taken.set g.toNat true, given := s.given.dropLast }
  | none => { s with taken := s.taken.set s.fresh.toNat true, fresh := s.fresh + 1 }
def St.gave (s : St) (i : Nat) : St := if s.tag i = s.most then { s with taken := s.taken.set i false, worn := s.worn + 1 } else { s with taken := s.taken.set i false, tags := s.tags.set i (s.tag i + 1), given := s.given ++ [(i : Int)] }
def RS.make (s : RS) (k v b e : Int) : Int × Int × RS :=
  if k < 0 ∨ 63 < k ∨ v < 0 ∨ 65535 < v then (0, 1, s.tick) else match s.s.top with
    | none => (0, 15, s.tick)
    | some i => (s.s.link i, 0, ⟨s.s.took, s.r.set i ⟨k, v, b, e, 0⟩, s.c + 64⟩)
def RS.free (s : RS) (l : Int) : Int × RS := if s.s.live l = true then (0, ⟨s.s.gave (slotOf l), s.r, s.c + 64⟩) else (8, s.tick)
def RS.set (s : RS) (l v : Int) : Int × RS :=
  if s.s.live l = true then (if v < 0 ∨ 65535 < v then (1, s.tick) else (0, s.put (slotOf l) { s.ver (slotOf l) with v := v })) else (8, s.tick)
def RS.next (s : RS) (l t : Int) : Int × RS := if s.s.live l = true then (0, s.put (slotOf l) { s.ver (slotOf l) with n := t }) else (8, s.tick)
def RS.begin (s : RS) (l o n : Int) : Bool × RS := if s.s.live l = true ∧ (s.ver (slotOf l)).b = o then (true, s.put (slotOf l) { s.ver (slotOf l) with b := n }) else (false, s.tick)
def RS.stop (s : RS) (l o n : Int) : Bool × RS := if s.s.live l = true ∧ (s.ver (slotOf l)).e = o then (true, s.put (slotOf l) { s.ver (slotOf l) with e := n }) else (false, s.tick)
def RS.links (s : RS) : List Int := allTo s.s s.s.tags.length
def RS.used (s : RS) : Int := cnt s.s.taken
def RS.new (n : Nat) : RS := ⟨St.new n 65535, List.replicate n ⟨0, 0, 0, 0, 0⟩, 64⟩
structure VOk (x : Ver) : Prop where
  k0 : 0 ≤ x.k
  k1 : x.k ≤ 63
  v0 : 0 ≤ x.v
  v1 : x.v ≤ 65535
  b : U64 x.b
  e : U64 x.e
  n : U64 x.n
structure ROk (s : RS) : Prop where
  p : Ok s.s
  m : s.s.most = 65535
  l : s.r.length = s.s.tags.length
  v : ∀ i, VOk (s.ver i)
  c0 : 0 ≤ s.c
theorem RS.ver_set (s : RS) (i j : Nat) (x : Ver) (h : i < s.r.length) : (s.r.set i x).getD j ⟨0, 0, 0, 0, 0⟩ = if i = j then x else s.ver j := by
  simp only [RS.ver, List.getD_eq_getElem?_getD, List.getElem?_set]
  by_cases e : i = j
  · subst e; simp [h]
  · simp [e]
theorem RS.ver_put (s : RS) (i j : Nat) (x : Ver) (h : i < s.r.length) : (s.put i x).ver j = if i = j then x else s.ver j := RS.ver_set s i j x h
theorem vOk0 : VOk ⟨0, 0, 0, 0, 0⟩ := ⟨by simp, by simp, by simp, by simp, by simp [U64], by simp [U64], by simp [U64]⟩
theorem ROk.tick {s : RS} (h : ROk s) : ROk s.tick := ⟨h.p, h.m, h.l, h.v, by have := h.c0; simp [RS.tick]; omega⟩
theorem ROk.put {s : RS} (h : ROk s) {i : Nat} (hi : i < s.s.tags.length) {x : Ver} (hx : VOk x) : ROk (s.put i x) := by
  refine ⟨h.p, h.m, by simpa [RS.put] using h.l, fun j => ?_, by have := h.c0; simp [RS.put]; omega⟩
  rw [RS.ver_put s i j x (by rw [h.l]; exact hi)]
  split
  · exact hx
  · exact h.v j
theorem rOk_new (n : Nat) (h0 : 1 ≤ n) (h1 : n ≤ 4096) : ROk (RS.new n) :=
  ⟨ok_new n 65535 h0 h1 (by omega) (by omega), rfl, by simp [RS.new, St.new], fun i => by simp only [RS.ver, RS.new, getD_rep]; exact vOk0, by simp [RS.new]⟩
/-- What is taken next, in the two ways. -/
theorem top_cases {s : St} (ok : Ok s) : (s.top = none ∧ s.given = [] ∧ s.fresh = s.tags.length) ∨
    (∃ i gs, s.top = some i ∧ s.given = gs ++ [(i : Int)] ∧ s.took = { s with taken := s.taken.set i true, given := gs } ∧ i < s.tags.length ∧ s.tk i = false) ∨
    (∃ i : Nat, s.top = some i ∧ s.given = [] ∧ s.fresh = i ∧ s.took = { s with taken := s.taken.set i true, fresh := (i : Int) + 1 } ∧ i < s.tags.length ∧ s.tk i = false) := by
  have f0 := ok.f0
  have f1 := ok.f1
  rcases List.eq_nil_or_concat s.given with hg | ⟨gs, g, hg⟩
  · by_cases hf : s.fresh = s.tags.length
    · exact .inl ⟨by simp [St.top, hg, hf], hg, hf⟩
    · refine .inr (.inr ⟨s.fresh.toNat, by simp [St.top, hg]; omega, hg, by omega, ?_, by omega, ok.ft _ (by omega)⟩)
      simp [St.took, hg]
      omega
  · have hg : s.given = gs ++ [g] := by simpa using hg
    have hm := ok.gv g (by rw [hg]; simp)
    refine .inr (.inl ⟨g.toNat, gs, by simp [St.top, hg], by rw [hg]; simp; omega, by simp [St.took, hg], by omega, hm.2.2⟩)
theorem ok_took {s : St} (ok : Ok s) {i : Nat} (h : s.top = some i) : i < s.tags.length ∧ s.tk i = false ∧ Ok s.took ∧ s.took.tags = s.tags ∧ s.took.taken = s.taken.set i true ∧ s.took.most = s.most := by
  rcases top_cases ok with ⟨h1, _⟩ | ⟨j, gs, h1, hg, ht, hj, hk⟩ | ⟨j, h1, hg, hf, ht, hj, hk⟩
  · rw [h] at h1; cases h1
  · rw [h] at h1; cases h1
    rw [ht]
    exact ⟨hj, hk, (ok_takeGiven ok hg).2.2, rfl, rfl, rfl⟩
  · rw [h] at h1; cases h1
    rw [ht]
    exact ⟨hj, hk, (ok_takeFresh ok hf hj).2, rfl, rfl, rfl⟩
theorem slot_live {s : St} {l : Int} (h : s.live l = true) : slotOf l < s.tags.length ∧ s.tk (slotOf l) = true ∧ l = s.link (slotOf l) := by
  obtain ⟨i, hi, ht, hl, hm⟩ := (live_iff _ _).1 h
  have e : slotOf l = i := by unfold slotOf; omega
  rw [e]
  exact ⟨hi, ht, hl⟩
theorem slot_link (s : St) (i : Nat) (hi : i < 4096) : slotOf (s.link i) = i := by unfold slotOf; rw [link_mod s i hi]; omega
theorem ok_gave {s : St} (ok : Ok s) {i : Nat} (hi : i < s.tags.length) (ht : s.tk i = true) : Ok (s.gave i) := by
  have tg := ok.tg i
  unfold St.gave
  split
  · exact ok_wear ok hi ht
  · exact ok_give ok hi ht (by omega)
theorem gave_parts (s : St) (i : Nat) : (s.gave i).tags.length = s.tags.length ∧ (s.gave i).taken = s.taken.set i false ∧ (s.gave i).most = s.most ∧ ∀ j, j ≠ i → (s.gave i).tag j = s.tag j := by
  unfold St.gave
  split
  · exact ⟨rfl, rfl, rfl, fun j _ => rfl⟩
  · exact ⟨by simp, rfl, rfl, fun j hj => by simp [St.tag, List.getD_eq_getElem?_getD, Ne.symm hj]⟩
theorem rOk_make {s : RS} (h : ROk s) (k v b e : Int) (hb : U64 b) (he : U64 e) : ROk (s.make k v b e).2.2 := by
  unfold RS.make
  split
  · exact h.tick
  · rename_i hn
    split
    · exact h.tick
    · rename_i i ht
      obtain ⟨hi, hk, ok, e1, e2, e3⟩ := ok_took h.p ht
      refine ⟨ok, by show s.s.took.most = _; rw [e3]; exact h.m, by show (s.r.set i _).length = s.s.took.tags.length; rw [e1, List.length_set]; exact h.l, fun j => ?_, by have := h.c0; simp; omega⟩
      show VOk ((s.r.set i _).getD j _)
      rw [RS.ver_set s i j _ (by rw [h.l]; exact hi)]
      split
      · exact ⟨by simp; omega, by simp; omega, by simp; omega, by simp; omega, hb, he, by simp [U64]⟩
      · exact h.v j
theorem rOk_free {s : RS} (h : ROk s) (l : Int) : ROk (s.free l).2 := by
  unfold RS.free
  split
  · rename_i hl
    obtain ⟨hi, ht, _⟩ := slot_live hl
    obtain ⟨g1, g2, g3, _⟩ := gave_parts s.s (slotOf l)
    exact ⟨ok_gave h.p hi ht, by show (s.s.gave _).most = _; rw [g3]; exact h.m, by show s.r.length = (s.s.gave _).tags.length; rw [g1]; exact h.l, h.v, by have := h.c0; simp; omega⟩
  · exact h.tick
theorem rOk_set {s : RS} (h : ROk s) (l v : Int) : ROk (s.set l v).2 := by
  unfold RS.set
  split
  · rename_i hl
    split
    · exact h.tick
    · have x := h.v (slotOf l)
      exact h.put (slot_live hl).1 ⟨x.k0, x.k1, by simp; omega, by simp; omega, x.b, x.e, x.n⟩
  · exact h.tick
theorem rOk_next {s : RS} (h : ROk s) (l t : Int) (ht : U64 t) : ROk (s.next l t).2 := by
  unfold RS.next
  split
  · rename_i hl
    have x := h.v (slotOf l)
    exact h.put (slot_live hl).1 ⟨x.k0, x.k1, x.v0, x.v1, x.b, x.e, ht⟩
  · exact h.tick
theorem rOk_begin {s : RS} (h : ROk s) (l o n : Int) (hn : U64 n) : ROk (s.begin l o n).2 := by
  unfold RS.begin
  split
  · rename_i hl
    have x := h.v (slotOf l)
    exact h.put (slot_live hl.1).1 ⟨x.k0, x.k1, x.v0, x.v1, hn, x.e, x.n⟩
  · exact h.tick
theorem rOk_stop {s : RS} (h : ROk s) (l o n : Int) (hn : U64 n) : ROk (s.stop l o n).2 := by
  unfold RS.stop
  split
  · rename_i hl
    have x := h.v (slotOf l)
    exact h.put (slot_live hl.1).1 ⟨x.k0, x.k1, x.v0, x.v1, x.b, hn, x.n⟩
  · exact h.tick
/-- However it is answered the count grows alike. -/
theorem make_c (s : RS) (k v b e : Int) : (s.make k v b e).2.2.c = s.c + 64 := by
  unfold RS.make
  split
  · rfl
  · split <;> rfl
theorem free_c (s : RS) (l : Int) : (s.free l).2.c = s.c + 64 := by unfold RS.free; split <;> rfl
theorem set_c (s : RS) (l v : Int) : (s.set l v).2.c = s.c + 64 := by
  unfold RS.set
  split
  · split <;> rfl
  · rfl
theorem next_c (s : RS) (l t : Int) : (s.next l t).2.c = s.c + 64 := by unfold RS.next; split <;> rfl
theorem begin_c (s : RS) (l o n : Int) : (s.begin l o n).2.c = s.c + 64 := by unfold RS.begin; split <;> rfl
theorem stop_c (s : RS) (l o n : Int) : (s.stop l o n).2.c = s.c + 64 := by unfold RS.stop; split <;> rfl
theorem make_b {s : RS} (h : ROk s) (k v b e : Int) : 0 ≤ (s.make k v b e).1 ∧ (s.make k v b e).1 ≤ 8589934592 ∧ 0 ≤ (s.make k v b e).2.1 ∧ (s.make k v b e).2.1 ≤ 15 := by
  unfold RS.make
  split
  · simp
  · split
    · simp
    · rename_i i ht
      have lb := link_b h.p i (ok_took h.p ht).1
      simp
      omega
end Go.Proofs.Ytmfpjnlplimkeaa
