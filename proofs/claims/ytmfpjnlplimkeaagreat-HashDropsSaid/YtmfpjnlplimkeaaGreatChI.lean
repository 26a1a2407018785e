/- A Chain's links in a Store in plain lists: they live, and each is led to the next; behind a Make, a Free of another one, a put ahead, a cut. No dump; no condition beyond the Store's own. -/
import Derived.Test.YtmfpjnlplimkeaaGreatRecO
namespace Go.Proofs.YtmfpjnlplimkeaaGreat
open Go.ChangeShapes Go.WideShapes Go.ChangeAt Go.RowKit
set_option linter.unusedVariables false

/-- The links l, newest first, are those of versions that live, each led to the next one. -/
structure Linked (s : RS) (l : List Int) : Prop where
  live : ∀ x ∈ l, s.s.live x = true
  nd : l.Nodup
  next : ∀ i, i < l.length → (s.ver (slotOf (l.getD i 0))).n = l.getD (i + 1) 0
def pushI (t : St) (l : List Int) (x : Int) : Bool × List Int := if t.live x = true ∧ x ∉ l then (true, x :: l) else (false, l)
def cutI (l : List Int) (x : Int) : Bool × List Int := if x ∈ l then (true, l.erase x) else (false, l)
section
variable {s s' : RS} {l : List Int}
theorem getD_mem {l : List Int} {i : Nat} (h : i < l.length) : l.getD i 0 ∈ l := by
  rw [List.getD_eq_getElem?_getD, List.getElem?_eq_getElem h]
  exact List.getElem_mem h
theorem slot_inj {s : St} {x y : Int} (hx : s.live x = true) (hy : s.live y = true) (h : slotOf x = slotOf y) : x = y := by
  rw [(slot_live hx).2.2, (slot_live hy).2.2, h]
theorem getD_inj {l : List Int} (hn : l.Nodup) : ∀ {i j : Nat}, i < l.length → j < l.length → l.getD i 0 = l.getD j 0 → i = j := by
  induction l with
  | nil => intro i j h; simp at h
  | cons a l ih =>
    rw [List.nodup_cons] at hn
    intro i j hi hj h
    cases i with
    | zero =>
      cases j with
      | zero => rfl
      | succ j =>
        rw [List.getD_cons_zero, List.getD_cons_succ] at h
        exact absurd (h ▸ getD_mem (by simpa using hj)) hn.1
    | succ i =>
      cases j with
      | zero =>
        rw [List.getD_cons_zero, List.getD_cons_succ] at h
        exact absurd (h ▸ getD_mem (by simpa using hi)) hn.1
      | succ j =>
        rw [List.getD_cons_succ, List.getD_cons_succ] at h
        rw [ih hn.2 (by simpa using hi) (by simpa using hj) h]
theorem Linked.nil (s : RS) : Linked s [] := ⟨fun x h => by simp at h, by simp, fun i h => by simp at h⟩
theorem Linked.tick (h : Linked s l) : Linked s.tick l := ⟨h.live, h.nd, h.next⟩
/-- Another version is turned, whatever is turned of it. -/
theorem Linked.same (h : Linked s l) (hl : ∀ x ∈ l, s'.s.live x = true) (hv : ∀ x ∈ l, s'.ver (slotOf x) = s.ver (slotOf x)) : Linked s' l :=
  ⟨hl, h.nd, fun i hi => by rw [hv _ (getD_mem hi)]; exact h.next i hi⟩
theorem Linked.put_other (h : Linked s l) (ok : ROk s) {x : Int} (hx : s.s.live x = true) (hn : x ∉ l) (y : Ver) : Linked (s.put (slotOf x) y) l := by
  refine h.same h.live fun z hz => ?_
  rw [RS.ver_put s _ _ y (by rw [ok.l]; exact (slot_live hx).1), if_neg (fun e => hn (by rw [slot_inj hx (h.live z hz) e]; exact hz))]
theorem Linked.push (h : Linked s l) (ok : ROk s) {x : Int} (hx : s.s.live x = true) (hn : x ∉ l) : Linked (s.put (slotOf x) { s.ver (slotOf x) with n := l.headD 0 }) (x :: l) := by
  have h2 := h.put_other ok hx hn { s.ver (slotOf x) with n := l.headD 0 }
  refine ⟨fun z hz => ?_, List.nodup_cons.2 ⟨hn, h.nd⟩, fun i hi => ?_⟩
  · rcases List.mem_cons.1 hz with rfl | hz
    · exact hx
    · exact h2.live z hz
  · cases i with
    | zero =>
      rw [List.getD_cons_zero, RS.ver_put s _ _ _ (by rw [ok.l]; exact (slot_live hx).1), if_pos rfl]
      cases l <;> rfl
    | succ i =>
      rw [List.getD_cons_succ, List.getD_cons_succ]
      exact h2.next i (by simpa using hi)
theorem Linked.cut_first {x : Int} (h : Linked s (x :: l)) : Linked s l :=
  ⟨fun z hz => h.live z (List.mem_cons_of_mem _ hz), (List.nodup_cons.1 h.nd).2, fun i hi => by
    have := h.next (i + 1) (by simpa using hi)
    rwa [List.getD_cons_succ, List.getD_cons_succ] at this⟩
theorem getD_erase (l : List Int) (i j : Nat) : (l.eraseIdx i).getD j 0 = if j < i then l.getD j 0 else l.getD (j + 1) 0 := by
  rw [List.getD_eq_getElem?_getD, List.getElem?_eraseIdx]
  split
  · rw [List.getD_eq_getElem?_getD]
  · rw [List.getD_eq_getElem?_getD]
theorem Linked.cut (h : Linked s l) (ok : ROk s) (i : Nat) (hi : i + 1 < l.length) : Linked (s.put (slotOf (l.getD i 0)) { s.ver (slotOf (l.getD i 0)) with n := l.getD (i + 2) 0 }) (l.eraseIdx (i + 1)) := by
  have hx := h.live _ (getD_mem (l := l) (i := i) (by omega))
  have hlen : (l.eraseIdx (i + 1)).length = l.length - 1 := by rw [List.length_eraseIdx_of_lt hi]
  refine ⟨fun z hz => h.live z (List.mem_of_mem_eraseIdx hz), h.nd.sublist (List.eraseIdx_sublist _ _), fun j hj => ?_⟩
  rw [hlen] at hj
  have other : ∀ m, m < l.length → m ≠ i → ((s.put (slotOf (l.getD i 0)) { s.ver (slotOf (l.getD i 0)) with n := l.getD (i + 2) 0 }).ver (slotOf (l.getD m 0))).n = l.getD (m + 1) 0 := by
    intro m hm hne
    rw [RS.ver_put s _ _ _ (by rw [ok.l]; exact (slot_live hx).1), if_neg (fun e => hne (getD_inj h.nd hm (by omega) (slot_inj (h.live _ (getD_mem hm)) hx e.symm)))]
    exact h.next m hm
  rw [getD_erase, getD_erase]
  by_cases h1 : j < i
  · rw [if_pos (by omega), if_pos (by omega)]
    exact other j (by omega) (by omega)
  · by_cases h2 : j = i
    · subst h2
      rw [if_pos (by omega), if_neg (by omega), RS.ver_put s _ _ _ (by rw [ok.l]; exact (slot_live hx).1), if_pos rfl]
    · rw [if_neg (by omega), if_neg (by omega)]
      exact other (j + 1) (by omega) (by omega)
theorem erase_idx {l : List Int} (hn : l.Nodup) : ∀ {i : Nat}, i < l.length → l.erase (l.getD i 0) = l.eraseIdx i := by
  induction l with
  | nil => intro i h; simp at h
  | cons a l ih =>
    rw [List.nodup_cons] at hn
    intro i hi
    cases i with
    | zero => simp
    | succ i =>
      have hi : i < l.length := by simpa using hi
      rw [List.getD_cons_succ, List.erase_cons_tail (by intro e; exact hn.1 (by have : a = l.getD i 0 := (by simpa using e); rw [this]; exact getD_mem hi)), ih hn.2 hi]
      rfl
theorem took_live {st : St} (ok : Ok st) {i : Nat} (h : st.top = some i) {x : Int} (hx : st.live x = true) : st.took.live x = true ∧ slotOf x ≠ i := by
  obtain ⟨h1, h2, _, e1, e2, _⟩ := ok_took ok h
  obtain ⟨hl, ht, hk⟩ := slot_live hx
  have hne : slotOf x ≠ i := fun e => by rw [e, h2] at ht; cases ht
  have a1 : st.took.tk (slotOf x) = st.tk (slotOf x) := by
    simp only [St.tk, e2, List.getD_eq_getElem?_getD, List.getElem?_set, Ne.symm hne, if_false]
  have a2 : st.took.link (slotOf x) = st.link (slotOf x) := by unfold St.link St.tag; rw [e1]
  refine ⟨?_, hne⟩
  have h3 := hx
  unfold slotOf at a1 a2
  unfold St.live at h3 ⊢
  rw [e1, a1, a2]
  exact h3
theorem Linked.make (h : Linked s l) (ok : ROk s) (k v b e : Int) : Linked (s.make k v b e).2.2 l := by
  unfold RS.make
  split
  · exact h.tick
  · cases ht : s.s.top with
    | none => exact h.tick
    | some i =>
      refine h.same (fun x hx => (took_live ok.p ht (h.live x hx)).1) fun x hx => ?_
      show (s.r.set i _).getD (slotOf x) _ = _
      rw [RS.ver_set s i _ _ (by rw [ok.l]; exact (ok_took ok.p ht).1), if_neg (fun e => (took_live ok.p ht (h.live x hx)).2 e.symm)]
theorem Linked.free (h : Linked s l) {x : Int} (hn : x ∉ l) : Linked (s.free x).2 l := by
  unfold RS.free
  split
  · rename_i hx
    refine h.same (fun z hz => ?_) fun z hz => rfl
    show (s.s.gave (slotOf x)).live z = true
    rw [gave_live_other _ _ _ (fun e => hn (by rw [← slot_inj (h.live z hz) hx e]; exact hz))]
    exact h.live z hz
  · exact h.tick
/-- What is told of a link of the Chain: it is there, and which is the next one. -/
theorem Linked.get (h : Linked s l) (i : Nat) (hi : i < l.length) : ∃ y : Ver, s.get (l.getD i 0) = .tuple #[verV y, .bool true] ∧ y.n = l.getD (i + 1) 0 := by
  refine ⟨s.ver (slotOf (l.getD i 0)), ?_, h.next i hi⟩
  unfold RS.get
  rw [if_pos (h.live _ (getD_mem hi))]
theorem zero_dead (t : St) : t.live 0 = false := by
  cases h : t.live 0 with
  | false => rfl
  | true =>
    obtain ⟨i, _, _, _, hm⟩ := (live_iff _ _).1 h
    omega
end
end Go.Proofs.YtmfpjnlplimkeaaGreat
