/- Where a link stands last in a list of links; and versions kept beside links as a Store has them; plain facts, no dump. -/
import Derived.Test.YthmohehmpleciaaRs
namespace Go.Proofs.Ythmohehmpleciaa
open Go.ChangeShapes Go.WideShapes Go.ChangeAt Go.RowKit
set_option linter.unusedVariables false

/-- The last place of l among the first k, or a0. -/
def lastF (a0 : Int) (zs : List Int) (l : Int) : Nat → Int
  | 0 => a0
  | k + 1 => if zs.getD k 0 = l then k else lastF a0 zs l k
theorem lastF_hit (a0 : Int) (zs : List Int) (l : Int) (k : Nat) : lastF a0 zs l k = a0 ∨ ∃ j : Nat, lastF a0 zs l k = j ∧ j < k ∧ zs.getD j 0 = l := by
  induction k with
  | zero => exact .inl rfl
  | succ k ih =>
    unfold lastF
    split
    · rename_i h; exact .inr ⟨k, rfl, by omega, h⟩
    · rcases ih with h | ⟨j, h1, h2, h3⟩
      · exact .inl h
      · exact .inr ⟨j, h1, by omega, h3⟩
theorem lastF_none (a0 : Int) (zs : List Int) (l : Int) (k : Nat) (h : ∀ j, j < k → zs.getD j 0 ≠ l) : lastF a0 zs l k = a0 := by
  induction k with
  | zero => rfl
  | succ k ih => unfold lastF; rw [if_neg (h k (by omega)), ih (fun j hj => h j (by omega))]
theorem lastF_some (a0 a1 : Int) (zs : List Int) (l : Int) (k j : Nat) (hj : j < k) (h : zs.getD j 0 = l) : lastF a0 zs l k = lastF a1 zs l k := by
  induction k with
  | zero => omega
  | succ k ih =>
    unfold lastF
    split
    · rfl
    · rename_i hn
      by_cases e : j = k
      · subst e; exact absurd h hn
      · exact ih (by omega)
theorem lastF_app (a0 : Int) (zs ys : List Int) (l : Int) (k : Nat) (hk : k ≤ zs.length) : lastF a0 (zs ++ ys) l k = lastF a0 zs l k := by
  induction k with
  | zero => rfl
  | succ k ih =>
    have e : (zs ++ ys).getD k 0 = zs.getD k 0 := by simp [List.getD_eq_getElem?_getD, List.getElem?_append_left (show k < zs.length by omega)]
    unfold lastF
    rw [e, ih (by omega)]
/-- Looked for again, from the place where it was, in a list that has grown. -/
theorem last_again (zs ys : List Int) (l : Int) : lastF (lastF (-1) zs l zs.length) (zs ++ ys) l (zs ++ ys).length = lastF (-1) (zs ++ ys) l (zs ++ ys).length := by
  by_cases h : ∃ j, j < (zs ++ ys).length ∧ (zs ++ ys).getD j 0 = l
  · obtain ⟨j, hj, e⟩ := h
    exact lastF_some _ _ _ _ _ j hj e
  · have hn : ∀ j, j < (zs ++ ys).length → (zs ++ ys).getD j 0 ≠ l := fun j hj e => h ⟨j, hj, e⟩
    rw [lastF_none _ _ _ _ hn, lastF_none _ _ _ _ hn]
    refine lastF_none _ _ _ _ (fun j hj e => hn j (by simp; omega) ?_)
    simpa [List.getD_eq_getElem?_getD, List.getElem?_append_left hj] using e
/-- Each link that lives stands among the links, and its version at its last place. -/
structure Inv (st : RS) (zs : List Int) (vs : List Ver) : Prop where
  len : vs.length = zs.length
  h : ∀ l, st.s.live l = true → ∃ j : Nat, lastF (-1) zs l zs.length = j ∧ j < zs.length ∧ zs.getD j 0 = l ∧ vs.getD j ⟨0, 0, 0, 0, 0⟩ = st.ver (slotOf l)
theorem inv_new (n : Nat) (h0 : 1 ≤ n) (h1 : n ≤ 4096) : Inv (RS.new n) [] [] := by
  refine ⟨rfl, fun l hl => ?_⟩
  obtain ⟨_, h2, _⟩ := slot_live hl
  simp only [RS.new, St.new, St.tk, getD_rep] at h2
  cases h2
section
variable {st : RS} {zs : List Int} {vs : List Ver}
theorem Inv.tick (h : Inv st zs vs) : Inv st.tick zs vs := ⟨h.len, h.h⟩
theorem live_one {s : St} {l l' : Int} (h : s.live l = true) (h' : s.live l' = true) (e : slotOf l = slotOf l') : l = l' := by
  obtain ⟨_, _, e1⟩ := slot_live h
  obtain ⟨_, _, e2⟩ := slot_live h'
  rw [e1, e2, e]
theorem Inv.put (h : Inv st zs vs) (ok : ROk st) {l : Int} (hl : st.s.live l = true) {j : Nat} (hj : lastF (-1) zs l zs.length = j) (x : Ver) : Inv (st.put (slotOf l) x) zs (vs.set j x) := by
  have hsl : slotOf l < st.r.length := by rw [ok.l]; exact (slot_live hl).1
  obtain ⟨j0, a1, a2, a3, a4⟩ := h.h l hl
  have e0 : j0 = j := by omega
  subst e0
  refine ⟨by simpa using h.len, fun l' hl' => ?_⟩
  obtain ⟨j', b1, b2, b3, b4⟩ := h.h l' hl'
  refine ⟨j', b1, b2, b3, ?_⟩
  rw [RS.ver_put st _ _ _ hsl]
  by_cases e : l' = l
  · subst e
    have : j' = j0 := by omega
    subst this
    rw [if_pos rfl]
    simp [List.getD_eq_getElem?_getD, h.len, b2]
  · have hne : slotOf l ≠ slotOf l' := fun z => e (live_one hl' hl z.symm)
    have hj : j0 ≠ j' := fun z => e (by rw [← b3, ← a3, z])
    rw [if_neg hne, ← b4]
    simp [List.getD_eq_getElem?_getD, hj]
theorem Inv.gone (h : Inv st zs vs) {i : Nat} (c : Int) : Inv ⟨st.s.gave i, st.r, c⟩ zs vs := by
  refine ⟨h.len, fun l hl => ?_⟩
  have hl : (st.s.gave i).live l = true := hl
  have hne : slotOf l ≠ i := fun z => by
    obtain ⟨h1, h2, _⟩ := slot_live hl
    obtain ⟨_, g2, _, _⟩ := gave_parts st.s i
    have e : (st.s.taken.set i false).getD i false = false := by
      rw [List.getD_eq_getElem?_getD, List.getElem?_set]
      by_cases hi : i < st.s.taken.length <;> simp [hi]
    rw [z] at h2
    unfold St.tk at h2
    rw [g2, e] at h2
    cases h2
  have hl2 : st.s.live l = true := by
    obtain ⟨g1, g2, _, g4⟩ := gave_parts st.s i
    have e1 : (st.s.gave i).tk (slotOf l) = st.s.tk (slotOf l) := by
      simp only [St.tk, g2, List.getD_eq_getElem?_getD, List.getElem?_set, Ne.symm hne, if_false]
    have e2 : (st.s.gave i).link (slotOf l) = st.s.link (slotOf l) := by unfold St.link; rw [g4 _ hne]
    unfold slotOf at e1 e2
    unfold St.live at hl ⊢
    rwa [g1, e1, e2] at hl
  exact h.h l hl2
theorem Inv.made (h : Inv st zs vs) (ok : ROk st) {i : Nat} (ht : st.s.top = some i) (x : Ver) (c : Int) : Inv ⟨st.s.took, st.r.set i x, c⟩ (zs ++ [st.s.link i]) (vs ++ [x]) := by
  obtain ⟨hi, hk, ok1, e1, e2, _⟩ := ok_took ok.p ht
  have hir : i < st.r.length := by rw [ok.l]; exact hi
  have n1 := ok.p.n1
  have lk : st.s.took.link i = st.s.link i := by simp only [St.link, St.tag, e1]
  have sk : slotOf (st.s.link i) = i := slot_link st.s i (by omega)
  refine ⟨by simp [h.len], fun l hl => ?_⟩
  have hl : st.s.took.live l = true := hl
  obtain ⟨h1, h2, h3⟩ := slot_live hl
  have hlen : (zs ++ [st.s.link i]).length = zs.length + 1 := by simp
  have glast : (zs ++ [st.s.link i]).getD zs.length 0 = st.s.link i := by simp [List.getD_eq_getElem?_getD]
  by_cases e : l = st.s.link i
  · subst e
    refine ⟨zs.length, ?_, by omega, glast, ?_⟩
    · rw [hlen]; show (if _ then _ else _) = _; rw [if_pos glast]
    · rw [sk]
      show _ = (st.r.set i x).getD i _
      rw [RS.ver_set st i i x hir, if_pos rfl]
      simp [List.getD_eq_getElem?_getD, ← h.len]
  · have hne : slotOf l ≠ i := fun z => e (by rw [h3, z, lk])
    have hl2 : st.s.live l = true := by
      have a1 : st.s.took.tk (slotOf l) = st.s.tk (slotOf l) := by
        simp only [St.tk, e2, List.getD_eq_getElem?_getD, List.getElem?_set, Ne.symm hne, if_false]
      have a2 : st.s.took.link (slotOf l) = st.s.link (slotOf l) := by simp only [St.link, St.tag, e1]
      unfold slotOf at a1 a2
      unfold St.live at hl ⊢
      rwa [e1, a1, a2] at hl
    obtain ⟨j, b1, b2, b3, b4⟩ := h.h l hl2
    have gj : (zs ++ [st.s.link i]).getD j 0 = zs.getD j 0 := by simp [List.getD_eq_getElem?_getD, List.getElem?_append_left b2]
    refine ⟨j, ?_, by omega, by rw [gj]; exact b3, ?_⟩
    · rw [hlen]
      show (if _ then _ else _) = _
      rw [glast, if_neg (fun z => e z.symm), lastF_app _ _ _ _ _ (Nat.le_refl _)]
      exact b1
    · show _ = (st.r.set i x).getD (slotOf l) _
      rw [RS.ver_set st i _ x hir, if_neg (fun z => hne z.symm), ← b4]
      simp [List.getD_eq_getElem?_getD, List.getElem?_append_left (show j < vs.length by rw [h.len]; exact b2)]
end
end Go.Proofs.Ythmohehmpleciaa
