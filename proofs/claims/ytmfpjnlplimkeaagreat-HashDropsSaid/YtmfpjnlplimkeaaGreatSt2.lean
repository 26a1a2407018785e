/- The states of a Pool under its calls: each call keeps what is promised of the state; what a link tells before and behind it. No dump. -/
import Derived.Test.YtmfpjnlplimkeaaGreatSt
namespace Go.Proofs.YtmfpjnlplimkeaaGreat

theorem tk_set {s : St} {i : Nat} (b : Bool) (hi : i < s.taken.length) (j : Nat) : (s.taken.set i b).getD j false = if j = i then b else s.tk j := by
  simp only [St.tk, List.getD_eq_getElem?_getD, List.getElem?_set]
  by_cases e : i = j
  · subst e; simp [hi]
  · simp [e, Ne.symm e]
theorem tag_set {s : St} {i : Nat} (t : Int) (hi : i < s.tags.length) (j : Nat) : (s.tags.set i t).getD j 0 = if j = i then t else s.tag j := by
  simp only [St.tag, List.getD_eq_getElem?_getD, List.getElem?_set]
  by_cases e : i = j
  · subst e; simp [hi]
  · simp [e, Ne.symm e]
theorem ok_takeGiven {s : St} (ok : Ok s) {gs : List Int} {i : Nat} (hg : s.given = gs ++ [(i : Int)]) : i < s.tags.length ∧ s.tk i = false ∧ Ok { s with taken := s.taken.set i true, given := gs } := by
  have hm := ok.gv i (by rw [hg]; simp)
  have hf1 := ok.f1
  have hi : i < s.tags.length := by omega
  have hit : i < s.taken.length := by rw [ok.tl]; exact hi
  have hk : s.tk i = false := by simpa using hm.2.2
  have hnd := ok.nd
  rw [hg, List.nodup_append] at hnd
  refine ⟨hi, hk, ⟨ok.n0, ok.n1, by simpa using ok.tl, ok.m0, ok.m1, ok.tg, ?_, hnd.1, ok.f0, ok.f1, ?_, ok.w0, ?_⟩⟩
  · intro g hgs
    have h := ok.gv g (by rw [hg]; simp [hgs])
    refine ⟨h.1, h.2.1, ?_⟩
    show (s.taken.set i true).getD g.toNat false = false
    rw [tk_set true hit]
    have hne : g ≠ i := hnd.2.2 g hgs i (by simp)
    rw [if_neg (by omega)]
    exact h.2.2
  · intro j hj
    show (s.taken.set i true).getD j false = false
    rw [tk_set true hit, if_neg (by have := hm.2.1; have hj : s.fresh ≤ j := hj; omega)]
    exact ok.ft j hj
  · have hc := ok.ct
    have := cnt_set s.taken i hit true
    have hk' : s.taken.getD i false = false := hk
    rw [hg] at hc
    simp only [hk', List.length_append, List.length_cons, List.length_nil] at this hc
    show (gs.length : Int) + cnt (s.taken.set i true) + s.worn = s.fresh
    rw [this]
    simp at hc ⊢
    omega
theorem ok_takeFresh {s : St} (ok : Ok s) {i : Nat} (hi : s.fresh = i) (hl : i < s.tags.length) : s.tk i = false ∧ Ok { s with taken := s.taken.set i true, fresh := (i : Int) + 1 } := by
  have hit : i < s.taken.length := by rw [ok.tl]; exact hl
  have hk : s.tk i = false := ok.ft i (by omega)
  refine ⟨hk, ⟨ok.n0, ok.n1, by simpa using ok.tl, ok.m0, ok.m1, ok.tg, ?_, ok.nd, by simp; omega, by simp; omega, ?_, ok.w0, ?_⟩⟩
  · intro g hgs
    have h := ok.gv g hgs
    refine ⟨h.1, by have := h.2.1; simp; omega, ?_⟩
    show (s.taken.set i true).getD g.toNat false = false
    rw [tk_set true hit, if_neg (by have := h.2.1; have := h.1; omega)]
    exact h.2.2
  · intro j hj
    have hj : (i : Int) + 1 ≤ j := hj
    show (s.taken.set i true).getD j false = false
    rw [tk_set true hit, if_neg (by omega)]
    exact ok.ft j (by omega)
  · have hc := ok.ct
    have := cnt_set s.taken i hit true
    have hk' : s.taken.getD i false = false := hk
    simp only [hk'] at this
    show (s.given.length : Int) + cnt (s.taken.set i true) + s.worn = (i : Int) + 1
    rw [this]
    simp
    omega
theorem ok_give {s : St} (ok : Ok s) {i : Nat} (hi : i < s.tags.length) (ht : s.tk i = true) (hm : s.tag i < s.most) : Ok { s with taken := s.taken.set i false, tags := s.tags.set i (s.tag i + 1), given := s.given ++ [(i : Int)] } := by
  have hit : i < s.taken.length := by rw [ok.tl]; exact hi
  have hif : (i : Int) < s.fresh := by
    rcases Int.lt_or_le (i : Int) s.fresh with h | h
    · exact h
    · have := ok.ft i h
      rw [ht] at this
      cases this
  refine ⟨by simpa using ok.n0, by simpa using ok.n1, by simpa using ok.tl, ok.m0, ok.m1, ?_, ?_, ?_, ok.f0, by simpa using ok.f1, ?_, ok.w0, ?_⟩
  · intro j
    show 0 ≤ (s.tags.set i (s.tag i + 1)).getD j 0 ∧ (s.tags.set i (s.tag i + 1)).getD j 0 ≤ s.most
    rw [tag_set _ hi]
    have h1 := ok.tg i
    have h2 := ok.tg j
    split <;> omega
  · intro g hgs
    rcases List.mem_append.1 hgs with h | h
    · have h := ok.gv g h
      refine ⟨h.1, h.2.1, ?_⟩
      show (s.taken.set i false).getD g.toNat false = false
      rw [tk_set false hit]
      split
      · rfl
      · exact h.2.2
    · simp at h
      subst h
      refine ⟨by omega, hif, ?_⟩
      show (s.taken.set i false).getD (i : Int).toNat false = false
      rw [tk_set false hit]
      simp
  · rw [List.nodup_append]
    refine ⟨ok.nd, by simp, ?_⟩
    intro a ha b hb e
    simp at hb
    subst hb
    subst e
    have h := (ok.gv i ha).2.2
    simp at h
    rw [ht] at h
    cases h
  · intro j hj
    show (s.taken.set i false).getD j false = false
    rw [tk_set false hit]
    split
    · rfl
    · exact ok.ft j hj
  · have hc := ok.ct
    have := cnt_set s.taken i hit false
    have hk' : s.taken.getD i false = true := ht
    simp only [hk'] at this
    show ((s.given ++ [(i : Int)]).length : Int) + cnt (s.taken.set i false) + s.worn = s.fresh
    rw [this]
    simp
    omega
theorem ok_wear {s : St} (ok : Ok s) {i : Nat} (hi : i < s.tags.length) (ht : s.tk i = true) : Ok { s with taken := s.taken.set i false, worn := s.worn + 1 } := by
  have hit : i < s.taken.length := by rw [ok.tl]; exact hi
  refine ⟨ok.n0, ok.n1, by simpa using ok.tl, ok.m0, ok.m1, ok.tg, ?_, ok.nd, ok.f0, ok.f1, ?_, by have := ok.w0; simp; omega, ?_⟩
  · intro g hgs
    have h := ok.gv g hgs
    refine ⟨h.1, h.2.1, ?_⟩
    show (s.taken.set i false).getD g.toNat false = false
    rw [tk_set false hit]
    split
    · rfl
    · exact h.2.2
  · intro j hj
    show (s.taken.set i false).getD j false = false
    rw [tk_set false hit]
    split
    · rfl
    · exact ok.ft j hj
  · have hc := ok.ct
    have := cnt_set s.taken i hit false
    have hk' : s.taken.getD i false = true := ht
    simp only [hk'] at this
    show (s.given.length : Int) + cnt (s.taken.set i false) + (s.worn + 1) = s.fresh
    rw [this]
    simp
    omega
/-- As many links as are taken. -/
theorem allTo_cnt (s : St) (k : Nat) (hk : k ≤ s.taken.length) : ((allTo s k).length : Int) = cnt (s.taken.take k) := by
  induction k with
  | zero => simp [allTo, cnt]
  | succ k ih =>
    have hl : k < s.taken.length := by omega
    have e : s.taken.take (k + 1) = s.taken.take k ++ [s.tk k] := by
      rw [List.take_succ_eq_append_getElem hl]
      simp [St.tk, List.getD_eq_getElem?_getD, hl]
    have ca : ∀ (l : List Bool) (b : Bool), cnt (l ++ [b]) = cnt l + if b then 1 else 0 := by
      intro l b
      induction l with
      | nil => cases b <;> simp [cnt]
      | cons x l ih2 => cases x <;> simp [cnt, ih2] <;> omega
    rw [e, ca, allTo]
    have := ih (by omega)
    cases s.tk k <;> simp <;> omega
end Go.Proofs.YtmfpjnlplimkeaaGreat
