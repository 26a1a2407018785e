/- Of a Pool whose links are kept in two lists, those that are taken and those that were given back: what is promised of them, and what each call keeps of it. No dump. -/
import Derived.Test.YtecnlneilgiheaaSt2
namespace Go.Proofs.Ytecnlneilgiheaa

structure Inv (n k : Nat) (s : St) (L G : List Int) : Prop where
  ok : Ok s
  nl : s.tags.length = n
  mo : s.most = 65535
  w0 : s.worn = 0
  tg : ∀ i, s.tag i ≤ k
  li : ∃ is : List Nat, L = is.map s.link ∧ is.Nodup ∧ (∀ i ∈ is, i < n ∧ s.tk i = true) ∧ (is.length : Int) = cnt s.taken
  go : ∀ g ∈ G, ∃ (i : Nat) (t : Int), g = linkI i t ∧ 0 ≤ t ∧ i < n ∧ t < s.tag i
theorem inv_new (n : Nat) (h0 : 1 ≤ n) (h1 : n ≤ 4096) : Inv n 0 (St.new n 65535) [] [] :=
  ⟨ok_new n 65535 h0 h1 (by omega) (by omega), by simp [St.new], rfl, rfl, fun i => by simp only [St.tag, St.new, getD_rep]; omega, ⟨[], rfl, List.nodup_nil, by simp, by simp [St.new, cnt_rep]⟩, by simp⟩
theorem Inv.n4 {n k : Nat} {s : St} {L G : List Int} (h : Inv n k s L G) : n ≤ 4096 := by rw [← h.nl]; exact h.ok.n1
theorem Inv.later {n k : Nat} {s : St} {L G : List Int} (h : Inv n k s L G) : Inv n (k + 1) s L G :=
  ⟨h.ok, h.nl, h.mo, h.w0, fun i => by have := h.tg i; omega, h.li, h.go⟩
theorem Inv.len {n k : Nat} {s : St} {L G : List Int} (h : Inv n k s L G) : (L.length : Int) = cnt s.taken ∧ L.length ≤ n := by
  obtain ⟨is, rfl, _, _, hc⟩ := h.li
  have := cnt_le s.taken
  have := h.ok.tl
  have := h.nl
  simp
  omega
theorem Inv.free {n k : Nat} {s : St} {L G : List Int} (h : Inv n k s L G) : (s.given.length : Int) + s.tags.length - s.fresh = n - L.length := by
  have ct := h.ok.ct
  have := h.len.1
  have := h.w0
  have := h.nl
  omega
theorem Inv.full {n k : Nat} {s : St} {L G : List Int} (h : Inv n k s L G) (hn : L.length = n) : s.given = [] ∧ s.fresh = s.tags.length := by
  have ct := h.ok.ct
  have := h.len.1
  have := h.w0
  have := h.nl
  have := h.ok.f1
  exact ⟨List.length_eq_zero_iff.1 (by omega), by omega⟩
theorem Inv.room {n k : Nat} {s : St} {L G : List Int} (h : Inv n k s L G) (hn : L.length < n) : (∃ gs, ∃ i : Nat, s.given = gs ++ [(i : Int)]) ∨ (s.given = [] ∧ ∃ i : Nat, s.fresh = i ∧ i < s.tags.length) := by
  rcases List.eq_nil_or_concat s.given with hg | ⟨gs, g, hg⟩
  · refine .inr ⟨hg, s.fresh.toNat, by have := h.ok.f0; omega, ?_⟩
    have ct := h.ok.ct
    have := h.len.1
    have := h.w0
    have := h.nl
    rw [hg] at ct
    simp at ct
    omega
  · have hg : s.given = gs ++ [g] := by simpa using hg
    have := h.ok.gv g (by rw [hg]; simp)
    exact .inl ⟨gs, g.toNat, by rw [hg]; simp; omega⟩
theorem Inv.gone {n k : Nat} {s : St} {L G : List Int} (h : Inv n k s L G) {g : Int} (hg : g ∈ G) : s.live g = false ∧ 0 ≤ g ∧ g ≤ 18446744073709551615 := by
  obtain ⟨i, t, rfl, t0, hi, ht⟩ := h.go g hg
  have hn := h.n4
  have tb := h.ok.tg i
  have mo := h.mo
  refine ⟨?_, by unfold linkI; omega, by unfold linkI; omega⟩
  cases hl : s.live (linkI i t) with
  | false => rfl
  | true =>
    obtain ⟨j, hj, _, e, _⟩ := (live_iff _ _).1 hl
    rw [h.nl] at hj
    unfold St.link linkI at e
    have : i = j := by omega
    subst this
    omega
theorem Inv.liveAt {n k : Nat} {s : St} {L G : List Int} (h : Inv n k s L G) (j : Nat) (hj : j < L.length) : ∃ i, L.getD j 0 = s.link i ∧ i < s.tags.length ∧ s.tk i = true := by
  obtain ⟨is, rfl, _, hm, _⟩ := h.li
  have hj : j < is.length := by simpa using hj
  have := hm is[j] (List.getElem_mem hj)
  exact ⟨is[j], by simp [List.getD_eq_getElem?_getD, hj], by rw [h.nl]; exact this.1, this.2⟩
theorem link_ne {s : St} {i j : Nat} (hi : i < 4096) (hj : j < 4096) (h : s.link i = s.link j) : i = j := by unfold St.link linkI at h; omega
theorem Inv.take {n k : Nat} {s : St} {L G : List Int} (h : Inv n k s L G) {i : Nat} (hi : i < s.tags.length) (hk : s.tk i = false) (gs : List Int) (fr : Int) (s' : St) (e : { s with taken := s.taken.set i true, given := gs, fresh := fr } = s') (ok' : Ok s') :
    Inv n (k + 1) s' (L ++ [s.link i]) G ∧ (∀ j, j < L.length → (L.getD j 0 == s.link i) = false) ∧ (∀ j, j < G.length → (G.getD j 0 == s.link i) = false) := by
  have hn := h.n4
  have nl := h.nl
  have hit : i < s.taken.length := by rw [h.ok.tl]; exact hi
  have hc := cnt_set s.taken i hit true
  have hk' : s.taken.getD i false = false := hk
  simp only [hk'] at hc
  have tk' : ∀ j, s'.tk j = if j = i then true else s.tk j := fun j => by rw [← e]; exact tk_set true hit j
  have ct' : cnt s'.taken = cnt s.taken + 1 := by rw [← e]; simpa using hc
  have tg' : ∀ j, s'.tag j = s.tag j := fun j => by rw [← e]; rfl
  have ln' : s'.link = s.link := by funext j; unfold St.link; rw [tg']
  have nl' : s'.tags.length = s.tags.length := by rw [← e]
  have mo' : s'.most = s.most := by rw [← e]
  have wo' : s'.worn = s.worn := by rw [← e]
  refine ⟨⟨ok', nl'.trans h.nl, mo'.trans h.mo, wo'.trans h.w0, fun j => by rw [tg']; have := h.tg j; omega, ?_, fun g hg => ?_⟩, fun j hj => ?_, fun j hj => ?_⟩
  · obtain ⟨is, rfl, nd, hm, hl⟩ := h.li
    refine ⟨is ++ [i], by rw [ln']; simp, ?_, ?_, by rw [ct']; simp; omega⟩
    · rw [List.nodup_append]
      refine ⟨nd, by simp, fun a ha b hb => ?_⟩
      simp at hb
      subst hb
      rintro rfl
      have := (hm _ ha).2
      rw [hk] at this
      cases this
    · intro j hj
      rw [tk']
      rcases List.mem_append.1 hj with hj | hj
      · exact ⟨(hm j hj).1, by split; rfl; exact (hm j hj).2⟩
      · simp at hj
        subst hj
        exact ⟨by omega, by simp⟩
  · obtain ⟨a, t, h1, h2, h3, h4⟩ := h.go g hg
    exact ⟨a, t, h1, h2, h3, by rw [tg']; exact h4⟩
  · obtain ⟨a, e1, ha, hta⟩ := h.liveAt j hj
    rw [e1, beq_eq_false_iff_ne]
    intro e2
    have := link_ne (by omega) (by omega) e2
    subst this
    rw [hk] at hta
    cases hta
  · obtain ⟨a, t, h1, h2, h3, h4⟩ := h.go (G.getD j 0) (by rw [List.getD_eq_getElem?_getD, List.getElem?_eq_getElem hj]; exact List.getElem_mem hj)
    rw [h1, beq_eq_false_iff_ne]
    intro e2
    unfold St.link linkI at e2
    have : a = i := by omega
    subst this
    omega
theorem nodup_idx {l : List Nat} (nd : l.Nodup) {a b : Nat} (ha : a < l.length) (hb : b < l.length) (e : l[a] = l[b]) : a = b := by
  rcases Nat.lt_trichotomy a b with h | h | h
  · exact absurd e (List.pairwise_iff_getElem.1 nd a b ha hb h)
  · exact h
  · exact absurd e.symm (List.pairwise_iff_getElem.1 nd b a hb ha h)
theorem Inv.give {n k : Nat} {s : St} {L G : List Int} (h : Inv n k s L G) (hk80 : k ≤ 80) (j : Nat) (hj : j < L.length) :
    ∃ i : Nat, ∃ s', L.getD j 0 = s.link i ∧ i < s.tags.length ∧ s.tk i = true ∧ s.tag i < s.most ∧ { s with taken := s.taken.set i false, tags := s.tags.set i (s.tag i + 1), given := s.given ++ [(i : Int)] } = s' ∧ Inv n (k + 1) s' (L.take j ++ L.drop (j + 1)) (G ++ [L.getD j 0]) := by
  have hn := h.n4
  have nl := h.nl
  obtain ⟨is, hL, nd, hm, hl⟩ := h.li
  have hj' : j < is.length := by rw [hL] at hj; simpa using hj
  obtain ⟨i, ei⟩ : ∃ i, is[j] = i := ⟨_, rfl⟩
  have hi : i < s.tags.length ∧ s.tk i = true := by
    have := hm is[j] (List.getElem_mem hj')
    rw [ei] at this
    exact ⟨by omega, this.2⟩
  have el : L.getD j 0 = s.link i := by rw [hL, ← ei]; simp [List.getD_eq_getElem?_getD, hj']
  have tgi := h.tg i
  have tg0 := (h.ok.tg i).1
  have hlt : s.tag i < s.most := by have := h.mo; omega
  have hit : i < s.taken.length := by rw [h.ok.tl]; exact hi.1
  have ok' := ok_give h.ok hi.1 hi.2 hlt
  have hc := cnt_set s.taken i hit false
  have hk' : s.taken.getD i false = true := hi.2
  simp only [hk'] at hc
  refine ⟨i, _, el, hi.1, hi.2, hlt, rfl, ok', by simpa using h.nl, h.mo, h.w0, fun a => ?_, ?_, fun g hg => ?_⟩
  · show (s.tags.set i (s.tag i + 1)).getD a 0 ≤ ((k + 1 : Nat) : Int)
    rw [tag_set _ hi.1]
    have := h.tg a
    split <;> omega
  · refine ⟨is.eraseIdx j, ?_, nd.sublist (List.eraseIdx_sublist _ _), ?_, ?_⟩
    · rw [hL, ← List.map_take, ← List.map_drop, ← List.map_append, ← List.eraseIdx_eq_take_drop_succ]
      apply List.map_congr_left
      intro a ha
      have hne : a ≠ i := by
        rw [← ei]
        intro e
        rw [List.mem_eraseIdx_iff_getElem] at ha
        obtain ⟨b, hb, hbj, e2⟩ := ha
        exact hbj (nodup_idx nd hb hj' (e2.trans e))
      unfold St.link
      show linkI a (s.tag a) = linkI a ((s.tags.set i (s.tag i + 1)).getD a 0)
      rw [tag_set _ hi.1, if_neg hne]
    · intro a ha
      have hne : a ≠ i := by
        rw [← ei]
        intro e
        rw [List.mem_eraseIdx_iff_getElem] at ha
        obtain ⟨b, hb, hbj, e2⟩ := ha
        exact hbj (nodup_idx nd hb hj' (e2.trans e))
      have := hm a (List.mem_of_mem_eraseIdx ha)
      refine ⟨this.1, ?_⟩
      show (s.taken.set i false).getD a false = true
      rw [tk_set false hit, if_neg hne]
      exact this.2
    · show ((is.eraseIdx j).length : Int) = cnt (s.taken.set i false)
      rw [List.length_eraseIdx, if_pos hj', hc]
      simp
      omega
  · rcases List.mem_append.1 hg with hg | hg
    · obtain ⟨a, t, h1, h2, h3, h4⟩ := h.go g hg
      refine ⟨a, t, h1, h2, h3, ?_⟩
      show t < (s.tags.set i (s.tag i + 1)).getD a 0
      rw [tag_set _ hi.1]
      split
      · rename_i e; subst e; omega
      · exact h4
    · simp at hg
      refine ⟨i, s.tag i, by rw [hg, ← List.getD_eq_getElem?_getD, el]; rfl, tg0, by omega, ?_⟩
      show s.tag i < (s.tags.set i (s.tag i + 1)).getD i 0
      rw [tag_set _ hi.1, if_pos rfl]
      omega
end Go.Proofs.Ytecnlneilgiheaa
