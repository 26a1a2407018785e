/- Package tale: a transaction more, a bond more: what is left in memory. No condition. -/
import Derived.Test.YtalkfnblnlcklaaDoorTlF
namespace Go.Proofs.YtalkfnblnlcklaaDoor
open Go.ChangeShapes Go.WideShapes Go.ChangeAt Go.RowKit
set_option linter.unusedVariables false
set_option linter.unusedSimpArgs false
section
variable {w w' w1 y : World} {h K i b nb : Nat} {o o' : Nat → Nat} {B : List Nat} {va u : Value} {z : HsI} {t : TnI} {S X : Nat → Prop}
theorem TnIn.more (q : TnIn w o B i b t u) (nb : Nat) : TnIn w o (B ++ [nb]) i b t u := by
  refine ⟨q.ce, ?_, q.ob, q.ou, fun j hj => by rw [List.length_append]; exact Nat.lt_of_lt_of_le (q.lt j hj) (Nat.le_add_right _ _)⟩
  have : (t.bonds.map fun j => (B ++ [nb]).getD j 0) = t.bonds.map fun j => B.getD j 0 := List.map_congr_left fun j hj => by
    rw [List.getD_eq_getElem?_getD, List.getD_eq_getElem?_getD, List.getElem?_append_left (q.lt j hj)]
  rw [this]
  exact q.bo
/-- A transaction is begun: behind the append its row is stored. -/
theorem HsAt.push (H : HsAt w h o B va K z) (k1 : Keep (fun _ => False) w w1) (hn1 : nb < w1.heap.size) (hn : w.heap.size ≤ nb) (T : TnAt w1 nb t (.slice none 0 0)) (tb : t.bonds = [])
    {g c : Nat} (ho : OwnT y (.slice (some ⟨g, 0, none⟩) (B.length + 1) c) (B ++ [nb])) (k2 : Keep (fun j => va.ownBlock = some j) w1 y) (hg : va.ownBlock = some g ∨ w1.heap.size ≤ g) :
    (∃ u, y.cell? ⟨h, 0, none⟩ = some u) ∧ y.frozen? ⟨h, 0, none⟩ = false ∧ HsTo w h o (K + 1) ⟨z.tx ++ [t], z.last⟩ (y.setCell ⟨h, 0, none⟩ (.slice (some ⟨g, 0, none⟩) (B.length + 1) c)) := by
  have H1 := H.quiet k1
  have o0 : o nb = 0 := Decidable.byContradiction fun c => by have := H.fr nb c; omega
  have nv : ∀ g, va.ownBlock = some g → o g = 2 := H.oa
  have nh : ¬ va.ownBlock = some h := fun e => by have := nv h e; rw [H.oh] at this; omega
  have hh := H1.fr h (by rw [H.oh]; decide)
  have kh := keep_one y ⟨h, 0, none⟩ (.slice (some ⟨g, 0, none⟩) (B.length + 1) c)
  have gh : g ≠ h := fun e => by
    rcases hg with r | r
    · exact nh (e ▸ r)
    · omega
  have gn : g ≠ nb := fun e => by
    rcases hg with r | r
    · have := nv g r; rw [e, o0] at this; omega
    · omega
  have nbh : nb ≠ h := fun e => by rw [e, H.oh] at o0; omega
  have old : ∀ j, o j ≠ 0 → o j ≠ 2 → (if j = nb then 3 + 2 * B.length else if j = g then 2 else o j) = o j := fun j h0 h2 => by
    have e1 : j ≠ nb := fun e => h0 (by rw [e]; exact o0)
    have e2 : j ≠ g := fun e => by
      rcases hg with r | r
      · exact h2 (by rw [e]; exact nv g r)
      · have := H1.fr j h0; omega
    rw [if_neg e1, if_neg e2]
  have ll := H.len
  refine ⟨⟨va, k2.cell H1.c0 nh⟩, (k2.frozen (a := ⟨h, 0, none⟩) hh nh).trans (H1.fz 0), fun j => if j = nb then 3 + 2 * B.length else if j = g then 2 else o j, B ++ [nb], .slice (some ⟨g, 0, none⟩) (B.length + 1) c, ?_, ?_, fun j hj => ?_⟩
  · refine ⟨World.cell?_setCell_same _ _ _ (k2.cell H1.c0 nh), (World.cell?_setCell_other _ _ _ _ (by simp)).trans (k2.cell H1.c1 nh), fun j => by rw [World.frozen?_setCell]; exact (k2.frozen (a := ⟨h, j, none⟩) hh nh).trans (H1.fz j), OwnM.keep ho kh (fun j hj e => by cases hj; exact gh e), by simp [ll], fun i b hb => ?_, ?_, fun j hj => ?_, fun j hj => ?_, ?_⟩
    · rw [List.getElem?_append] at hb
      split at hb
      · next hi =>
        obtain ⟨u, q⟩ := H1.tx i b hb
        have e : (⟨z.tx ++ [t], z.last⟩ : HsI).at' i = z.at' i := by
          show (z.tx ++ [t]).getD i _ = z.tx.getD i _
          rw [List.getD_eq_getElem?_getD, List.getD_eq_getElem?_getD, List.getElem?_append_left (by omega)]
        rw [e]
        exact ⟨u, (((q.more nb).keep k2 fun j hj e => by have := nv j e; omega).keep kh fun j hj e => by have e : j = h := e; rw [e, H.oh] at hj; omega).relab fun j hj => old j (by omega) (by omega)⟩
      · next hi =>
        have e1 : i = B.length := by
          have := (List.getElem?_eq_some_iff.1 hb).1
          simp at this
          omega
        subst e1
        have e2 : b = nb := by simpa using hb.symm
        subst e2
        have e : (⟨z.tx ++ [t], z.last⟩ : HsI).at' B.length = t := by
          show (z.tx ++ [t]).getD B.length _ = t
          rw [List.getD_eq_getElem?_getD, ll, List.getElem?_append_right (Nat.le_refl _), Nat.sub_self]
          rfl
        rw [e]
        refine ⟨.slice none 0 0, (T.keep k2 fun e => by have := nv b e; omega).keep kh (fun e => nbh e), by rw [tb]; exact OwnM.nil, if_pos rfl, (fun g hg => by cases hg), by rw [tb]; exact (fun j hj => by cases hj)⟩
    · show (if h = nb then _ else if h = g then 2 else o h) = 1
      rw [if_neg (fun e => nbh e.symm), if_neg (fun e => gh e.symm)]; exact H.oh
    · cases hj
      show (if g = nb then _ else if g = g then 2 else o g) = 2
      rw [if_neg gn, if_pos rfl]
    · have hj : (if j = nb then 3 + 2 * B.length else if j = g then 2 else o j) ≠ 0 := hj
      have sz := Nat.le_trans k2.size kh.size
      by_cases e1 : j = nb
      · omega
      · rw [if_neg e1] at hj
        by_cases e2 : j = g
        · rw [e2]; exact Nat.lt_of_lt_of_le (OwnM.lt ho rfl) kh.size
        · rw [if_neg e2] at hj
          have := H1.fr j hj
          omega
    · refine ⟨?_, fun x hx => ?_⟩
      · show (z.tx ++ [t]).length ≤ K + 1
        have := H.nb.1
        simp; omega
      · rcases List.mem_append.1 hx with q | q
        · exact Nat.le_succ_of_le (H.nb.2 x q)
        · rw [List.mem_singleton.1 q, tb]; exact Nat.zero_le _
  · refine (k1.mono fun _ e => e.elim).trans ((k2.mono fun j e => ?_).trans (kh.mono fun j e => ?_))
    · rw [nv j e]; decide
    · have e : j = h := e
      rw [e, H.oh]; decide
  · have hj : (if j = nb then 3 + 2 * B.length else if j = g then 2 else o j) ≠ 0 := hj
    by_cases e1 : j = nb
    · exact .inr (by omega)
    · rw [if_neg e1] at hj
      by_cases e2 : j = g
      · rcases hg with r | r
        · exact .inl (by rw [e2, nv g r]; decide)
        · exact .inr (by have := k1.size; omega)
      · rw [if_neg e2] at hj
        exact .inl hj
/-- A bond more: behind the append it is stored. -/
theorem HsAt.bond (H : HsAt w h o B va K z) (hb : B[i]? = some b) {j0 : Nat} (hj0 : j0 < B.length) (q : TnIn w o B i b (z.at' i) u)
    {g c n : Nat} (hn : n = (z.at' i).bonds.length) (ho : OwnT y (.slice (some ⟨g, 0, none⟩) (n + 1) c) (((z.at' i).bonds.map fun j => B.getD j 0) ++ [B.getD j0 0])) (k2 : Keep (fun j => u.ownBlock = some j) w y) (hg : u.ownBlock = some g ∨ w.heap.size ≤ g) :
    (∃ u, y.cell? ⟨b, 3, none⟩ = some u) ∧ y.frozen? ⟨b, 3, none⟩ = false ∧ HsTo w h o (K + 1) (z.put i { z.at' i with bonds := (z.at' i).bonds ++ [j0] }) (y.setCell ⟨b, 3, none⟩ (.slice (some ⟨g, 0, none⟩) (n + 1) c)) := by
  have hi := tn_lt H hb
  have nu : ∀ g, u.ownBlock = some g → o g = 4 + 2 * i := q.ou
  have nb' : ¬ u.ownBlock = some b := fun e => by have := nu b e; rw [q.ob] at this; omega
  have lb := H.fr b (by rw [q.ob]; omega)
  have kb := keep_one y ⟨b, 3, none⟩ (.slice (some ⟨g, 0, none⟩) (n + 1) c)
  have gb : g ≠ b := fun e => by
    rcases hg with r | r
    · exact nb' (e ▸ r)
    · omega
  have og : ∀ j, o j ≠ 0 → o j ≠ 4 + 2 * i → j ≠ g := fun j h0 h2 e => by
    rcases hg with r | r
    · exact h2 (e ▸ nu g r)
    · have := H.fr j h0; omega
  have old : ∀ j, o j ≠ 0 → o j ≠ 4 + 2 * i → (if j = g then 4 + 2 * i else o j) = o j := fun j h0 h2 => if_neg (og j h0 h2)
  have ce := q.ce
  have no2 : ∀ j, o j ≠ 4 + 2 * i → ¬ u.ownBlock = some j := fun j hj e => hj (nu j e)
  have nob : ∀ j, o j ≠ 3 + 2 * i → ¬ j = b := fun j hj e => hj (by rw [e]; exact q.ob)
  obtain ⟨vv, evv⟩ : ∃ vv : Value, .slice (some ⟨g, 0, none⟩) (n + 1) c = vv := ⟨_, rfl⟩
  have vo : ∀ j, vv.ownBlock = some j → j = g := fun j hj => by rw [← evv] at hj; cases hj; rfl
  rw [evv] at ho kb ⊢
  have yk : ∀ (j : Nat) v, j ≠ 3 → w.cell? ⟨b, j, none⟩ = some v → (y.setCell ⟨b, 3, none⟩ vv).cell? ⟨b, j, none⟩ = some v := fun j v hj hv => (World.cell?_setCell_other _ _ _ _ (fun e => hj (congrArg Addr.off e).symm)).trans (k2.cell hv nb')
  have hh := H.fr h (by rw [H.oh]; decide)
  have n1 : ∀ j, o j = 1 ∨ o j = 2 → ¬ u.ownBlock = some j ∧ ¬ j = b := fun j hj => ⟨no2 j (by omega), nob j (by omega)⟩
  refine ⟨⟨u, k2.cell ce.c3 nb'⟩, (k2.frozen (a := ⟨b, 3, none⟩) lb nb').trans (ce.fz 3), fun j => if j = g then 4 + 2 * i else o j, B, va, ?_, ?_, fun j hj => ?_⟩
  · have oh1 := n1 h (.inl H.oh)
    refine ⟨kb.cell (k2.cell H.c0 oh1.1) oh1.2, kb.cell (k2.cell H.c1 oh1.1) oh1.2, fun j => ((kb.frozen (a := ⟨h, j, none⟩) (Nat.lt_of_lt_of_le hh k2.size) oh1.2).trans (k2.frozen (a := ⟨h, j, none⟩) hh oh1.1)).trans (H.fz j), OwnM.keep (OwnM.keep H.ow k2 fun g hg => (n1 g (.inr (H.oa g hg))).1) kb (fun g hg => (n1 g (.inr (H.oa g hg))).2), by rw [H.len, put_len], fun j b' hj => ?_, (old h (by rw [H.oh]; decide) (by rw [H.oh]; omega)).trans H.oh, fun g' hg' => (old g' (by rw [H.oa g' hg']; decide) (by rw [H.oa g' hg']; omega)).trans (H.oa g' hg'), fun j hj => ?_, ?_⟩
    · rw [put_at hi]
      by_cases e : j = i
      · subst e
        rw [if_pos rfl]
        rw [hb] at hj
        cases hj
        refine ⟨vv, ⟨yk 0 _ (by decide) ce.c0, yk 1 _ (by decide) ce.c1, yk 2 _ (by decide) ce.c2, World.cell?_setCell_same _ _ _ (k2.cell ce.c3 nb'), yk 4 _ (by decide) ce.c4, yk 5 _ (by decide) ce.c5, yk 7 _ (by decide) ce.c7, fun j => by rw [World.frozen?_setCell]; exact (k2.frozen (a := ⟨b, j, none⟩) lb nb').trans (ce.fz j)⟩, ?_, (old b (by rw [q.ob]; omega) (by rw [q.ob]; omega)).trans q.ob, fun g' hg' => by rw [vo g' hg', if_pos rfl], fun j hj => ?_⟩
        · show OwnT _ vv (((z.at' j).bonds ++ [j0]).map fun j => B.getD j 0)
          rw [List.map_append]
          exact OwnM.keep ho kb (fun g' hg' e => gb ((vo g' hg').symm.trans e))
        · rcases List.mem_append.1 hj with r | r
          · exact q.lt j r
          · rw [List.mem_singleton.1 r]; exact hj0
      · rw [if_neg e]
        obtain ⟨u', q'⟩ := H.tx j b' hj
        exact ⟨u', ((q'.keep k2 fun g hg => no2 g (by omega)).keep kb fun g hg => nob g (by omega)).relab fun g hg => old g (by omega) (by omega)⟩
    · have hj : (if j = g then 4 + 2 * i else o j) ≠ 0 := hj
      have sz := Nat.le_trans k2.size kb.size
      by_cases e2 : j = g
      · rw [e2]; exact Nat.lt_of_lt_of_le (OwnM.lt ho (by rw [← evv]; rfl)) kb.size
      · rw [if_neg e2] at hj
        have := H.fr j hj
        omega
    · refine ⟨by rw [put_len]; exact Nat.le_succ_of_le H.nb.1, fun x hx => ?_⟩
      rcases List.mem_or_eq_of_mem_set hx with r | r
      · exact Nat.le_succ_of_le (H.nb.2 x r)
      · rw [r]
        have := H.nb.2 _ (List.mem_of_getElem? (at_lt hi))
        simp
        omega
  · refine (k2.mono fun j e => ?_).trans (kb.mono fun j e => ?_)
    · rw [nu j e]; omega
    · have e : j = b := e
      rw [e, q.ob]; omega
  · have hj : (if j = g then 4 + 2 * i else o j) ≠ 0 := hj
    by_cases e2 : j = g
    · rcases hg with r | r
      · exact .inl (by rw [e2, nu g r]; omega)
      · exact .inr (by omega)
    · rw [if_neg e2] at hj
      exact .inl hj
end
end Go.Proofs.YtalkfnblnlcklaaDoor
