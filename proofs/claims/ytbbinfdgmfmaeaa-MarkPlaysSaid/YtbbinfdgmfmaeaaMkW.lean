/- Package mark as landed, second part: with (the list that has one tally more); condition: at most 10,000 tallies. -/
import Derived.Test.YtbbinfdgmfmaeaaMkC
import Derived.Deep.RegionHeld3
namespace Go.Proofs.Ytbbinfdgmfmaeaa
open Go.ChangeShapes Go.WideShapes Go.ChangeAt Go.RowKit
set_option linter.unusedVariables false
set_option linter.unusedSimpArgs false

section
variable {w w' : World} {v : Value} {ts : List Ta}
theorem take_lies {g n c : Nat} {bs : List Nat} (o : Own ptrV 60 w (.slice (some ⟨g, 0, none⟩) n c) bs) (i : Nat) (hi : i ≤ bs.length) : LiesN w (.slice (some ⟨g, 0, none⟩) i c) (bs.take i) := by
  refine .inr ⟨⟨g, 0, none⟩, c, by rw [List.length_take]; congr 1; omega, fun j b hb => ?_⟩
  rw [List.getElem?_take] at hb
  split at hb
  · obtain ⟨lj, e⟩ := List.getElem?_eq_some_iff.1 hb
    rw [add_plain, Nat.zero_add, o.cell j lj, e]
  · cases hb
theorem drop_lies {g n c : Nat} {bs : List Nat} (o : Own ptrV 60 w (.slice (some ⟨g, 0, none⟩) n c) bs) (i m c' : Nat) {ad : Addr} (hm : (bs.drop i).length = m) (had : (bs.drop i).length ≠ 0 → ad = ⟨g, i, none⟩) : LiesN w (.slice (some ad) m c') (bs.drop i) := by
  refine .inr ⟨ad, c', by rw [hm], fun j b hb => ?_⟩
  have lj := (List.getElem?_eq_some_iff.1 hb).1
  rw [had (by omega), add_plain]
  rw [List.getElem?_drop] at hb
  obtain ⟨lk, e⟩ := List.getElem?_eq_some_iff.1 hb
  rw [o.cell (i + j) lk, e]
theorem parts3 (w3 : World) (v1 v3 : Value) (bs1 bs3 : List Nat) (b : Nat) (h1 : LiesN w3 v1 bs1) (h3 : LiesN w3 v3 bs3) :
    Parts ((w3.alloc (.cells #[ptrV b] 60)).alloc (.cells #[v1, .slice (some ⟨w3.heap.size, 0, none⟩) 1 1, v3] 56)) (w3.heap.size + 1) [(v1, bs1), (.slice (some ⟨w3.heap.size, 0, none⟩) 1 1, [b]), (v3, bs3)] := by
  obtain ⟨w4, e4⟩ : ∃ w4, w3.alloc (.cells #[ptrV b] 60) = w4 := ⟨_, rfl⟩
  have s4 : w4.heap.size = w3.heap.size + 1 := by rw [← e4]; simp
  have c4 : w4.cell? ⟨w3.heap.size, 0, none⟩ = some (ptrV b) := by rw [← e4]; simp
  have k4 : Keep (fun _ => False) w3 w4 := by rw [← e4]; exact (Keep.refl _ _).alloc _
  rw [e4]
  have k5 : Keep (fun _ => False) w4 (w4.alloc (.cells #[v1, .slice (some ⟨w3.heap.size, 0, none⟩) 1 1, v3] 56)) := (Keep.refl _ _).alloc _
  refine ⟨fun j p hp => ?_, fun p hp => ?_⟩
  · rw [← s4]
    match j, hp with
    | 0, hp => simp at hp; subst hp; simp
    | 1, hp => simp at hp; subst hp; simp
    | 2, hp => simp at hp; subst hp; simp
  · simp only [List.mem_cons, List.not_mem_nil, or_false] at hp
    rcases hp with rfl | rfl | rfl
    · exact (h1.same k4).same k5
    · refine .inr ⟨⟨w3.heap.size, 0, none⟩, 1, rfl, fun j x hx => ?_⟩
      match j, hx with
      | 0, hx => simp at hx; subst hx; exact k5.cell c4 id
    · exact (h3.same k4).same k5
theorem ownat_lower {B B' : Nat} {zs : List Nat} (o : OwnAt B' ptrV 60 w v zs) (hB : B ≤ B') : OwnAt B ptrV 60 w v zs := by
  obtain ⟨h1, h2⟩ := o
  refine ⟨h1, ?_⟩
  rcases h2 with h2 | ⟨g, c, cur, hv, hg, r⟩
  · exact .inl h2
  · exact .inr ⟨g, c, cur, hv, Nat.le_trans hB hg, r⟩
/-- What with answers. -/
def WithT (w : World) (ts : List Ta) (t : Int) (e : Ending) (w' : World) : Prop :=
  ∃ v' b L R, e = .returned v' ∧ ts = L ++ R ∧ (∀ x ∈ L, x.t < t) ∧ (∀ x ∈ R, t < x.t) ∧ w.heap.size ≤ b ∧ OwnAt w.heap.size ptrV 60 w' v' ((L ++ ⟨b, t, 1⟩ :: R).map Ta.b) ∧ TaAt w' ⟨b, t, 1⟩ ∧ Keep (fun _ => False) w w'
theorem cat3 {L R : List Ta} {t : Int} (e0 : ts = L ++ R) (hL : ∀ x ∈ L, x.t < t) (hR : ∀ x ∈ R, t < x.t) (hl : ts.length ≤ 10000) {w1 w3 : World} (k1 : Keep (fun _ => False) w w1) (v1 v3 : Value) (b : Nat) (bb : w1.drew.heap.size ≤ b) (ta : TaAt w3 ⟨b, t, 1⟩) (k3 : Keep (fun _ => False) w1.drew w3)
    (h1 : LiesN w1 v1 (L.map Ta.b)) (h3 : LiesN w1 v3 (R.map Ta.b)) :
    Calls Try.prog 36 #[.slice (some ⟨w3.heap.size + 1, 0, none⟩) 3 3] ((w3.alloc (.cells #[ptrV b] 60)).alloc (.cells #[v1, .slice (some ⟨w3.heap.size, 0, none⟩) 1 1, v3] 56)) (WithT w ts t) := by
  have kd : Keep (fun _ => False) w1 w3 := (Keep.refl _ w1).drew.trans k3
  have P := parts3 w3 v1 v3 _ _ b (h1.same kd) (h3.same kd)
  obtain ⟨w5, e5⟩ : ∃ w5, ((w3.alloc (.cells #[ptrV b] 60)).alloc (.cells #[v1, .slice (some ⟨w3.heap.size, 0, none⟩) 1 1, v3] 56)) = w5 := ⟨_, rfl⟩
  have k5 : Keep (fun _ => False) w3 w5 := by rw [← e5]; exact ((Keep.refl _ _).alloc _).alloc _
  rw [e5] at P ⊢
  have ec : catN [(v1, L.map Ta.b), (.slice (some ⟨w3.heap.size, 0, none⟩) 1 1, [b]), (v3, R.map Ta.b)] = (L ++ ⟨b, t, 1⟩ :: R).map Ta.b := by simp [catN]
  refine (concat_any (w3.heap.size + 1) 3 _ P (by simp) (by rw [ec]; rw [e0] at hl; simp at hl ⊢; omega)).mono ?_
  rintro e w6 ⟨v', rfl, o6, k6⟩
  rw [ec] at o6
  exact ⟨v', b, L, R, rfl, e0, hL, hR, Nat.le_trans k1.size bb, ownat_lower o6 (Nat.le_trans (Nat.le_trans k1.size kd.size) k5.size), (ta.keep k5 id).keep k6 id, ((k1.trans kd).trans k5).trans k6⟩
set_option maxRecDepth 100000 in
set_option maxHeartbeats 2000000 in
theorem with_any (o : Own ptrV 60 w v (ts.map Ta.b)) (h : ∀ x ∈ ts, TaAt w x) (hr : RisT ts) (hl : ts.length ≤ 10000) (t : Int) (no : ∀ x ∈ ts, x.t ≠ t) :
    Calls Try.prog 22 #[v, .int .u64 t] w (WithT w ts t) := by
  have hf := findt_any (lies_of o h) hr (by omega) t
  rcases o.form with ⟨rfl, z⟩ | ⟨g, c, rfl, _, hc, hm⟩
  · have z : ts = [] := List.map_eq_nil_iff.1 z
    subst z
    go_enter Try.func22, Try.ntmps22
    go_wp2_with fail
    refine hf.mono ?_
    rintro e w1 ⟨i, b, rfl, ⟨L, R, e1, rfl, hL, hR⟩, k1⟩
    obtain ⟨rfl, rfl⟩ := List.append_eq_nil_iff.1 e1.symm
    obtain rfl : b = false := by
      cases b
      · rfl
      · obtain ⟨x, R', e, _⟩ := hR; cases e
    simp only [List.length_nil]
    have CAT := Lib.hid <| fun b w3 bb ta k3 => cat3 (w := w) (ts := []) (t := t) (L := []) (R := []) rfl (by simp) (by simp) (by simp) (w1 := w1) (w3 := w3) k1 (.slice none 0 0) (.slice none 0 0) b bb ta k3 (.inl ⟨rfl, rfl⟩) (.inl ⟨rfl, rfl⟩)
    clear hf o h hr no hL hR hl e1
    go_wp2_with fail
    refine wp_region_held_drew (S := fun _ => True) (by kernel_rfl) trivial (fun hHeld => ?_)
    refine wpAnyH_take (i := 0) (v := ?qvu0) rfl (by kernel_rfl) (by kernel_rfl) (by kernel_rfl) (fun _ _ _ h => h) (Or.inl ⟨by rfl, ?qyu0⟩) (by assumption) ?qru0; case qyu0 => ((intro w hSw; (try dsimp only at hSw); go_simp); try (with_reducible rfl))
    ((try simp only [List.getElem_toArray]); (try simp only [List.getElem_cons_succ]); (try simp only [List.getElem_cons_zero]); (try simp only [Act.put]); (try simp only [List.setIfInBounds_toArray]); (try simp only [List.set_cons_succ]); (try simp only [List.set_cons_zero]))
    refine wpAnyH_take (i := 1) (v := ?qvu1) rfl (by kernel_rfl) (by kernel_rfl) (by kernel_rfl) (fun _ _ _ h => h) (Or.inl ⟨by rfl, ?qyu1⟩) (by assumption) ?qru1; case qyu1 => ((intro w hSw; (try dsimp only at hSw); go_simp); try (with_reducible rfl))
    ((try simp only [List.getElem_toArray]); (try simp only [List.getElem_cons_succ]); (try simp only [List.getElem_cons_zero]); (try simp only [Act.put]); (try simp only [List.setIfInBounds_toArray]); (try simp only [List.set_cons_succ]); (try simp only [List.set_cons_zero]))
    refine wpAnyH_take (i := 2) (v := ?qvu2) rfl (by kernel_rfl) (by kernel_rfl) (by kernel_rfl) (fun _ _ _ h => h) (Or.inl ⟨by rfl, ?qyu2⟩) (by assumption) ?qru2; case qyu2 => ((intro w hSw; (try dsimp only at hSw); go_simp); try (with_reducible rfl))
    ((try simp only [List.getElem_toArray]); (try simp only [List.getElem_cons_succ]); (try simp only [List.getElem_cons_zero]); (try simp only [Act.put]); (try simp only [List.setIfInBounds_toArray]); (try simp only [List.set_cons_succ]); (try simp only [List.set_cons_zero]))
    refine wpAnyH_take (i := 3) (v := ?qvu3) rfl (by kernel_rfl) (by kernel_rfl) (by kernel_rfl) (fun _ _ _ h => h) (Or.inl ⟨by rfl, ?qyu3⟩) (by assumption) ?qru3; case qyu3 => ((intro w hSw; (try dsimp only at hSw); go_simp); try (with_reducible rfl))
    ((try simp only [List.getElem_toArray]); (try simp only [List.getElem_cons_succ]); (try simp only [List.getElem_cons_zero]); (try simp only [Act.put]); (try simp only [List.setIfInBounds_toArray]); (try simp only [List.set_cons_succ]); (try simp only [List.set_cons_zero]))
    refine wpAnyH_take (i := 6) (v := ?qvu4) rfl (by kernel_rfl) (by kernel_rfl) (by kernel_rfl) (fun _ _ _ h => h) (Or.inl ⟨by rfl, ?qyu4⟩) (by assumption) ?qru4; case qyu4 => ((intro w hSw; (try dsimp only at hSw); go_simp); try (with_reducible rfl))
    ((try simp only [List.getElem_toArray]); (try simp only [List.getElem_cons_succ]); (try simp only [List.getElem_cons_zero]); (try simp only [Act.put]); (try simp only [List.setIfInBounds_toArray]); (try simp only [List.set_cons_succ]); (try simp only [List.set_cons_zero]))
    refine wpAnyH_ready (rs := [4]) (by kernel_rfl) (by simp) ?_
    refine AllReadyH.cons rfl (fun K hK => ?_) AllReadyH.nil
    go_simp
    refine (newt_any t _).mono ?_
    rintro e w3 ⟨b, rfl, bb, ta, k3⟩
    refine hK.out _ _ trivial (fun hHeld => ?_)
    clear hK K
    ((try simp only [List.getElem_toArray]); (try simp only [List.getElem_cons_succ]); (try simp only [List.getElem_cons_zero]); (try simp only [Act.put]); (try simp only [List.setIfInBounds_toArray]); (try simp only [List.set_cons_succ]); (try simp only [List.set_cons_zero]))
    refine wpAnyH_ready (rs := [5]) (by kernel_rfl) (by simp) ?_
    refine AllReadyH.cons rfl (fun K hK => ?_) AllReadyH.nil
    go_simp
    refine hK.out _ _ trivial (fun hHeld => ?_)
    clear hK K
    ((try simp only [List.getElem_toArray]); (try simp only [List.getElem_cons_succ]); (try simp only [List.getElem_cons_zero]); (try simp only [Act.put]); (try simp only [List.setIfInBounds_toArray]); (try simp only [List.set_cons_succ]); (try simp only [List.set_cons_zero]))
    refine wpAnyH_ready (rs := [7]) (by kernel_rfl) (by simp) ?_
    refine AllReadyH.cons rfl (fun K hK => ?_) AllReadyH.nil
    go_simp
    refine hK.out _ _ trivial (fun hHeld => ?_)
    clear hK K
    ((try simp only [List.getElem_toArray]); (try simp only [List.getElem_cons_succ]); (try simp only [List.getElem_cons_zero]); (try simp only [Act.put]); (try simp only [List.setIfInBounds_toArray]); (try simp only [List.set_cons_succ]); (try simp only [List.set_cons_zero]))
    refine wpAnyH_ready (rs := [8]) (by kernel_rfl) (by simp) ?_
    refine AllReadyH.cons rfl (fun K hK => ?_) AllReadyH.nil
    go_simp
    refine (CAT.out b w3 bb ta k3).mono ?_
    rintro e w6 ⟨v', b', L', R', rfl, H6⟩
    refine hK.out _ _ trivial (fun hHeld => ?_)
    clear hK K
    ((try simp only [List.getElem_toArray]); (try simp only [List.getElem_cons_succ]); (try simp only [List.getElem_cons_zero]); (try simp only [Act.put]); (try simp only [List.setIfInBounds_toArray]); (try simp only [List.set_cons_succ]); (try simp only [List.set_cons_zero]))
    refine wpAnyH_take (i := 9) (v := ?qvu5) rfl (by kernel_rfl) (by kernel_rfl) (by kernel_rfl) (fun _ _ _ h => h) (Or.inl ⟨by rfl, ?qyu5⟩) (by assumption) ?qru5; case qyu5 => ((intro w hSw; (try dsimp only at hSw); go_simp); try (with_reducible rfl))
    ((try simp only [List.getElem_toArray]); (try simp only [List.getElem_cons_succ]); (try simp only [List.getElem_cons_zero]); (try simp only [Act.put]); (try simp only [List.setIfInBounds_toArray]); (try simp only [List.set_cons_succ]); (try simp only [List.set_cons_zero]))
    refine wpAnyH_done (by kernel_rfl) ?_ _
    go_wp2
    go_ret
    exact ⟨v', b', L', R', rfl, H6⟩
  · rw [List.length_map] at hc o hf ⊢
    go_enter Try.func22, Try.ntmps22
    go_wp2_with fail
    refine hf.mono ?_
    rintro e w1 ⟨i, b, rfl, ⟨L, R, rfl, rfl, hL, hR⟩, k1⟩
    obtain rfl : b = false := by
      cases b
      · rfl
      · obtain ⟨x, R', rfl, e⟩ := hR; exact absurd e (no x (by simp))
    have hR : ∀ x ∈ R, t < x.t := hR
    rw [List.length_append] at hc
    have c63 : c ≤ 9223372036854775807 := by unfold maxLen at hm; omega
    have o1 : Own ptrV 60 w1 (.slice (some ⟨g, 0, none⟩) (L ++ R).length c) ((L ++ R).map Ta.b) := o.keep k1 (by simp)
    have eL : ((L ++ R).map Ta.b).take L.length = L.map Ta.b := by simp
    have eR : ((L ++ R).map Ta.b).drop L.length = R.map Ta.b := by simp
    have p1 := take_lies o1 L.length (by simp)
    rw [eL] at p1
    have lc : L.length ≤ c := by omega
    by_cases hcl : c = L.length
    · subst hcl
      obtain rfl : R = [] := List.length_eq_zero_iff.1 (by omega)
      have p3 : LiesN w1 (.slice (some ⟨g, 0, none⟩) 0 0) [] := .inr ⟨⟨g, 0, none⟩, 0, rfl, fun j b hb => by simp at hb⟩
      have CAT := Lib.hid <| fun b w3 bb ta k3 => cat3 (w := w) (t := t) rfl hL hR hl (w1 := w1) (w3 := w3) k1 _ _ b bb ta k3 p1 p3
      clear hf o o1 h hr no hL hR hl eL eR p1 p3 hc lc
      rw [List.length_append]
      simp only [List.length_nil, Nat.add_zero]
      obtain ⟨n, en⟩ : ∃ n, L.length = n := ⟨_, rfl⟩
      rw [en] at CAT c63 ⊢
      clear en
      go_wp2_with fail
      refine wp_region_held_drew (S := fun _ => True) (by kernel_rfl) trivial (fun hHeld => ?_)
      refine wpAnyH_take (i := 0) (v := ?qvu6) rfl (by kernel_rfl) (by kernel_rfl) (by kernel_rfl) (fun _ _ _ h => h) (Or.inl ⟨by rfl, ?qyu6⟩) (by assumption) ?qru6; case qyu6 => ((intro w hSw; (try dsimp only at hSw); go_simp); try (with_reducible rfl))
      ((try simp only [List.getElem_toArray]); (try simp only [List.getElem_cons_succ]); (try simp only [List.getElem_cons_zero]); (try simp only [Act.put]); (try simp only [List.setIfInBounds_toArray]); (try simp only [List.set_cons_succ]); (try simp only [List.set_cons_zero]))
      refine wpAnyH_take (i := 1) (v := ?qvu7) rfl (by kernel_rfl) (by kernel_rfl) (by kernel_rfl) (fun _ _ _ h => h) (Or.inl ⟨by rfl, ?qyu7⟩) (by assumption) ?qru7; case qyu7 => ((intro w hSw; (try dsimp only at hSw); go_simp); try (with_reducible rfl))
      ((try simp only [List.getElem_toArray]); (try simp only [List.getElem_cons_succ]); (try simp only [List.getElem_cons_zero]); (try simp only [Act.put]); (try simp only [List.setIfInBounds_toArray]); (try simp only [List.set_cons_succ]); (try simp only [List.set_cons_zero]))
      refine wpAnyH_take (i := 2) (v := ?qvu8) rfl (by kernel_rfl) (by kernel_rfl) (by kernel_rfl) (fun _ _ _ h => h) (Or.inl ⟨by rfl, ?qyu8⟩) (by assumption) ?qru8; case qyu8 => ((intro w hSw; (try dsimp only at hSw); go_simp); try (with_reducible rfl))
      ((try simp only [List.getElem_toArray]); (try simp only [List.getElem_cons_succ]); (try simp only [List.getElem_cons_zero]); (try simp only [Act.put]); (try simp only [List.setIfInBounds_toArray]); (try simp only [List.set_cons_succ]); (try simp only [List.set_cons_zero]))
      refine wpAnyH_take (i := 3) (v := ?qvu9) rfl (by kernel_rfl) (by kernel_rfl) (by kernel_rfl) (fun _ _ _ h => h) (Or.inl ⟨by rfl, ?qyu9⟩) (by assumption) ?qru9; case qyu9 => ((intro w hSw; (try dsimp only at hSw); go_simp); try (with_reducible rfl))
      ((try simp only [List.getElem_toArray]); (try simp only [List.getElem_cons_succ]); (try simp only [List.getElem_cons_zero]); (try simp only [Act.put]); (try simp only [List.setIfInBounds_toArray]); (try simp only [List.set_cons_succ]); (try simp only [List.set_cons_zero]))
      refine wpAnyH_take (i := 6) (v := ?qvu10) rfl (by kernel_rfl) (by kernel_rfl) (by kernel_rfl) (fun _ _ _ h => h) (Or.inl ⟨by rfl, ?qyu10⟩) (by assumption) ?qru10; case qyu10 => ((intro w hSw; (try dsimp only at hSw); go_simp); try (with_reducible rfl))
      ((try simp only [List.getElem_toArray]); (try simp only [List.getElem_cons_succ]); (try simp only [List.getElem_cons_zero]); (try simp only [Act.put]); (try simp only [List.setIfInBounds_toArray]); (try simp only [List.set_cons_succ]); (try simp only [List.set_cons_zero]))
      refine wpAnyH_ready (rs := [4]) (by kernel_rfl) (by simp) ?_
      refine AllReadyH.cons rfl (fun K hK => ?_) AllReadyH.nil
      go_simp
      refine (newt_any t _).mono ?_
      rintro e w3 ⟨b, rfl, bb, ta, k3⟩
      refine hK.out _ _ trivial (fun hHeld => ?_)
      clear hK K
      ((try simp only [List.getElem_toArray]); (try simp only [List.getElem_cons_succ]); (try simp only [List.getElem_cons_zero]); (try simp only [Act.put]); (try simp only [List.setIfInBounds_toArray]); (try simp only [List.set_cons_succ]); (try simp only [List.set_cons_zero]))
      refine wpAnyH_ready (rs := [5]) (by kernel_rfl) (by simp) ?_
      refine AllReadyH.cons rfl (fun K hK => ?_) AllReadyH.nil
      go_simp
      refine hK.out _ _ trivial (fun hHeld => ?_)
      clear hK K
      ((try simp only [List.getElem_toArray]); (try simp only [List.getElem_cons_succ]); (try simp only [List.getElem_cons_zero]); (try simp only [Act.put]); (try simp only [List.setIfInBounds_toArray]); (try simp only [List.set_cons_succ]); (try simp only [List.set_cons_zero]))
      refine wpAnyH_ready (rs := [7]) (by kernel_rfl) (by simp) ?_
      refine AllReadyH.cons rfl (fun K hK => ?_) AllReadyH.nil
      go_simp
      refine hK.out _ _ trivial (fun hHeld => ?_)
      clear hK K
      ((try simp only [List.getElem_toArray]); (try simp only [List.getElem_cons_succ]); (try simp only [List.getElem_cons_zero]); (try simp only [Act.put]); (try simp only [List.setIfInBounds_toArray]); (try simp only [List.set_cons_succ]); (try simp only [List.set_cons_zero]))
      refine wpAnyH_ready (rs := [8]) (by kernel_rfl) (by simp) ?_
      refine AllReadyH.cons rfl (fun K hK => ?_) AllReadyH.nil
      go_simp
      refine (CAT.out b w3 bb ta k3).mono ?_
      rintro e w6 ⟨v', b', L', R', rfl, H6⟩
      refine hK.out _ _ trivial (fun hHeld => ?_)
      clear hK K
      ((try simp only [List.getElem_toArray]); (try simp only [List.getElem_cons_succ]); (try simp only [List.getElem_cons_zero]); (try simp only [Act.put]); (try simp only [List.setIfInBounds_toArray]); (try simp only [List.set_cons_succ]); (try simp only [List.set_cons_zero]))
      refine wpAnyH_take (i := 9) (v := ?qvu11) rfl (by kernel_rfl) (by kernel_rfl) (by kernel_rfl) (fun _ _ _ h => h) (Or.inl ⟨by rfl, ?qyu11⟩) (by assumption) ?qru11; case qyu11 => ((intro w hSw; (try dsimp only at hSw); go_simp); try (with_reducible rfl))
      ((try simp only [List.getElem_toArray]); (try simp only [List.getElem_cons_succ]); (try simp only [List.getElem_cons_zero]); (try simp only [Act.put]); (try simp only [List.setIfInBounds_toArray]); (try simp only [List.set_cons_succ]); (try simp only [List.set_cons_zero]))
      refine wpAnyH_done (by kernel_rfl) ?_ _
      go_wp2
      go_ret
      exact ⟨v', b', L', R', rfl, H6⟩
    · have p3 := drop_lies o1 L.length R.length (c - L.length) (ad := ⟨g, L.length, none⟩) (by rw [eR]; simp) (fun _ => rfl)
      rw [eR] at p3
      have CAT := Lib.hid <| fun b w3 bb ta k3 => cat3 (w := w) (t := t) rfl hL hR hl (w1 := w1) (w3 := w3) k1 _ _ b bb ta k3 p1 p3
      clear hf o o1 h hr no hL hR hl eL eR p1 p3
      rw [List.length_append]
      go_wp2_with fail
      refine wp_region_held_drew (S := fun _ => True) (by kernel_rfl) trivial (fun hHeld => ?_)
      refine wpAnyH_take (i := 0) (v := ?qvu12) rfl (by kernel_rfl) (by kernel_rfl) (by kernel_rfl) (fun _ _ _ h => h) (Or.inl ⟨by rfl, ?qyu12⟩) (by assumption) ?qru12; case qyu12 => ((intro w hSw; (try dsimp only at hSw); go_simp); try (with_reducible rfl))
      ((try simp only [List.getElem_toArray]); (try simp only [List.getElem_cons_succ]); (try simp only [List.getElem_cons_zero]); (try simp only [Act.put]); (try simp only [List.setIfInBounds_toArray]); (try simp only [List.set_cons_succ]); (try simp only [List.set_cons_zero]))
      refine wpAnyH_take (i := 1) (v := ?qvu13) rfl (by kernel_rfl) (by kernel_rfl) (by kernel_rfl) (fun _ _ _ h => h) (Or.inl ⟨by rfl, ?qyu13⟩) (by assumption) ?qru13; case qyu13 => ((intro w hSw; (try dsimp only at hSw); go_simp); try (with_reducible rfl))
      ((try simp only [List.getElem_toArray]); (try simp only [List.getElem_cons_succ]); (try simp only [List.getElem_cons_zero]); (try simp only [Act.put]); (try simp only [List.setIfInBounds_toArray]); (try simp only [List.set_cons_succ]); (try simp only [List.set_cons_zero]))
      refine wpAnyH_take (i := 2) (v := ?qvu14) rfl (by kernel_rfl) (by kernel_rfl) (by kernel_rfl) (fun _ _ _ h => h) (Or.inl ⟨by rfl, ?qyu14⟩) (by assumption) ?qru14; case qyu14 => ((intro w hSw; (try dsimp only at hSw); go_simp); try (with_reducible rfl))
      ((try simp only [List.getElem_toArray]); (try simp only [List.getElem_cons_succ]); (try simp only [List.getElem_cons_zero]); (try simp only [Act.put]); (try simp only [List.setIfInBounds_toArray]); (try simp only [List.set_cons_succ]); (try simp only [List.set_cons_zero]))
      refine wpAnyH_take (i := 3) (v := ?qvu15) rfl (by kernel_rfl) (by kernel_rfl) (by kernel_rfl) (fun _ _ _ h => h) (Or.inl ⟨by rfl, ?qyu15⟩) (by assumption) ?qru15; case qyu15 => ((intro w hSw; (try dsimp only at hSw); go_simp); try (with_reducible rfl))
      ((try simp only [List.getElem_toArray]); (try simp only [List.getElem_cons_succ]); (try simp only [List.getElem_cons_zero]); (try simp only [Act.put]); (try simp only [List.setIfInBounds_toArray]); (try simp only [List.set_cons_succ]); (try simp only [List.set_cons_zero]))
      refine wpAnyH_take (i := 6) (v := ?qvu16) rfl (by kernel_rfl) (by kernel_rfl) (by kernel_rfl) (fun _ _ _ h => h) (Or.inl ⟨by rfl, ?qyu16⟩) (by assumption) ?qru16; case qyu16 => ((intro w hSw; (try dsimp only at hSw); go_simp); try (with_reducible rfl))
      ((try simp only [List.getElem_toArray]); (try simp only [List.getElem_cons_succ]); (try simp only [List.getElem_cons_zero]); (try simp only [Act.put]); (try simp only [List.setIfInBounds_toArray]); (try simp only [List.set_cons_succ]); (try simp only [List.set_cons_zero]))
      refine wpAnyH_ready (rs := [4]) (by kernel_rfl) (by simp) ?_
      refine AllReadyH.cons rfl (fun K hK => ?_) AllReadyH.nil
      go_simp
      refine (newt_any t _).mono ?_
      rintro e w3 ⟨b, rfl, bb, ta, k3⟩
      refine hK.out _ _ trivial (fun hHeld => ?_)
      clear hK K
      ((try simp only [List.getElem_toArray]); (try simp only [List.getElem_cons_succ]); (try simp only [List.getElem_cons_zero]); (try simp only [Act.put]); (try simp only [List.setIfInBounds_toArray]); (try simp only [List.set_cons_succ]); (try simp only [List.set_cons_zero]))
      refine wpAnyH_ready (rs := [5]) (by kernel_rfl) (by simp) ?_
      refine AllReadyH.cons rfl (fun K hK => ?_) AllReadyH.nil
      go_simp
      refine hK.out _ _ trivial (fun hHeld => ?_)
      clear hK K
      ((try simp only [List.getElem_toArray]); (try simp only [List.getElem_cons_succ]); (try simp only [List.getElem_cons_zero]); (try simp only [Act.put]); (try simp only [List.setIfInBounds_toArray]); (try simp only [List.set_cons_succ]); (try simp only [List.set_cons_zero]))
      refine wpAnyH_ready (rs := [7]) (by kernel_rfl) (by simp) ?_
      refine AllReadyH.cons rfl (fun K hK => ?_) AllReadyH.nil
      go_simp
      refine hK.out _ _ trivial (fun hHeld => ?_)
      clear hK K
      ((try simp only [List.getElem_toArray]); (try simp only [List.getElem_cons_succ]); (try simp only [List.getElem_cons_zero]); (try simp only [Act.put]); (try simp only [List.setIfInBounds_toArray]); (try simp only [List.set_cons_succ]); (try simp only [List.set_cons_zero]))
      refine wpAnyH_ready (rs := [8]) (by kernel_rfl) (by simp) ?_
      refine AllReadyH.cons rfl (fun K hK => ?_) AllReadyH.nil
      go_simp
      refine (CAT.out b w3 bb ta k3).mono ?_
      rintro e w6 ⟨v', b', L', R', rfl, H6⟩
      refine hK.out _ _ trivial (fun hHeld => ?_)
      clear hK K
      ((try simp only [List.getElem_toArray]); (try simp only [List.getElem_cons_succ]); (try simp only [List.getElem_cons_zero]); (try simp only [Act.put]); (try simp only [List.setIfInBounds_toArray]); (try simp only [List.set_cons_succ]); (try simp only [List.set_cons_zero]))
      refine wpAnyH_take (i := 9) (v := ?qvu17) rfl (by kernel_rfl) (by kernel_rfl) (by kernel_rfl) (fun _ _ _ h => h) (Or.inl ⟨by rfl, ?qyu17⟩) (by assumption) ?qru17; case qyu17 => ((intro w hSw; (try dsimp only at hSw); go_simp); try (with_reducible rfl))
      ((try simp only [List.getElem_toArray]); (try simp only [List.getElem_cons_succ]); (try simp only [List.getElem_cons_zero]); (try simp only [Act.put]); (try simp only [List.setIfInBounds_toArray]); (try simp only [List.set_cons_succ]); (try simp only [List.set_cons_zero]))
      refine wpAnyH_done (by kernel_rfl) ?_ _
      go_wp2
      go_ret
      exact ⟨v', b', L', R', rfl, H6⟩
end
end Go.Proofs.Ytbbinfdgmfmaeaa
