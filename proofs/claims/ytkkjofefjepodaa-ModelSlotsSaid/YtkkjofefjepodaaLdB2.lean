/- Package model as landed, in memory: New, Begin. Condition: times below 2^41. -/
import Derived.Test.YtkkjofefjepodaaLdB
namespace Go.Proofs.Ytkkjofefjepodaa
open Go.ChangeShapes Go.WideShapes Go.ChangeAt Go.RowKit
set_option linter.unusedVariables false
set_option linter.unusedSimpArgs false
section
variable {w w' w2 : World} {m g n c : Nat} {K : Nat → Value} {o : Nat → Nat} {z : LdI} {T : Nat → Prop} {F : Nat → FtI} {P : VeI → Bool} {t : TtI} {fv : Value} {l : List VeI}
theorem begin_arg (s level : Int) (hb : s < 0 ∨ 7 < s ∨ level < 1 ∨ 3 < level) (w : World) : Calls Try.prog 22 #[.pointer (some ⟨m, 0, none⟩), .int .i64 s, .int .i64 level] w fun e w' => e = .returned (.tuple #[.int .i64 0, .int .i64 1]) ∧ w' = w := by
  by_cases hs : s < 0 ∨ 7 < s
  · have S := issession_any s false (by symm; rw [decide_eq_false_iff_not]; omega) w
    clear hb hs
    go_enter Try.func22, Try.ntmps22
    go_wp2_with fail
    refine S.mono ?_
    rintro e w1 ⟨rfl, rfl⟩
    clear S
    go_wp2
    refine bodyPost_ret (v := .tuple #[.int .i64 0, .int .i64 1]) (by simp [results, Try.results22, go_sem]) rfl ?_
    exact ⟨rfl, rfl⟩
  · have S := issession_any s true (by symm; rw [decide_eq_true_iff]; omega) w
    by_cases h1 : level < 1
    · have d1 : decide (level < 1) = true := decide_eq_true h1
      clear hb hs h1
      go_enter Try.func22, Try.ntmps22
      go_wp2_with fail
      refine S.mono ?_
      rintro e w1 ⟨rfl, rfl⟩
      clear S
      go_wp2
      refine bodyPost_ret (v := .tuple #[.int .i64 0, .int .i64 1]) (by simp [results, Try.results22, go_sem]) rfl ?_
      exact ⟨rfl, rfl⟩
    · have d1 : decide (level < 1) = false := decide_eq_false h1
      have d3 : decide (3 < level) = true := by rw [decide_eq_true_iff]; omega
      clear hb hs h1
      go_enter Try.func22, Try.ntmps22
      go_wp2_with fail
      refine S.mono ?_
      rintro e w1 ⟨rfl, rfl⟩
      clear S
      go_wp2
      refine bodyPost_ret (v := .tuple #[.int .i64 0, .int .i64 1]) (by simp [results, Try.results22, go_sem]) rfl ?_
      exact ⟨rfl, rfl⟩
theorem begin_live (h : LdAt w m K o z) (i : Nat) (hi : i < 8) (level : Int) (hl : 1 ≤ level ∧ level ≤ 3) (ht : z.s i = some t) : Calls Try.prog 22 #[.pointer (some ⟨m, 0, none⟩), .int .i64 i, .int .i64 level] w fun e w' => e = .returned (.tuple #[.int .i64 0, .int .i64 9]) ∧ w' = w := by
  have S := issession_any i true (by symm; rw [decide_eq_true_iff]; omega) w; have d1 : decide (level < 1) = false := (by rw [decide_eq_false_iff_not]; omega); have d3 : decide (3 < level) = false := (by rw [decide_eq_false_iff_not]; omega); have cs := h.a.cs i hi; have c3 := h.a.c3; have hi2 : (i : Int) < 8 := (by omega)
  rw [ht] at cs
  dsimp only [Option.map, ptrO] at cs
  have qe := (eql_nilT (w := w) (a := t.b)).2
  clear h hl ht
  go_enter Try.func22, Try.ntmps22; go_wp2_with fail; refine S.mono ?_; rintro e w1 ⟨rfl, rfl⟩; clear S
  go_wp2
  refine bodyPost_ret (v := .tuple #[.int .i64 0, .int .i64 9]) (by simp [results, Try.results22, go_sem]) rfl ?_
  exact ⟨rfl, rfl⟩
theorem begin_many (h : LdAt w m K o z) (i : Nat) (hi : i < 8) (level : Int) (hl : 1 ≤ level ∧ level ≤ 3) (ht : z.s i = none) (hm : z.begun = 2000) : Calls Try.prog 22 #[.pointer (some ⟨m, 0, none⟩), .int .i64 i, .int .i64 level] w fun e w' => e = .returned (.tuple #[.int .i64 0, .int .i64 65]) ∧ w' = w := by
  have S := issession_any i true (by symm; rw [decide_eq_true_iff]; omega) w; have d1 : decide (level < 1) = false := (by rw [decide_eq_false_iff_not]; omega); have d3 : decide (3 < level) = false := (by rw [decide_eq_false_iff_not]; omega); have cs := h.a.cs i hi; have c3 := h.a.c3; have hi2 : (i : Int) < 8 := (by omega)
  rw [ht] at cs
  rw [hm] at c3
  dsimp only [Option.map, ptrO] at cs
  clear h hl ht hm
  go_enter Try.func22, Try.ntmps22; go_wp2_with fail; refine S.mono ?_; rintro e w1 ⟨rfl, rfl⟩; clear S
  go_wp2
  refine bodyPost_ret (v := .tuple #[.int .i64 0, .int .i64 65]) (by simp [results, Try.results22, go_sem]) rfl ?_
  exact ⟨rfl, rfl⟩
theorem begin_late (h : LdAt w m K o z) (i : Nat) (hi : i < 8) (level : Int) (hl : 1 ≤ level ∧ level ≤ 3) (ht : z.s i = none) (hm : z.begun ≠ 2000) (hc : z.limit = z.clock) : Calls Try.prog 22 #[.pointer (some ⟨m, 0, none⟩), .int .i64 i, .int .i64 level] w fun e w' => e = .returned (.tuple #[.int .i64 0, .int .i64 16]) ∧ Keep (fun _ => False) w w' := by
  have S := issession_any i true (by symm; rw [decide_eq_true_iff]; omega) w; have d1 : decide (level < 1) = false := (by rw [decide_eq_false_iff_not]; omega); have d3 : decide (3 < level) = false := (by rw [decide_eq_false_iff_not]; omega); have cs := h.a.cs i hi; have c3 := h.a.c3; have hi2 : (i : Int) < 8 := (by omega)
  have D := draw_no h hc
  rw [ht] at cs
  obtain ⟨bg, ebg⟩ : ∃ bg, z.begun = bg := ⟨_, rfl⟩
  rw [ebg] at c3 hm
  have dm : (bg == 2000) = false := by simpa using hm
  dsimp only [Option.map, ptrO] at cs
  clear h hl ht hm hc ebg
  go_enter Try.func22, Try.ntmps22; go_wp2_with fail; refine S.mono ?_; rintro e w1 ⟨rfl, rfl⟩; clear S
  go_wp2_with fail
  refine D.mono ?_
  rintro e w2 ⟨rfl, k2⟩
  clear D
  go_wp2
  refine bodyPost_ret (v := .tuple #[.int .i64 0, .int .i64 16]) (by simp [results, Try.results22, go_sem]) rfl ?_
  exact ⟨rfl, k2⟩
set_option maxRecDepth 100000 in
set_option maxHeartbeats 2000000 in
theorem begin_ok (h : LdAt w m K o z) (i : Nat) (hi : i < 8) (level : Int) (hl : 1 ≤ level ∧ level ≤ 3) (ht : z.s i = none) (hm : z.begun ≠ 2000) (hb : 0 ≤ z.begun ∧ z.begun ≤ 2000) (hc : z.limit ≠ z.clock) (h0 : 0 ≤ z.clock) (h1 : z.clock ≤ z.limit) (h2 : z.limit ≤ 1099511627776) : Calls Try.prog 22 #[.pointer (some ⟨m, 0, none⟩), .int .i64 i, .int .i64 level] w (BegP w m K o z i level) := by
  have S := issession_any i true (by symm; rw [decide_eq_true_iff]; omega) w; have d1 : decide (level < 1) = false := (by rw [decide_eq_false_iff_not]; omega); have d3 : decide (3 < level) = false := (by rw [decide_eq_false_iff_not]; omega); have cs := h.a.cs i hi; have c3 := h.a.c3; have hi2 : (i : Int) < 8 := (by omega)
  have D := draw_yes h hc h0 h1 h2
  rw [ht] at cs
  have OM := Lib.hid h.om
  obtain ⟨bg, ebg⟩ : ∃ bg, z.begun = bg := ⟨_, rfl⟩
  obtain ⟨cl, ecl⟩ : ∃ cl, z.clock + 1 = cl := ⟨_, rfl⟩
  obtain ⟨b1, eb1⟩ : ∃ b1, bg + 1 = b1 := ⟨_, rfl⟩
  rw [ebg] at c3 hm hb
  rw [ecl] at D
  have dm : (bg == 2000) = false := by simpa using hm
  have wb : IntKind.i64.wrap (bg + 1) = b1 := by rw [← eb1]; exact IntWalk.i64_in _ (by omega)
  have EBG := Lib.hid ebg
  have ECL := Lib.hid ecl
  have EB1 := Lib.hid eb1
  dsimp only [Option.map, ptrO] at cs
  unfold BegP
  rw [ebg, eb1]
  clear h hl ht hm hc ebg ecl eb1 h0 h1 h2 hb
  go_enter Try.func22, Try.ntmps22; go_wp2_with fail; refine S.mono ?_; rintro e w1 ⟨rfl, rfl⟩; clear S
  go_wp2_with fail
  refine D.mono ?_
  rintro e w2 ⟨rfl, a2, k2⟩
  clear D c3 cs
  have f3 := a2.a.fz 3
  have c3 : w2.cell? ⟨m, 3, none⟩ = some (.int .i64 bg) := by rw [← EBG.out]; exact a2.a.c3
  have a3 := a2.begun b1
  obtain ⟨w3, e3⟩ : ∃ w3, w2.setCell ⟨m, 3, none⟩ (.int .i64 b1) = w3 := ⟨_, rfl⟩
  have k3 := keep_one w2 ⟨m, 3, none⟩ (.int .i64 b1)
  rw [e3] at a3 k3
  have K3 : Keep (fun g => o g ≠ 0) w1 w3 := (k2.mono fun g e => by have e : g = m := e; rw [e, OM.out]; decide).trans (k3.mono fun g e => by have e : g = m := e; rw [e, OM.out]; decide)
  have cb : w3.cell? ⟨m, 3, none⟩ = some (.int .i64 b1) := a3.a.c3
  have ad := a3.quiet ((Keep.refl (fun _ => False) w3).drew)
  have N := newTxn_any b1 level cl w3.drew
  have COR := Lib.hid fun (tb tf : Nat) (wx : World) => begin_core (z0 := z) (w0 := w1) (w2 := wx) (tb := tb) (tf := tf) ad hi level (K3.drew) (by rw [EBG.out, EB1.out, ECL.out])
  clear a2 k2 a3 k3 ad K3
  go_wp2_with fail
  refine wp_region_held_drew (S := fun w' => w'.cell? ⟨m, 3, none⟩ = some (.int .i64 b1)) (by kernel_rfl) cb (fun hHeld => ?_)
  refine wpAnyH_take (i := 0) (v := ?qvu48) rfl (by kernel_rfl) (by kernel_rfl) (by kernel_rfl) (fun _ _ _ h => h) (Or.inl ⟨by rfl, ?qyu48⟩) (by assumption) ?qru48; case qyu48 => ((intro w hSw; (try dsimp only at hSw); go_simp); try (with_reducible rfl))
  ((try simp only [List.getElem_toArray]); (try simp only [List.getElem_cons_succ]); (try simp only [List.getElem_cons_zero]); (try simp only [Act.put]); (try simp only [List.setIfInBounds_toArray]); (try simp only [List.set_cons_succ]); (try simp only [List.set_cons_zero]))
  refine wpAnyH_take (i := 1) (v := ?qvu49) rfl (by kernel_rfl) (by kernel_rfl) (by kernel_rfl) (fun _ _ _ h => h) (Or.inl ⟨by rfl, ?qyu49⟩) (by assumption) ?qru49; case qyu49 => ((intro w hSw; (try dsimp only at hSw); go_simp); try (with_reducible rfl))
  ((try simp only [List.getElem_toArray]); (try simp only [List.getElem_cons_succ]); (try simp only [List.getElem_cons_zero]); (try simp only [Act.put]); (try simp only [List.setIfInBounds_toArray]); (try simp only [List.set_cons_succ]); (try simp only [List.set_cons_zero]))
  refine wpAnyH_take (i := 2) (v := ?qvu50) rfl (by kernel_rfl) (by kernel_rfl) (by kernel_rfl) (fun _ _ _ h => h) (Or.inl ⟨by rfl, ?qyu50⟩) (by assumption) ?qru50; case qyu50 => ((intro w hSw; (try dsimp only at hSw); go_simp); try (with_reducible rfl))
  ((try simp only [List.getElem_toArray]); (try simp only [List.getElem_cons_succ]); (try simp only [List.getElem_cons_zero]); (try simp only [Act.put]); (try simp only [List.setIfInBounds_toArray]); (try simp only [List.set_cons_succ]); (try simp only [List.set_cons_zero]))
  refine wpAnyH_take (i := 3) (v := ?qvu51) rfl (by kernel_rfl) (by kernel_rfl) (by kernel_rfl) (fun _ _ _ h => h) (Or.inl ⟨by rfl, ?qyu51⟩) (by assumption) ?qru51; case qyu51 => ((intro w hSw; (try dsimp only at hSw); go_simp); try (with_reducible rfl))
  ((try simp only [List.getElem_toArray]); (try simp only [List.getElem_cons_succ]); (try simp only [List.getElem_cons_zero]); (try simp only [Act.put]); (try simp only [List.setIfInBounds_toArray]); (try simp only [List.set_cons_succ]); (try simp only [List.set_cons_zero]))
  refine wpAnyH_take (i := 4) (v := ?qvu52) rfl (by kernel_rfl) (by kernel_rfl) (by kernel_rfl) (fun _ _ _ h => h) (Or.inl ⟨by rfl, ?qyu52⟩) (by assumption) ?qru52; case qyu52 => ((intro w hSw; (try dsimp only at hSw); go_simp); try (with_reducible rfl))
  ((try simp only [List.getElem_toArray]); (try simp only [List.getElem_cons_succ]); (try simp only [List.getElem_cons_zero]); (try simp only [Act.put]); (try simp only [List.setIfInBounds_toArray]); (try simp only [List.set_cons_succ]); (try simp only [List.set_cons_zero]))
  refine wpAnyH_take (i := 5) (v := ?qvu53) rfl (by kernel_rfl) (by kernel_rfl) (by kernel_rfl) (fun _ _ _ h => h) (Or.inl ⟨by rfl, ?qyu53⟩) (by assumption) ?qru53; case qyu53 => ((intro w hSw; (try dsimp only at hSw); go_simp); try (with_reducible rfl))
  ((try simp only [List.getElem_toArray]); (try simp only [List.getElem_cons_succ]); (try simp only [List.getElem_cons_zero]); (try simp only [Act.put]); (try simp only [List.setIfInBounds_toArray]); (try simp only [List.set_cons_succ]); (try simp only [List.set_cons_zero]))
  refine wpAnyH_take (i := 6) (v := ?qvu54) rfl (by kernel_rfl) (by kernel_rfl) (by kernel_rfl) (fun _ _ _ h => h) (Or.inl ⟨by rfl, ?qyu54⟩) (by assumption) ?qru54; case qyu54 => ((intro w hSw; (try dsimp only at hSw); go_simp); try (with_reducible rfl))
  ((try simp only [List.getElem_toArray]); (try simp only [List.getElem_cons_succ]); (try simp only [List.getElem_cons_zero]); (try simp only [Act.put]); (try simp only [List.setIfInBounds_toArray]); (try simp only [List.set_cons_succ]); (try simp only [List.set_cons_zero]))
  refine wpAnyH_take (i := 7) (v := ?qvu55) rfl (by kernel_rfl) (by kernel_rfl) (by kernel_rfl) (fun _ _ _ h => h) (Or.inl ⟨by rfl, ?qyu55⟩) (by assumption) ?qru55; case qyu55 => ((intro w hSw; (try dsimp only at hSw); go_simp); try (with_reducible rfl))
  ((try simp only [List.getElem_toArray]); (try simp only [List.getElem_cons_succ]); (try simp only [List.getElem_cons_zero]); (try simp only [Act.put]); (try simp only [List.setIfInBounds_toArray]); (try simp only [List.set_cons_succ]); (try simp only [List.set_cons_zero]))
  refine wpAnyH_take (i := 9) (v := ?qvu56) rfl (by kernel_rfl) (by kernel_rfl) (by kernel_rfl) (fun _ _ _ h => h) (Or.inl ⟨by rfl, ?qyu56⟩) (by assumption) ?qru56; case qyu56 => ((intro w hSw; (try dsimp only at hSw); go_simp); try (with_reducible rfl))
  ((try simp only [List.getElem_toArray]); (try simp only [List.getElem_cons_succ]); (try simp only [List.getElem_cons_zero]); (try simp only [Act.put]); (try simp only [List.setIfInBounds_toArray]); (try simp only [List.set_cons_succ]); (try simp only [List.set_cons_zero]))
  refine wpAnyH_take (i := 10) (v := ?qvu57) rfl (by kernel_rfl) (by kernel_rfl) (by kernel_rfl) (fun _ _ _ h => h) (Or.inl ⟨by rfl, ?qyu57⟩) (by assumption) ?qru57; case qyu57 => ((intro w hSw; (try dsimp only at hSw); go_simp); try (with_reducible rfl))
  ((try simp only [List.getElem_toArray]); (try simp only [List.getElem_cons_succ]); (try simp only [List.getElem_cons_zero]); (try simp only [Act.put]); (try simp only [List.setIfInBounds_toArray]); (try simp only [List.set_cons_succ]); (try simp only [List.set_cons_zero]))
  refine wpAnyH_ready (rs := [8]) (by kernel_rfl) (by simp) ?_
  refine AllReadyH.cons rfl (fun K hK => ?_) AllReadyH.nil
  go_simp
  refine N.mono ?_
  rintro e wx ⟨tb, tf, rfl, n1, n2, n3, nT, nF, nk, _, _, _⟩
  obtain ⟨w4, e4, c4o, ⟨us, cs4⟩, fs4, z1, z2, o', a5, k5, n5⟩ := COR.out tb tf wx nk n1 n2 n3 (by rw [EBG.out, EB1.out, ECL.out]; exact nT) nF
  have A5 := Lib.hid a5
  have K5 := Lib.hid k5
  have N5 := Lib.hid n5
  have c4 : w4.cell? ⟨m, 3, none⟩ = some (.int .i64 b1) := (by rw [c4o, EBG.out, EB1.out])
  clear c4o
  have c4x := nk.cell (show w3.drew.cell? ⟨m, 3, none⟩ = some (.int .i64 b1) from cb) id
  clear N nT nF a5 k5 n5
  refine hK.out _ _ c4x (fun hHeld => ?_)
  clear hK K
  ((try simp only [List.getElem_toArray]); (try simp only [List.getElem_cons_succ]); (try simp only [List.getElem_cons_zero]); (try simp only [Act.put]); (try simp only [List.setIfInBounds_toArray]); (try simp only [List.set_cons_succ]); (try simp only [List.set_cons_zero]))
  refine wpAnyH_take (i := 11) (v := ?qvu58) rfl (by kernel_rfl) (by kernel_rfl) (by kernel_rfl) (fun _ _ _ h => h) (Or.inl ⟨by rfl, ?qyu58⟩) (by assumption) ?qru58; case qyu58 => ((intro w hSw; (try dsimp only at hSw); go_simp); try (with_reducible rfl))
  ((try simp only [List.getElem_toArray]); (try simp only [List.getElem_cons_succ]); (try simp only [List.getElem_cons_zero]); (try simp only [Act.put]); (try simp only [List.setIfInBounds_toArray]); (try simp only [List.set_cons_succ]); (try simp only [List.set_cons_zero]))
  refine wpAnyH_ready (rs := [12]) (by kernel_rfl) (by simp) ?_
  refine AllReadyH.cons rfl (fun K hK => ?_) AllReadyH.nil
  go_simp
  go_simp
  refine hK.out _ _ c4 (fun hHeld => ?_)
  clear hK K
  ((try simp only [List.getElem_toArray]); (try simp only [List.getElem_cons_succ]); (try simp only [List.getElem_cons_zero]); (try simp only [Act.put]); (try simp only [List.setIfInBounds_toArray]); (try simp only [List.set_cons_succ]); (try simp only [List.set_cons_zero]))
  refine wpAnyH_done (by kernel_rfl) ?_ _
  go_wp2
  refine bodyPost_ret (v := .tuple #[.int .i64 b1, .int .i64 0]) (by simp [results, Try.results22, go_sem]) rfl ?_
  exact ⟨rfl, tb, tf, o', z1, z2, A5.out, K5.out, N5.out⟩
end
end Go.Proofs.Ytkkjofefjepodaa
