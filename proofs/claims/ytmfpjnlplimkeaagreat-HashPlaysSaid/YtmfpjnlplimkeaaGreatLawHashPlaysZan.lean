/- Package hash, sixth part: Drop of an Index in memory. -/
import Derived.Test.YtmfpjnlplimkeaaGreatLawHashPlaysZam
namespace Go.Proofs.YtmfpjnlplimkeaaGreat
open Go.ChangeShapes Go.WideShapes Go.ChangeAt Go.RowKit
set_option linter.unusedVariables false

theorem HOk.more {s : RS} {h : HS} (a : HOk s h) (n : Nat) : HOk (s.more n) h := ⟨fun k l e => (a.ln k l e).more n, a.dj, a.pt, a.lt, a.nd⟩
theorem HS.set_same {h : HS} {key : Nat} {l : List Int} (hl : h.ch key = some l) : h.set key l = h := by
  cases h with
  | mk ch put =>
    unfold HS.set
    congr 1
    funext k
    by_cases e : k = key
    · subst e; rw [if_pos rfl]; exact hl.symm
    · rw [if_neg e]
section
variable {w w' : World} {x p n : Nat} {s s' : RS} {h h' : HS} {mk : Option Nat} {vs : Nat → Value} {qf pf af o : Nat → Nat} {C C' : Int} {T : Nat → Prop}
/-- A Chain's Len, an Index around it. -/
theorem Hx.len (a : Hx w x p n s h mk vs qf pf af o C) {key : Nat} {l : List Int} (hl : h.ch key = some l) (h64 : l.length ≤ 100) (hC : C ≤ 2305843009213693952) (hc : s.c ≤ 1152921504606846976) :
    Calls Tryz.prog 14 #[.pointer (some ⟨qf key, 0, none⟩)] w fun e w' => e = .returned (.int .i64 (l.length : Int)) ∧ Hx w' x p n (s.more (l.length + 1)) h mk vs qf pf af (relab o w.heap.size 1) (C + 1) ∧ Keep (fun g => o g ≠ 0) w w' := by
  obtain ⟨SV, g, hs⟩ := a.cg hl
  have c := a.ch key l hl
  refine (clen g (by omega) (by omega) (a.hk.ln key l hl) (by omega) rfl).mono ?_
  rintro e w1 ⟨S1, rfl, g1, t1⟩
  have a1 := a.chain hl hs g1 t1 rfl (by omega) (by rw [HS.set_same hl]; exact a.hk.more _)
  rw [HS.set_same hl] at a1
  refine ⟨rfl, a1, t1.k.mono (fun j e => ?_)⟩
  rcases e with e | e | e
  · have := hs j e; omega
  · have := c.l1; rw [e]; omega
  · have := c.l2; rw [e]; omega
theorem drop_out (a : Hx w x p n s h mk vs qf pf af o C) (key : Int) (hk : key < 0 ∨ 63 < key ∨ key.toNat ∉ h.put) :
    Calls Tryz.prog 10 #[.pointer (some ⟨x, 0, none⟩), .int .i64 key] w fun e w' => e = .returned (.bool false) ∧ (Keep (fun _ => False) w w' ∨ Seen x p n s h vs qf pf af o C w w') := by
  by_cases hb : key < 0 ∨ 63 < key
  · have hl := look_no a.ix key hb
    go_enter Tryz.func10, Tryz.ntmps10
    go_wp2_with fail
    refine hl.mono ?_
    rintro e w1 ⟨rfl, k1⟩
    clear hl
    go_wp2
    go_ret
    exact ⟨rfl, .inl k1⟩
  · obtain ⟨key, rfl⟩ : ∃ k : Nat, key = k := ⟨key.toNat, by omega⟩
    have hk2 : key ∉ h.put := by rcases hk with e | e | e; omega; omega; simpa using e
    obtain ⟨b, eb, bn⟩ := a.bkt key (by omega)
    have hl := a.lookit key b (by omega) eb
    rw [place_out hk2] at hl
    go_enter Tryz.func10, Tryz.ntmps10
    go_wp2_with fail
    refine hl.mono ?_
    rintro e w1 ⟨B, rfl, L⟩
    have H : Seen x p n s h vs qf pf af o C w w1 := ⟨B, a.looked L, L.2.2.1⟩
    have H := Lib.hid H
    clear L hl eb
    go_wp2
    go_ret
    exact ⟨rfl, .inr H.out⟩
set_option maxRecDepth 100000 in
theorem drop_full (a : Hx w x p n s h mk vs qf pf af o C) (key : Nat) (y : Int) (l : List Int) (hk : h.ch key = some (y :: l)) (h64 : (y :: l).length ≤ 100) (hC : C ≤ 2305843009213693952) (hc : s.c ≤ 1152921504606846976) :
    Calls Tryz.prog 10 #[.pointer (some ⟨x, 0, none⟩), .int .i64 key] w fun e w' => e = .returned (.bool false) ∧ Goes x p n w o w' (s.more ((y :: l).length + 1)) h qf (C + 1) := by
  have hm : key ∈ h.put := (a.hk.pt key).2 (by rw [hk]; rfl)
  have k1 : key ≤ 63 := by have := a.hk.lt key hm; omega
  obtain ⟨b, eb, bn⟩ := a.bkt key k1
  have hl := a.lookit key b k1 eb
  obtain ⟨j, ej, hj, he⟩ := place_in (qf := qf) hm eb
  rw [ej] at hl
  go_enter Tryz.func10, Tryz.ntmps10
  go_wp2_with fail
  refine hl.mono ?_
  rintro e w1 ⟨B, rfl, L⟩
  have a1 := a.looked L
  have k1 := L.2.2.1
  have c5 : w1.cell? ⟨x, 5, none⟩ = some (.slice (some ⟨B, 0, none⟩) n n) := L.1.c5
  have cb := L.2.1.cell b bn
  obtain ⟨g, c, ev, _, cq⟩ := L.entry (key := key) bn hj he
  rw [ev] at cb
  have b0 : (b : Int) < (n : Int) := by omega
  obtain ⟨m, em⟩ : ∃ m, (esF n h.put qf b).length = m := ⟨_, rfl⟩
  rw [em] at cb hj
  have j0 : (j : Int) < (m : Int) := by omega
  have hn := a1.len hk h64 hC hc
  have P : ∀ w2, Hx w2 x p n (s.more ((y :: l).length + 1)) h (some B) vs qf pf af (relab (relab o w.heap.size 3) w1.heap.size 1) (C + 1) → Keep (fun g => relab o w.heap.size 3 g ≠ 0) w1 w2 → Goes x p n w o w2 (s.more ((y :: l).length + 1)) h qf (C + 1) := fun w2 a2 k2 => by
    refine ⟨_, _, _, _, _, a2, (k1.mono (S := fun j => j = x) (T := fun g => o g ≠ 0) (fun j e => by rw [e, a.ox]; omega)).then k2 (fun g hg e => by rw [relab_lt hg] at e; exact e), fun g hg => ?_⟩
    rw [relab_lt (Nat.lt_of_lt_of_le hg k1.size), relab_lt hg]
  have P := Lib.hid P
  have lp : (0 : Int) < ((y :: l).length : Int) := by simp
  obtain ⟨N, eN⟩ : ∃ N : Int, ((y :: l).length : Int) = N := ⟨_, rfl⟩
  rw [eN] at hn lp
  clear L hl eb ej he ev em a1 k1 eN
  go_wp2_with fail
  refine hn.mono ?_
  rintro e w2 ⟨rfl, a2, k2⟩
  clear hn
  go_wp2
  go_ret
  exact ⟨rfl, P.out _ a2 k2⟩
set_option maxRecDepth 100000 in
theorem drop_yes (a : Hx w x p n s h mk vs qf pf af o C) (key : Nat) (hk : h.ch key = some []) (hC : C ≤ 2305843009213693952) (hc : s.c ≤ 1152921504606846976) :
    Calls Tryz.prog 10 #[.pointer (some ⟨x, 0, none⟩), .int .i64 key] w fun e w' => e = .returned (.bool true) ∧ Goes x p n w o w' (s.more 1) (h.drop key) qf (C + 1) := by
  have hm : key ∈ h.put := (a.hk.pt key).2 (by rw [hk]; rfl)
  have k1 : key ≤ 63 := by have := a.hk.lt key hm; omega
  obtain ⟨b, eb, bn⟩ := a.bkt key k1
  have hl := a.lookit key b k1 eb
  obtain ⟨j, ej, hj, he⟩ := place_in (qf := qf) hm eb
  rw [ej] at hl
  have ls := esF_len n h.put qf b
  have sh := a.hk.short
  go_enter Tryz.func10, Tryz.ntmps10
  go_wp2_with fail
  refine hl.mono ?_
  rintro e w1 ⟨B, rfl, L⟩
  have a1 := a.looked L
  have k1 := L.2.2.1
  have c5 : w1.cell? ⟨x, 5, none⟩ = some (.slice (some ⟨B, 0, none⟩) n n) := L.1.c5
  have cb := L.2.1.cell b bn
  obtain ⟨g, c, ev, _, cq⟩ := L.entry (key := key) bn hj he
  rw [ev] at cb
  have b0 : (b : Int) < (n : Int) := by omega
  obtain ⟨m, em⟩ : ∃ m, (esF n h.put qf b).length = m := ⟨_, rfl⟩
  rw [em] at cb hj ls ev
  have j0 : (j : Int) < (m : Int) := by omega
  have hn := a1.len hk (by simp) hC hc
  have EB := Lib.hid eb
  have HE := Lib.hid he
  have EV := Lib.hid ev
  have EM := Lib.hid em
  have A1 := Lib.hid a1
  have K1 := Lib.hid k1
  clear L hl eb ej he ev em a1 k1
  go_wp2_with fail
  refine hn.mono ?_
  rintro e w2 ⟨rfl, a2, k2⟩
  clear hn
  have c52 : w2.cell? ⟨x, 5, none⟩ = some (.slice (some ⟨B, 0, none⟩) n n) := a2.ix.c5
  have hb2 : Bkt w2 n B vs (esF n h.put qf) := a2.bk.has
  obtain ⟨oB, lB2, ov⟩ := a2.bk.lab B rfl
  have cb2 := hb2.cell b bn
  have fb2 := hb2.fz b
  have ho2 := hb2.row b bn
  have ov := ov b bn g
  rw [EV.out] at cb2 ho2 ov
  have og := ov rfl
  have gx : g ≠ x := fun e => by have := a2.ox; rw [e] at og; omega
  have gB : B ≠ g := fun e => by rw [← e] at og; omega
  have xB : ¬ B = x := fun e => by have := a2.ox; rw [e] at oB; omega
  have hdel := delete_ent (es := esF n h.put qf b) (g := g) (c := c) (w := w2.drew) (by rw [EM.out]; exact ho2) (by rw [EM.out]; omega) j (by rw [EM.out]; exact hj)
  rw [EM.out] at hdel
  have FIN : ∀ w4, OwnE w4 (.slice (some ⟨g, 0, none⟩) (m - 1) c) ((esF n h.put qf b).eraseIdx j) → Keep (fun j => j = g) w2 w4 → Goes x p n w o (w4.setCell ⟨B, b, none⟩ (.slice (some ⟨g, 0, none⟩) (m - 1) c)) (s.more 1) (h.drop key) qf (C + 1) := fun w4 o4 k4 => by
    obtain ⟨a5, k5⟩ := a2.drop EB.out bn (by rw [EM.out]; exact hj) HE.out o4 (k4.mono (fun j e => by rw [EV.out, e]; rfl)) (fun g' e => by cases e; left; rw [EV.out]; rfl)
    have k1 := K1.out
    have s1 := k1.size
    have s2 := k2.size
    refine ⟨_, _, _, _, _, a5, ?_, fun g' hg' => ?_⟩
    · have kx : Keep (fun g => o g ≠ 0) w w1 := k1.mono (fun j e => by rw [e, a.ox]; omega)
      refine (kx.then k2 (fun g' hg' e => by rw [relab_lt hg'] at e; exact e)).then k5 (fun g' hg' e => ?_)
      rw [relab_lt (by omega), relab_lt hg'] at e
      exact e
    · rw [relab_lt (by omega), relab_lt (by omega), relab_lt hg']
  have FIN := Lib.hid FIN
  have DEL := Lib.hid hdel
  have wj : IntKind.i64.wrap ((j : Int) + 1) = (j : Int) + 1 := IntWalk.i64_in _ (by omega)
  clear hdel a2 hb2 ho2 k2 c5 cb cq
  go_wp2_with fail
  refine wp_region_held_drew (S := (fun w' => w'.cell? ⟨x, 5, none⟩ = some (.slice (some ⟨B, 0, none⟩) n n))) (by kernel_rfl) c52 (fun hHeld => ?_)
  refine wpAnyH_take (i := 0) (v := ?qvu88) rfl (by kernel_rfl) (by kernel_rfl) (by kernel_rfl) (fun _ _ _ h => h) (Or.inl ⟨by rfl, ?qyu88⟩) (by assumption) ?qru88; case qyu88 => ((intro w hSw; (try dsimp only at hSw); go_simp); try (with_reducible rfl))
  ((try simp only [List.getElem_toArray]); (try simp only [List.getElem_cons_succ]); (try simp only [List.getElem_cons_zero]); (try simp only [Act.put]); (try simp only [List.setIfInBounds_toArray]); (try simp only [List.set_cons_succ]); (try simp only [List.set_cons_zero]))
  refine wpAnyH_take (i := 1) (v := ?qvu89) rfl (by kernel_rfl) (by kernel_rfl) (by kernel_rfl) (fun _ _ _ h => h) (Or.inl ⟨by rfl, ?qyu89⟩) (by assumption) ?qru89; case qyu89 => ((intro w hSw; (try dsimp only at hSw); go_simp); try (with_reducible rfl))
  ((try simp only [List.getElem_toArray]); (try simp only [List.getElem_cons_succ]); (try simp only [List.getElem_cons_zero]); (try simp only [Act.put]); (try simp only [List.setIfInBounds_toArray]); (try simp only [List.set_cons_succ]); (try simp only [List.set_cons_zero]))
  refine wpAnyH_take (i := 2) (v := ?qvu90) rfl (by kernel_rfl) (by kernel_rfl) (by kernel_rfl) (fun _ _ _ h => h) (Or.inl ⟨by rfl, ?qyu90⟩) (by assumption) ?qru90; case qyu90 => ((intro w hSw; (try dsimp only at hSw); go_simp); try (with_reducible rfl))
  ((try simp only [List.getElem_toArray]); (try simp only [List.getElem_cons_succ]); (try simp only [List.getElem_cons_zero]); (try simp only [Act.put]); (try simp only [List.setIfInBounds_toArray]); (try simp only [List.set_cons_succ]); (try simp only [List.set_cons_zero]))
  refine wpAnyH_take (i := 3) (v := ?qvu91) rfl (by kernel_rfl) (by kernel_rfl) (by kernel_rfl) (fun _ _ _ h => h) (Or.inl ⟨by rfl, ?qyu91⟩) (by assumption) ?qru91; case qyu91 => ((intro w hSw; (try dsimp only at hSw); go_simp); try (with_reducible rfl))
  ((try simp only [List.getElem_toArray]); (try simp only [List.getElem_cons_succ]); (try simp only [List.getElem_cons_zero]); (try simp only [Act.put]); (try simp only [List.setIfInBounds_toArray]); (try simp only [List.set_cons_succ]); (try simp only [List.set_cons_zero]))
  refine wpAnyH_take (i := 4) (v := ?qvu92) rfl (by kernel_rfl) (by kernel_rfl) (by kernel_rfl) (fun _ _ _ h => h) (Or.inl ⟨by rfl, ?qyu92⟩) (by assumption) ?qru92; case qyu92 => ((intro w hSw; (try dsimp only at hSw); go_simp); try (with_reducible rfl))
  ((try simp only [List.getElem_toArray]); (try simp only [List.getElem_cons_succ]); (try simp only [List.getElem_cons_zero]); (try simp only [Act.put]); (try simp only [List.setIfInBounds_toArray]); (try simp only [List.set_cons_succ]); (try simp only [List.set_cons_zero]))
  refine wpAnyH_take (i := 5) (v := ?qvu93) rfl (by kernel_rfl) (by kernel_rfl) (by kernel_rfl) (fun _ _ _ h => h) (Or.inl ⟨by rfl, ?qyu93⟩) (by assumption) ?qru93; case qyu93 => ((intro w hSw; (try dsimp only at hSw); go_simp); try (with_reducible rfl))
  ((try simp only [List.getElem_toArray]); (try simp only [List.getElem_cons_succ]); (try simp only [List.getElem_cons_zero]); (try simp only [Act.put]); (try simp only [List.setIfInBounds_toArray]); (try simp only [List.set_cons_succ]); (try simp only [List.set_cons_zero]))
  refine wpAnyH_take (i := 6) (v := ?qvu94) rfl (by kernel_rfl) (by kernel_rfl) (by kernel_rfl) (fun _ _ _ h => h) (Or.inl ⟨by rfl, ?qyu94⟩) (by assumption) ?qru94; case qyu94 => ((intro w hSw; (try dsimp only at hSw); go_simp); try (with_reducible rfl))
  ((try simp only [List.getElem_toArray]); (try simp only [List.getElem_cons_succ]); (try simp only [List.getElem_cons_zero]); (try simp only [Act.put]); (try simp only [List.setIfInBounds_toArray]); (try simp only [List.set_cons_succ]); (try simp only [List.set_cons_zero]))
  refine wpAnyH_take (i := 7) (v := ?qvu95) rfl (by kernel_rfl) (by kernel_rfl) (by kernel_rfl) (fun _ _ _ h => h) (Or.inl ⟨by rfl, ?qyu95⟩) (by assumption) ?qru95; case qyu95 => ((intro w hSw; (try dsimp only at hSw); go_simp); try (with_reducible rfl))
  ((try simp only [List.getElem_toArray]); (try simp only [List.getElem_cons_succ]); (try simp only [List.getElem_cons_zero]); (try simp only [Act.put]); (try simp only [List.setIfInBounds_toArray]); (try simp only [List.set_cons_succ]); (try simp only [List.set_cons_zero]))
  refine wpAnyH_take (i := 8) (v := ?qvu96) rfl (by kernel_rfl) (by kernel_rfl) (by kernel_rfl) (fun _ _ _ h => h) (Or.inl ⟨by rfl, ?qyu96⟩) (by assumption) ?qru96; case qyu96 => ((intro w hSw; (try dsimp only at hSw); go_simp); try (with_reducible rfl))
  ((try simp only [List.getElem_toArray]); (try simp only [List.getElem_cons_succ]); (try simp only [List.getElem_cons_zero]); (try simp only [Act.put]); (try simp only [List.setIfInBounds_toArray]); (try simp only [List.set_cons_succ]); (try simp only [List.set_cons_zero]))
  refine wpAnyH_take (i := 9) (v := ?qvu97) rfl (by kernel_rfl) (by kernel_rfl) (by kernel_rfl) (fun _ _ _ h => h) (Or.inl ⟨by rfl, ?qyu97⟩) (by assumption) ?qru97; case qyu97 => ((intro w hSw; (try dsimp only at hSw); go_simp); try (with_reducible rfl))
  ((try simp only [List.getElem_toArray]); (try simp only [List.getElem_cons_succ]); (try simp only [List.getElem_cons_zero]); (try simp only [Act.put]); (try simp only [List.setIfInBounds_toArray]); (try simp only [List.set_cons_succ]); (try simp only [List.set_cons_zero]))
  refine wpAnyH_take (i := 10) (v := ?qvu98) rfl (by kernel_rfl) (by kernel_rfl) (by kernel_rfl) (fun _ _ _ h => h) (Or.inl ⟨by rfl, ?qyu98⟩) (by assumption) ?qru98; case qyu98 => ((intro w hSw; (try dsimp only at hSw); go_simp); try (with_reducible rfl))
  ((try simp only [List.getElem_toArray]); (try simp only [List.getElem_cons_succ]); (try simp only [List.getElem_cons_zero]); (try simp only [Act.put]); (try simp only [List.setIfInBounds_toArray]); (try simp only [List.set_cons_succ]); (try simp only [List.set_cons_zero]))
  refine wpAnyH_take (i := 12) (v := ?qvu99) rfl (by kernel_rfl) (by kernel_rfl) (by kernel_rfl) (fun _ _ _ h => h) (Or.inl ⟨by rfl, ?qyu99⟩) (by assumption) ?qru99; case qyu99 => ((intro w hSw; (try dsimp only at hSw); go_simp); try (with_reducible rfl))
  ((try simp only [List.getElem_toArray]); (try simp only [List.getElem_cons_succ]); (try simp only [List.getElem_cons_zero]); (try simp only [Act.put]); (try simp only [List.setIfInBounds_toArray]); (try simp only [List.set_cons_succ]); (try simp only [List.set_cons_zero]))
  refine wpAnyH_take (i := 13) (v := ?qvu100) rfl (by kernel_rfl) (by kernel_rfl) (by kernel_rfl) (fun _ _ _ h => h) (Or.inl ⟨by rfl, ?qyu100⟩) (by assumption) ?qru100; case qyu100 => ((intro w hSw; (try dsimp only at hSw); go_simp); try (with_reducible rfl))
  ((try simp only [List.getElem_toArray]); (try simp only [List.getElem_cons_succ]); (try simp only [List.getElem_cons_zero]); (try simp only [Act.put]); (try simp only [List.setIfInBounds_toArray]); (try simp only [List.set_cons_succ]); (try simp only [List.set_cons_zero]))
  refine wpAnyH_take (i := 14) (v := ?qvu101) rfl (by kernel_rfl) (by kernel_rfl) (by kernel_rfl) (fun _ _ _ h => h) (Or.inl ⟨by rfl, ?qyu101⟩) (by assumption) ?qru101; case qyu101 => ((intro w hSw; (try dsimp only at hSw); go_simp); try (with_reducible rfl))
  ((try simp only [List.getElem_toArray]); (try simp only [List.getElem_cons_succ]); (try simp only [List.getElem_cons_zero]); (try simp only [Act.put]); (try simp only [List.setIfInBounds_toArray]); (try simp only [List.set_cons_succ]); (try simp only [List.set_cons_zero]))
  refine wpAnyH_ready (rs := [11]) (by kernel_rfl) (by simp) ?_
  refine AllReadyH.cons rfl (fun K hK => ?_) AllReadyH.nil
  go_simp
  refine hK.out _ _ hHeld (fun hHeld => ?_)
  clear hK K
  ((try simp only [List.getElem_toArray]); (try simp only [List.getElem_cons_succ]); (try simp only [List.getElem_cons_zero]); (try simp only [Act.put]); (try simp only [List.setIfInBounds_toArray]); (try simp only [List.set_cons_succ]); (try simp only [List.set_cons_zero]))
  refine wpAnyH_ready (rs := [15]) (by kernel_rfl) (by simp) ?_
  refine AllReadyH.cons rfl (fun K hK => ?_) AllReadyH.nil
  go_simp
  refine DEL.out.mono ?_
  rintro e w4 ⟨rfl, o4, k4⟩
  have cb4 := k4.cell (show w2.drew.cell? ⟨B, b, none⟩ = _ from cb2) gB
  have fb4 := (k4.frozen (a := ⟨B, b, none⟩) lB2 gB).trans fb2
  have c54 := k4.cell (show w2.drew.cell? ⟨x, 5, none⟩ = _ from c52) (fun e => gx e.symm)
  refine hK.out _ _ c54 (fun hHeld => ?_)
  clear hK K
  ((try simp only [List.getElem_toArray]); (try simp only [List.getElem_cons_succ]); (try simp only [List.getElem_cons_zero]); (try simp only [Act.put]); (try simp only [List.setIfInBounds_toArray]); (try simp only [List.set_cons_succ]); (try simp only [List.set_cons_zero]))
  refine wpAnyH_take (i := 16) (v := ?qvu102) rfl (by kernel_rfl) (by kernel_rfl) (by kernel_rfl) (fun _ _ _ h => h) (Or.inl ⟨by rfl, ?qyu102⟩) (by assumption) ?qru102; case qyu102 => ((intro w hSw; (try dsimp only at hSw); go_simp); try (with_reducible rfl))
  ((try simp only [List.getElem_toArray]); (try simp only [List.getElem_cons_succ]); (try simp only [List.getElem_cons_zero]); (try simp only [Act.put]); (try simp only [List.setIfInBounds_toArray]); (try simp only [List.set_cons_succ]); (try simp only [List.set_cons_zero]))
  refine wpAnyH_ready (rs := [17]) (by kernel_rfl) (by simp) ?_
  refine AllReadyH.cons rfl (fun K hK => ?_) AllReadyH.nil
  go_simp
  refine hK.out _ _ ((World.cell?_setCell_other _ _ _ _ (by simp)).trans c54) (fun hHeld => ?_)
  clear hK K
  ((try simp only [List.getElem_toArray]); (try simp only [List.getElem_cons_succ]); (try simp only [List.getElem_cons_zero]); (try simp only [Act.put]); (try simp only [List.setIfInBounds_toArray]); (try simp only [List.set_cons_succ]); (try simp only [List.set_cons_zero]))
  refine wpAnyH_done (by kernel_rfl) ?_ _
  go_wp2
  go_ret
  exact ⟨rfl, FIN.out _ o4 ((Keep.refl _ w2).drew.trans k4)⟩
end
end Go.Proofs.YtmfpjnlplimkeaaGreat
