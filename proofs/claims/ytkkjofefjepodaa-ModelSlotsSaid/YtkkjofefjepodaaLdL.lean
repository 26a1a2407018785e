/- Package model as landed, in memory: New, Live, Now, Status. No further condition. -/
import Derived.Test.YtkkjofefjepodaaLdU
import Derived.Test.YtkkjofefjepodaaLdNT
import Derived.Test.YtkkjofefjepodaaLdT
import Derived.Test.YtkkjofefjepodaaResS
import Derived.Test.YtkkjofefjepodaaPushN
namespace Go.Proofs.Ytkkjofefjepodaa
open Go.ChangeShapes Go.WideShapes Go.ChangeAt Go.RowKit
set_option linter.unusedVariables false
set_option linter.unusedSimpArgs false
section
variable {w w' w2 : World} {m g n c : Nat} {K : Nat → Value} {o : Nat → Nat} {z : LdI} {T : Nat → Prop} {F : Nat → FtI} {P : VeI → Bool} {t : TtI} {fv : Value} {l : List VeI}
theorem now_any (h : LdAt w m K o z) : Calls Try.prog 29 #[.pointer (some ⟨m, 0, none⟩)] w fun e w' => e = .returned (.int .u64 z.clock) ∧ w' = w := by
  have c2 := h.a.c2
  obtain ⟨c, ec⟩ : ∃ c, z.clock = c := ⟨_, rfl⟩
  rw [ec] at c2 ⊢
  clear h ec
  go_enter Try.func29, Try.ntmps29
  go_wp2
  go_ret
  exact ⟨rfl, rfl⟩
def liveZ (z : LdI) (k : Nat) : List Int := ((List.range k).filter fun i => (z.s i).isSome).map (fun i : Nat => (i : Int))
theorem liveZ_next (z : LdI) (k : Nat) : liveZ z (k + 1) = liveZ z k ++ if (z.s k).isSome = true then [(k : Int)] else [] := by
  unfold liveZ
  rw [List.range_succ, List.filter_append, List.map_append]
  congr 1
  by_cases h : (z.s k).isSome = true <;> simp [h]
theorem liveZ_len (z : LdI) (k : Nat) : (liveZ z k).length ≤ k := by
  unfold liveZ
  rw [List.length_map]
  exact Nat.le_trans (List.length_filter_le _ _) (by simp)
def RLz (w : World) (z : LdI) (a q : Value) (wr : World) (k : Nat) : Prop := k ≤ 8 ∧ q = .int .i64 k ∧ OwnN w.heap.size wr a (liveZ z k) ∧ Keep (fun _ => False) w wr
def ToldZ (w : World) (l : List Int) (e : Ending) (w' : World) : Prop := ∃ u, e = .returned u ∧ OwnN w.heap.size w' u l ∧ Keep (fun _ => False) w w'
set_option maxRecDepth 100000 in
theorem live_any (h : LdAt w m K o z) : Calls Try.prog 24 #[.pointer (some ⟨m, 0, none⟩)] w (ToldZ w (liveZ z 8)) := by
  have HC := Lib.hid (sesC_cell h)
  have H := Lib.hid h
  clear h
  go_enter Try.func24, Try.ntmps24
  go_wp2_with (refine wpList_load_mid rfl 93 _ rfl ⟨m, 4, none⟩ rfl (sesC z) _ HC.out Try.underlying93 rfl (by kernel_rfl) ?_)
  go_loopw [3, 4, 5, 10] (fun a _ _ q wr => ∃ j : Nat, RLz w z a q wr j) (fun _ _ _ q _ => 8 - (intOf q).toNat)
  case atStart => exact ⟨0, Nat.zero_le _, rfl, World.ownsRow_nil _ _ _ _, Keep.refl _ _⟩
  case round =>
    obtain ⟨k, hk, rfl, oo, k1⟩ := hrel
    by_cases hlt : k < 8
    · have ix := fun w => run_index_arr (P := Try.prog) (sesC z) Try.underlying93 Try.underlying92 rfl (by kernel_rfl) hlt (sesC_at z hlt) w
      have nx := liveZ_next z k
      have wk : IntKind.i64.wrap ((k : Int) + 1) = (k : Int) + 1 := IntWalk.i64_in _ (by omega)
      have hlt2 : (k : Int) < 8 := by omega
      cases ht : z.s k with
      | none =>
        rw [ht] at nx ix
        dsimp only [ptrO, Option.map, Option.isSome] at nx ix
        rw [if_neg (by decide), List.append_nil] at nx
        have NX := Lib.hid nx
        have OO := Lib.hid oo
        clear nx ht oo
        go_wp2
        first | exact ⟨⟨k + 1, by omega, by go_num, by rw [NX.out]; exact OO.out, k1⟩, by simp [intOf]; omega⟩ | (refine ⟨?rel2, ?meas2⟩; (case meas2 => (simp [intOf]; omega)); (case rel2 => ((repeat apply Exists.intro); exact ⟨⟨k + 1, by omega, by go_num, by rw [NX.out]; exact OO.out, k1⟩, rfl⟩)))
      | some t =>
        rw [ht] at nx ix
        dsimp only [ptrO, Option.map, Option.isSome] at nx ix
        rw [if_pos rfl] at nx
        have qe := (eql_nilT (w := wr) (a := t.b)).2
        have ll := Nat.le_trans (liveZ_len z k) (show k ≤ 100000 by omega)
        have hz2 := k1.size
        obtain ⟨Z, eZ⟩ : ∃ Z, liveZ z k = Z := ⟨_, rfl⟩
        rw [eZ] at nx ll oo
        have NX := Lib.hid nx
        have OO := Lib.hid oo
        clear nx oo ht eZ
        go_wp2_with (with_reducible refine wp_stop 19 rfl ?_)
        intro _
        refine wp_pushN rfl (.tmp 16) (.tmp 18) rfl w.heap.size hz2 _ Z (by rfl) OO.out k rfl ll ?_
        rintro g2 c2 w3 o3 k3 hg
        rw [show Z ++ [(k : Int)] = liveZ z (k + 1) from NX.out.symm] at o3
        have K3 : Keep (fun _ => False) w w3 := k1.older (S := fun g => w.heap.size ≤ g) (k3.mono (fun g e => (OwnN.lt OO.out e).1)) (fun _ e => e)
        have O3 := Lib.hid o3
        clear o3 k3 hg
        go_wp2
        first | exact ⟨⟨k + 1, by omega, by go_num, O3.out, K3⟩, by simp [intOf]; omega⟩ | (refine ⟨?rel2, ?meas2⟩; (case meas2 => (simp [intOf]; omega)); (case rel2 => ((repeat apply Exists.intro); exact ⟨⟨k + 1, by omega, by go_num, O3.out, K3⟩, rfl⟩)))
    · obtain rfl : k = 8 := by omega
      have OO := Lib.hid oo
      clear oo
      go_wp2
      go_ret
      exact ⟨_, rfl, OO.out, k1⟩
def statL (z : LdI) (s : Int) : Value := if s < 0 ∨ 7 < s then stV false 0 0 0 0 0 else match z.s s.toNat with | none => stV false 0 0 0 0 0 | some t => stV true t.id t.level 1 t.start t.ops
set_option maxRecDepth 100000 in
set_option maxHeartbeats 2000000 in
theorem status_any (h : LdAt w m K o z) (s : Int) : Calls Try.prog 30 #[.pointer (some ⟨m, 0, none⟩), .int .i64 s] w fun e w' => e = .returned (statL z s) ∧ Keep (fun _ => False) w w' := by
  obtain ⟨W, eW, rb, kW⟩ := st_box w
  have hW := h.quiet kW
  have ONW := Lib.hid (show ∀ g, o g ≠ 0 → g ≠ w.heap.size from fun g hg e => by have := h.lt g hg; omega)
  obtain ⟨N, eN⟩ : ∃ N, w.heap.size = N := ⟨_, rfl⟩
  rw [eN] at rb ONW
  have KW := Lib.hid kW
  have FIN := Lib.hid (fun (wz : World) (k : Keep (fun j => j = N) W wz) => (show Keep (fun _ => False) w wz from kW.older k (fun j e => by rw [e]; exact Nat.le_of_eq eN)))
  have RB := Lib.hid rb
  by_cases hb : s < 0 ∨ 7 < s
  · have S := issession_any s false (by symm; rw [decide_eq_false_iff_not]; omega) W
    have e1 : statL z s = stV false 0 0 0 0 0 := if_pos hb
    rw [e1]
    obtain ⟨r0, r1, r2, r3, r4, r5, r6, r7, r8, rfz⟩ := rb
    clear h hW kW e1 hb
    go_enter Try.func30, Try.ntmps30
    go_wp2_with fail
    refine S.mono ?_
    rintro e w1 ⟨rfl, rfl⟩
    clear S eW
    go_wp2
    (obtain ⟨W7, eW7⟩ : ∃ W7, (((((((((w1.setCell ⟨N, 0, none⟩ (.bool false)).setCell ⟨N, 1, none⟩ (.bool false)).setCell ⟨N, 2, none⟩ (.bool false)).setCell ⟨N, 3, none⟩ (.int .i64 (0))).setCell ⟨N, 4, none⟩ (.int .i64 (0))).setCell ⟨N, 5, none⟩ (.int .i64 (0))).setCell ⟨N, 6, none⟩ (.int .u64 (0))).setCell ⟨N, 7, none⟩ (.int .u64 0)).setCell ⟨N, 8, none⟩ (.int .i64 (0))) = W7 := ⟨_, rfl⟩; obtain ⟨⟨v0, v1, v2, v3, v4, v5, v6, v7, v8, _⟩, k7⟩ := st_set RB.out _ _ _ _ _ _ _ _ _ eW7; rw [eW7]; refine bodyPost_ret (v := stV false (0) (0) (0) (0) (0)) (by simp [stV, results, Try.results30, go_sem, v0, v1, v2, v3, v4, v5, v6, v7, v8]) rfl ⟨rfl, ?_⟩)
    exact FIN.out _ k7
  · obtain ⟨i, rfl⟩ : ∃ i : Nat, s = (i : Int) := ⟨s.toNat, by omega⟩
    have hi : i < 8 := by omega
    have hi2 : (i : Int) < 8 := by omega
    have S := issession_any i true (by symm; rw [decide_eq_true_iff]; omega) W
    have cs := hW.a.cs i hi
    have e1 : statL z i = match z.s i with | none => stV false 0 0 0 0 0 | some t => stV true t.id t.level 1 t.start t.ops := by unfold statL; rw [if_neg hb, Int.toNat_natCast]
    cases ht : z.s i with
    | none =>
      rw [ht] at cs e1
      dsimp only [Option.map, ptrO] at cs e1
      rw [e1]
      obtain ⟨r0, r1, r2, r3, r4, r5, r6, r7, r8, rfz⟩ := rb
      clear h hW kW e1 hb ht
      go_enter Try.func30, Try.ntmps30
      go_wp2_with fail
      refine S.mono ?_
      rintro e w1 ⟨rfl, rfl⟩
      clear S eW
      go_wp2
      (obtain ⟨W7, eW7⟩ : ∃ W7, (((((((((w1.setCell ⟨N, 0, none⟩ (.bool false)).setCell ⟨N, 1, none⟩ (.bool false)).setCell ⟨N, 2, none⟩ (.bool false)).setCell ⟨N, 3, none⟩ (.int .i64 (0))).setCell ⟨N, 4, none⟩ (.int .i64 (0))).setCell ⟨N, 5, none⟩ (.int .i64 (0))).setCell ⟨N, 6, none⟩ (.int .u64 (0))).setCell ⟨N, 7, none⟩ (.int .u64 0)).setCell ⟨N, 8, none⟩ (.int .i64 (0))) = W7 := ⟨_, rfl⟩; obtain ⟨⟨v0, v1, v2, v3, v4, v5, v6, v7, v8, _⟩, k7⟩ := st_set RB.out _ _ _ _ _ _ _ _ _ eW7; rw [eW7]; refine bodyPost_ret (v := stV false (0) (0) (0) (0) (0)) (by simp [stV, results, Try.results30, go_sem, v0, v1, v2, v3, v4, v5, v6, v7, v8]) rfl ⟨rfl, ?_⟩)
      exact FIN.out _ k7
    | some t =>
      rw [ht] at cs e1
      dsimp only [Option.map, ptrO] at cs e1
      rw [e1]
      have tt := hW.t i t hi ht
      have qe := fun w => (eql_nilT (w := w) (a := t.b)).1
      have T0 := Lib.hid tt
      obtain ⟨id', eid⟩ : ∃ x, t.id = x := ⟨_, rfl⟩
      obtain ⟨lv, elv⟩ : ∃ x, t.level = x := ⟨_, rfl⟩
      obtain ⟨st, est⟩ : ∃ x, t.start = x := ⟨_, rfl⟩
      obtain ⟨op, eop⟩ : ∃ x, t.ops = x := ⟨_, rfl⟩
      obtain ⟨t0, t1, t2, t3, _, _, _⟩ := tt
      rw [eid] at t0
      rw [elv] at t1
      rw [est] at t2
      rw [eop] at t3
      rw [eid, elv, est, eop]
      have nT : ¬ t.b = N := fun e => ONW.out t.b (by rw [(h.oT i t hi ht).1]; omega) e
      clear h hW kW e1 hb ht eid elv est eop
      go_enter Try.func30, Try.ntmps30
      go_wp2_with fail
      refine S.mono ?_
      rintro e w1 ⟨rfl, rfl⟩
      clear S eW
      go_wp2_with fail
      refine wp_region_held_drew (S := fun w' => w'.cell? ⟨t.b, 0, none⟩ = some (.int .i64 id') ∧ w'.cell? ⟨t.b, 1, none⟩ = some (.int .i64 lv) ∧ w'.cell? ⟨t.b, 2, none⟩ = some (.int .u64 st) ∧ w'.cell? ⟨t.b, 3, none⟩ = some (.int .i64 op)) (by kernel_rfl) ⟨t0, t1, t2, t3⟩ (fun hHeld => ?_)
      refine wpAnyH_take (i := 0) (v := ?qvu31) rfl (by kernel_rfl) (by kernel_rfl) (by kernel_rfl) (fun _ _ _ h => h) (Or.inl ⟨by rfl, ?qyu31⟩) (by assumption) ?qru31; case qyu31 => ((intro w hSw; (try dsimp only at hSw); go_simp); try (with_reducible rfl))
      ((try simp only [List.getElem_toArray]); (try simp only [List.getElem_cons_succ]); (try simp only [List.getElem_cons_zero]); (try simp only [Act.put]); (try simp only [List.setIfInBounds_toArray]); (try simp only [List.set_cons_succ]); (try simp only [List.set_cons_zero]))
      refine wpAnyH_take (i := 1) (v := ?qvu32) rfl (by kernel_rfl) (by kernel_rfl) (by kernel_rfl) (fun _ _ _ h => h) (Or.inl ⟨by rfl, ?qyu32⟩) (by assumption) ?qru32; case qyu32 => ((intro w hSw; (try dsimp only at hSw); go_simp); try (with_reducible rfl))
      ((try simp only [List.getElem_toArray]); (try simp only [List.getElem_cons_succ]); (try simp only [List.getElem_cons_zero]); (try simp only [Act.put]); (try simp only [List.setIfInBounds_toArray]); (try simp only [List.set_cons_succ]); (try simp only [List.set_cons_zero]))
      refine wpAnyH_take (i := 2) (v := ?qvu33) rfl (by kernel_rfl) (by kernel_rfl) (by kernel_rfl) (fun _ _ _ h => h) (Or.inl ⟨by rfl, ?qyu33⟩) (by assumption) ?qru33; case qyu33 => ((intro w hSw; (try dsimp only at hSw); go_simp); try (with_reducible rfl))
      ((try simp only [List.getElem_toArray]); (try simp only [List.getElem_cons_succ]); (try simp only [List.getElem_cons_zero]); (try simp only [Act.put]); (try simp only [List.setIfInBounds_toArray]); (try simp only [List.set_cons_succ]); (try simp only [List.set_cons_zero]))
      refine wpAnyH_take (i := 3) (v := ?qvu34) rfl (by kernel_rfl) (by kernel_rfl) (by kernel_rfl) (fun _ _ _ h => h) (Or.inl ⟨by rfl, ?qyu34⟩) (by assumption) ?qru34; case qyu34 => ((intro w hSw; (try dsimp only at hSw); go_simp); try (with_reducible rfl))
      ((try simp only [List.getElem_toArray]); (try simp only [List.getElem_cons_succ]); (try simp only [List.getElem_cons_zero]); (try simp only [Act.put]); (try simp only [List.setIfInBounds_toArray]); (try simp only [List.set_cons_succ]); (try simp only [List.set_cons_zero]))
      refine wpAnyH_take (i := 4) (v := ?qvu35) rfl (by kernel_rfl) (by kernel_rfl) (by kernel_rfl) (fun _ _ _ h => h) (Or.inl ⟨by rfl, ?qyu35⟩) (by assumption) ?qru35; case qyu35 => ((intro w hSw; (try dsimp only at hSw); go_simp); try (with_reducible rfl))
      ((try simp only [List.getElem_toArray]); (try simp only [List.getElem_cons_succ]); (try simp only [List.getElem_cons_zero]); (try simp only [Act.put]); (try simp only [List.setIfInBounds_toArray]); (try simp only [List.set_cons_succ]); (try simp only [List.set_cons_zero]))
      refine wpAnyH_take (i := 5) (v := ?qvu36) rfl (by kernel_rfl) (by kernel_rfl) (by kernel_rfl) (fun _ _ _ h => h) (Or.inl ⟨by rfl, ?qyu36⟩) (by assumption) ?qru36; case qyu36 => ((intro w hSw; (try dsimp only at hSw); go_simp); try (with_reducible rfl))
      ((try simp only [List.getElem_toArray]); (try simp only [List.getElem_cons_succ]); (try simp only [List.getElem_cons_zero]); (try simp only [Act.put]); (try simp only [List.setIfInBounds_toArray]); (try simp only [List.set_cons_succ]); (try simp only [List.set_cons_zero]))
      refine wpAnyH_take (i := 6) (v := ?qvu37) rfl (by kernel_rfl) (by kernel_rfl) (by kernel_rfl) (fun _ _ _ h => h) (Or.inl ⟨by rfl, ?qyu37⟩) (by assumption) ?qru37; case qyu37 => ((intro w hSw; (try dsimp only at hSw); go_simp); try (with_reducible rfl))
      ((try simp only [List.getElem_toArray]); (try simp only [List.getElem_cons_succ]); (try simp only [List.getElem_cons_zero]); (try simp only [Act.put]); (try simp only [List.setIfInBounds_toArray]); (try simp only [List.set_cons_succ]); (try simp only [List.set_cons_zero]))
      refine wpAnyH_take (i := 7) (v := ?qvu38) rfl (by kernel_rfl) (by kernel_rfl) (by kernel_rfl) (fun _ _ _ h => h) (Or.inl ⟨by rfl, ?qyu38⟩) (by assumption) ?qru38; case qyu38 => ((intro w hSw; (try dsimp only at hSw); go_simp); try (with_reducible rfl))
      ((try simp only [List.getElem_toArray]); (try simp only [List.getElem_cons_succ]); (try simp only [List.getElem_cons_zero]); (try simp only [Act.put]); (try simp only [List.setIfInBounds_toArray]); (try simp only [List.set_cons_succ]); (try simp only [List.set_cons_zero]))
      refine wpAnyH_take (i := 8) (v := ?qvu39) rfl (by kernel_rfl) (by kernel_rfl) (by kernel_rfl) (fun _ _ _ h => h) (Or.inl ⟨by rfl, ?qyu39⟩) (by assumption) ?qru39; case qyu39 => ((intro w hSw; (try dsimp only at hSw); go_simp); try (with_reducible rfl))
      ((try simp only [List.getElem_toArray]); (try simp only [List.getElem_cons_succ]); (try simp only [List.getElem_cons_zero]); (try simp only [Act.put]); (try simp only [List.setIfInBounds_toArray]); (try simp only [List.set_cons_succ]); (try simp only [List.set_cons_zero]))
      refine wpAnyH_take (i := 9) (v := ?qvu40) rfl (by kernel_rfl) (by kernel_rfl) (by kernel_rfl) (fun _ _ _ h => h) (Or.inl ⟨by rfl, ?qyu40⟩) (by assumption) ?qru40; case qyu40 => ((intro w hSw; (try dsimp only at hSw); go_simp); try (with_reducible rfl))
      ((try simp only [List.getElem_toArray]); (try simp only [List.getElem_cons_succ]); (try simp only [List.getElem_cons_zero]); (try simp only [Act.put]); (try simp only [List.setIfInBounds_toArray]); (try simp only [List.set_cons_succ]); (try simp only [List.set_cons_zero]))
      refine wpAnyH_take (i := 10) (v := ?qvu41) rfl (by kernel_rfl) (by kernel_rfl) (by kernel_rfl) (fun _ _ _ h => h) (Or.inl ⟨by rfl, ?qyu41⟩) (by assumption) ?qru41; case qyu41 => ((intro w hSw; (try dsimp only at hSw); go_simp); try (with_reducible rfl))
      ((try simp only [List.getElem_toArray]); (try simp only [List.getElem_cons_succ]); (try simp only [List.getElem_cons_zero]); (try simp only [Act.put]); (try simp only [List.setIfInBounds_toArray]); (try simp only [List.set_cons_succ]); (try simp only [List.set_cons_zero]))
      refine wpAnyH_take (i := 11) (v := ?qvu42) rfl (by kernel_rfl) (by kernel_rfl) (by kernel_rfl) (fun _ _ _ h => h) (Or.inl ⟨by rfl, ?qyu42⟩) (by assumption) ?qru42; case qyu42 => ((intro w hSw; (try dsimp only at hSw); go_simp); try (with_reducible rfl))
      ((try simp only [List.getElem_toArray]); (try simp only [List.getElem_cons_succ]); (try simp only [List.getElem_cons_zero]); (try simp only [Act.put]); (try simp only [List.setIfInBounds_toArray]); (try simp only [List.set_cons_succ]); (try simp only [List.set_cons_zero]))
      refine wpAnyH_take (i := 12) (v := ?qvu43) rfl (by kernel_rfl) (by kernel_rfl) (by kernel_rfl) (fun _ _ _ h => h) (Or.inl ⟨by rfl, ?qyu43⟩) (by assumption) ?qru43; case qyu43 => ((intro w hSw; (try dsimp only at hSw); go_simp); try (with_reducible rfl))
      ((try simp only [List.getElem_toArray]); (try simp only [List.getElem_cons_succ]); (try simp only [List.getElem_cons_zero]); (try simp only [Act.put]); (try simp only [List.setIfInBounds_toArray]); (try simp only [List.set_cons_succ]); (try simp only [List.set_cons_zero]))
      refine wpAnyH_take (i := 13) (v := ?qvu44) rfl (by kernel_rfl) (by kernel_rfl) (by kernel_rfl) (fun _ _ _ h => h) (Or.inl ⟨by rfl, ?qyu44⟩) (by assumption) ?qru44; case qyu44 => ((intro w hSw; (try dsimp only at hSw); go_simp); try (with_reducible rfl))
      ((try simp only [List.getElem_toArray]); (try simp only [List.getElem_cons_succ]); (try simp only [List.getElem_cons_zero]); (try simp only [Act.put]); (try simp only [List.setIfInBounds_toArray]); (try simp only [List.set_cons_succ]); (try simp only [List.set_cons_zero]))
      refine wpAnyH_take (i := 14) (v := ?qvu45) rfl (by kernel_rfl) (by kernel_rfl) (by kernel_rfl) (fun _ _ _ h => h) (Or.inl ⟨by rfl, ?qyu45⟩) (by assumption) ?qru45; case qyu45 => ((intro w hSw; (try dsimp only at hSw); go_simp); try (with_reducible rfl))
      ((try simp only [List.getElem_toArray]); (try simp only [List.getElem_cons_succ]); (try simp only [List.getElem_cons_zero]); (try simp only [Act.put]); (try simp only [List.setIfInBounds_toArray]); (try simp only [List.set_cons_succ]); (try simp only [List.set_cons_zero]))
      refine wpAnyH_take (i := 15) (v := ?qvu46) rfl (by kernel_rfl) (by kernel_rfl) (by kernel_rfl) (fun _ _ _ h => h) (Or.inl ⟨by rfl, ?qyu46⟩) (by assumption) ?qru46; case qyu46 => ((intro w hSw; (try dsimp only at hSw); go_simp); try (with_reducible rfl))
      ((try simp only [List.getElem_toArray]); (try simp only [List.getElem_cons_succ]); (try simp only [List.getElem_cons_zero]); (try simp only [Act.put]); (try simp only [List.setIfInBounds_toArray]); (try simp only [List.set_cons_succ]); (try simp only [List.set_cons_zero]))
      refine wpAnyH_take (i := 16) (v := ?qvu47) rfl (by kernel_rfl) (by kernel_rfl) (by kernel_rfl) (fun _ _ _ h => h) (Or.inl ⟨by rfl, ?qyu47⟩) (by assumption) ?qru47; case qyu47 => ((intro w hSw; (try dsimp only at hSw); go_simp); try (with_reducible rfl))
      ((try simp only [List.getElem_toArray]); (try simp only [List.getElem_cons_succ]); (try simp only [List.getElem_cons_zero]); (try simp only [Act.put]); (try simp only [List.setIfInBounds_toArray]); (try simp only [List.set_cons_succ]); (try simp only [List.set_cons_zero]))
      refine wpAnyH_ready (rs := [17]) (by kernel_rfl) (by simp) ?_
      refine AllReadyH.cons rfl (fun K hK => ?_) AllReadyH.nil
      go_simp
      obtain ⟨r0, r1, r2, r3, r4, r5, r6, r7, r8, rfz⟩ := RB.out
      go_simp
      obtain ⟨W7, eW7⟩ : ∃ W7, (((((((((w1.setCell ⟨N, 0, none⟩ (.bool true)).setCell ⟨N, 1, none⟩ (.bool false)).setCell ⟨N, 2, none⟩ (.bool false)).setCell ⟨N, 3, none⟩ (.int .i64 id')).setCell ⟨N, 4, none⟩ (.int .i64 lv)).setCell ⟨N, 5, none⟩ (.int .i64 1)).setCell ⟨N, 6, none⟩ (.int .u64 st)).setCell ⟨N, 7, none⟩ (.int .u64 0)).setCell ⟨N, 8, none⟩ (.int .i64 op)) = W7 := ⟨_, rfl⟩
      obtain ⟨⟨v0, v1, v2, v3, v4, v5, v6, v7, v8, _⟩, k7⟩ := st_set RB.out _ _ _ _ _ _ _ _ _ eW7
      rw [eW7]
      clear r0 r1 r2 r3 r4 r5 r6 r7 r8 rfz eW7
      refine hK.out _ _ ⟨k7.cell t0 nT, k7.cell t1 nT, k7.cell t2 nT, k7.cell t3 nT⟩ (fun hHeld => ?_)
      clear hK K
      ((try simp only [List.getElem_toArray]); (try simp only [List.getElem_cons_succ]); (try simp only [List.getElem_cons_zero]); (try simp only [Act.put]); (try simp only [List.setIfInBounds_toArray]); (try simp only [List.set_cons_succ]); (try simp only [List.set_cons_zero]))
      refine wpAnyH_done (by kernel_rfl) ?_ _
      go_wp2
      refine bodyPost_ret (v := stV true id' lv 1 st op) (by simp [stV, results, Try.results30, go_sem, v0, v1, v2, v3, v4, v5, v6, v7, v8]) rfl ⟨rfl, ?_⟩
      exact FIN.out _ (k7.trans ((Keep.refl _ _).drew))
end
end Go.Proofs.Ytkkjofefjepodaa
