/- Several texts, one behind the other: LdL, LdB2, MdD1, MdD2, MdD3, MdD. -/
import Derived.Test.YtkkjofefjepodaaModelBaseZah
import Derived.Test.YtkkjofefjepodaaModelBaseZac
import Derived.Test.YtkkjofefjepodaaModelBaseZai
import Derived.Test.YtkkjofefjepodaaModelBaseZab
import Derived.Test.YtkkjofefjepodaaModelBaseZae
import Derived.Test.YtkkjofefjepodaaModelBaseZaj
import Derived.Test.YtkkjofefjepodaaModelBaseZak
import Derived.Test.YtkkjofefjepodaaModelBaseZaf
import Derived.Test.YtkkjofefjepodaaModelBaseZad
/- Package model as landed, in memory: New, Live, Now, Status. No further condition. -/
namespace Go.Proofs.Ytkkjofefjepodaa
open Go.ChangeShapes Go.WideShapes Go.ChangeAt Go.RowKit
set_option linter.unusedVariables false
set_option linter.unusedSimpArgs false
section
variable {w w' w2 : World} {m g n c : Nat} {K : Nat → Value} {o : Nat → Nat} {z : LdI} {T : Nat → Prop} {F : Nat → FtI} {P : VeI → Bool} {t : TtI} {fv : Value} {l : List VeI}
theorem now_any (h : LdAt w m K o z) : Calls Try.prog 29 #[.pointer (some ⟨m, 0, none⟩)] w fun e w' => e = .returned (.int .u64 z.clock) ∧ w' = w := by
 have c2 := h.a.c2
 obtain ⟨c, ec⟩ : ∃ c, z.clock = c := ⟨_, rfl⟩
 rw [ec] at c2 ⊢
 clear h ec
 go_enter Try.func29, Try.ntmps29
 go_wp2
 go_ret
 exact ⟨rfl, rfl⟩
def liveZ (z : LdI) (k : Nat) : List Int := ((List.range k).filter fun i => (z.s i).isSome).map (fun i : Nat => (i : Int))
theorem liveZ_next (z : LdI) (k : Nat) : liveZ z (k + 1) = liveZ z k ++ if (z.s k).isSome = true then [(k : Int)] else [] := by
 unfold liveZ
 rw [List.range_succ, List.filter_append, List.map_append]
 congr 1
 by_cases h : (z.s k).isSome = true <;> simp [h]
theorem liveZ_len (z : LdI) (k : Nat) : (liveZ z k).length ≤ k := by
 unfold liveZ
 rw [List.length_map]
 exact Nat.le_trans (List.length_filter_le _ _) (by simp)
def RLz (w : World) (z : LdI) (a q : Value) (wr : World) (k : Nat) : Prop := k ≤ 8 ∧ q = .int .i64 k ∧ OwnN w.heap.size wr a (liveZ z k) ∧ Keep (fun _ => False) w wr
def ToldZ (w : World) (l : List Int) (e : Ending) (w' : World) : Prop := ∃ u, e = .returned u ∧ OwnN w.heap.size w' u l ∧ Keep (fun _ => False) w w'
set_option maxRecDepth 100000 in
theorem live_any (h : LdAt w m K o z) : Calls Try.prog 24 #[.pointer (some ⟨m, 0, none⟩)] w (ToldZ w (liveZ z 8)) := by
  have HC := Lib.hid (sesC_cell h)
  have H := Lib.hid h
  clear h
  go_enter Try.func24, Try.ntmps24
  go_wp2_with (refine wpList_load_mid rfl 93 _ rfl ⟨m, 4, none⟩ rfl (sesC z) _ HC.out Try.underlying93 rfl (by kernel_rfl) ?_)
  go_loopw [3, 4, 5, 10] (fun a _ _ q wr => ∃ j : Nat, RLz w z a q wr j) (fun _ _ _ q _ => 8 - (intOf q).toNat)
  case atStart => exact ⟨0, Nat.zero_le _, rfl, World.ownsRow_nil _ _ _ _, Keep.refl _ _⟩
  case round =>
    obtain ⟨k, hk, rfl, oo, k1⟩ := hrel
    by_cases hlt : k < 8
    · have ix := fun w => run_index_arr (P := Try.prog) (sesC z) Try.underlying93 Try.underlying92 rfl (by kernel_rfl) hlt (sesC_at z hlt) w
      have nx := liveZ_next z k
      have wk : IntKind.i64.wrap ((k : Int) + 1) = (k : Int) + 1 := IntWalk.i64_in _ (by omega)
      have hlt2 : (k : Int) < 8 := by omega
      cases ht : z.s k with
      | none =>
        rw [ht] at nx ix
        dsimp only [ptrO, Option.map, Option.isSome] at nx ix
        rw [if_neg (by decide), List.append_nil] at nx
        have NX := Lib.hid nx
        have OO := Lib.hid oo
        clear nx ht oo
        go_wp2
        first | exact ⟨⟨k + 1, by omega, by go_num, by rw [NX.out]; exact OO.out, k1⟩, by simp [intOf]; omega⟩ | (refine ⟨?rel2, ?meas2⟩; (case meas2 => (simp [intOf]; omega)); (case rel2 => ((repeat apply Exists.intro); exact ⟨⟨k + 1, by omega, by go_num, by rw [NX.out]; exact OO.out, k1⟩, rfl⟩)))
      | some t =>
        rw [ht] at nx ix
        dsimp only [ptrO, Option.map, Option.isSome] at nx ix
        rw [if_pos rfl] at nx
        have qe := (eql_nilT (w := wr) (a := t.b)).2
        have ll := Nat.le_trans (liveZ_len z k) (show k ≤ 100000 by omega)
        have hz2 := k1.size
        obtain ⟨Z, eZ⟩ : ∃ Z, liveZ z k = Z := ⟨_, rfl⟩
        rw [eZ] at nx ll oo
        have NX := Lib.hid nx
        have OO := Lib.hid oo
        clear nx oo ht eZ
        go_wp2_with (with_reducible refine wp_stop 19 rfl ?_)
        intro _
        refine wp_pushN rfl (.tmp 16) (.tmp 18) rfl w.heap.size hz2 _ Z (by rfl) OO.out k rfl ll ?_
        rintro g2 c2 w3 o3 k3 hg
        rw [show Z ++ [(k : Int)] = liveZ z (k + 1) from NX.out.symm] at o3
        have K3 : Keep (fun _ => False) w w3 := k1.older (S := fun g => w.heap.size ≤ g) (k3.mono (fun g e => (OwnN.lt OO.out e).1)) (fun _ e => e)
        have O3 := Lib.hid o3
        clear o3 k3 hg
        go_wp2
        first | exact ⟨⟨k + 1, by omega, by go_num, O3.out, K3⟩, by simp [intOf]; omega⟩ | (refine ⟨?rel2, ?meas2⟩; (case meas2 => (simp [intOf]; omega)); (case rel2 => ((repeat apply Exists.intro); exact ⟨⟨k + 1, by omega, by go_num, O3.out, K3⟩, rfl⟩)))
    · obtain rfl : k = 8 := by omega
      have OO := Lib.hid oo
      clear oo
      go_wp2
      go_ret
      exact ⟨_, rfl, OO.out, k1⟩
def statL (z : LdI) (s : Int) : Value := if s < 0 ∨ 7 < s then stV false 0 0 0 0 0 else match z.s s.toNat with | none => stV false 0 0 0 0 0 | some t => stV true t.id t.level 1 t.start t.ops
set_option maxRecDepth 100000 in
set_option maxHeartbeats 2000000 in
theorem status_any (h : LdAt w m K o z) (s : Int) : Calls Try.prog 30 #[.pointer (some ⟨m, 0, none⟩), .int .i64 s] w fun e w' => e = .returned (statL z s) ∧ Keep (fun _ => False) w w' := by
  obtain ⟨W, eW, rb, kW⟩ := st_box w
  have hW := h.quiet kW
  have ONW := Lib.hid (show ∀ g, o g ≠ 0 → g ≠ w.heap.size from fun g hg e => by have := h.lt g hg; omega)
  obtain ⟨N, eN⟩ : ∃ N, w.heap.size = N := ⟨_, rfl⟩
  rw [eN] at rb ONW
  have KW := Lib.hid kW
  have FIN := Lib.hid (fun (wz : World) (k : Keep (fun j => j = N) W wz) => (show Keep (fun _ => False) w wz from kW.older k (fun j e => by rw [e]; exact Nat.le_of_eq eN)))
  have RB := Lib.hid rb
  by_cases hb : s < 0 ∨ 7 < s
  · have S := issession_any s false (by symm; rw [decide_eq_false_iff_not]; omega) W
    have e1 : statL z s = stV false 0 0 0 0 0 := if_pos hb
    rw [e1]
    obtain ⟨r0, r1, r2, r3, r4, r5, r6, r7, r8, rfz⟩ := rb
    clear h hW kW e1 hb
    go_enter Try.func30, Try.ntmps30
    go_wp2_with fail
    refine S.mono ?_
    rintro e w1 ⟨rfl, rfl⟩
    clear S eW
    go_wp2
    (obtain ⟨W7, eW7⟩ : ∃ W7, (((((((((w1.setCell ⟨N, 0, none⟩ (.bool false)).setCell ⟨N, 1, none⟩ (.bool false)).setCell ⟨N, 2, none⟩ (.bool false)).setCell ⟨N, 3, none⟩ (.int .i64 (0))).setCell ⟨N, 4, none⟩ (.int .i64 (0))).setCell ⟨N, 5, none⟩ (.int .i64 (0))).setCell ⟨N, 6, none⟩ (.int .u64 (0))).setCell ⟨N, 7, none⟩ (.int .u64 0)).setCell ⟨N, 8, none⟩ (.int .i64 (0))) = W7 := ⟨_, rfl⟩; obtain ⟨⟨v0, v1, v2, v3, v4, v5, v6, v7, v8, _⟩, k7⟩ := st_set RB.out _ _ _ _ _ _ _ _ _ eW7; rw [eW7]; refine bodyPost_ret (v := stV false (0) (0) (0) (0) (0)) (by simp [stV, results, Try.results30, go_sem, v0, v1, v2, v3, v4, v5, v6, v7, v8]) rfl ⟨rfl, ?_⟩)
    exact FIN.out _ k7
  · obtain ⟨i, rfl⟩ : ∃ i : Nat, s = (i : Int) := ⟨s.toNat, by omega⟩
    have hi : i < 8 := by omega
    have hi2 : (i : Int) < 8 := by omega
    have S := issession_any i true (by symm; rw [decide_eq_true_iff]; omega) W
    have cs := hW.a.cs i hi
    have e1 : statL z i = match z.s i with | none => stV false 0 0 0 0 0 | some t => stV true t.id t.level 1 t.start t.ops := by unfold statL; rw [if_neg hb, Int.toNat_natCast]
    cases ht : z.s i with
    | none =>
      rw [ht] at cs e1
      dsimp only [Option.map, ptrO] at cs e1
      rw [e1]
      obtain ⟨r0, r1, r2, r3, r4, r5, r6, r7, r8, rfz⟩ := rb
      clear h hW kW e1 hb ht
      go_enter Try.func30, Try.ntmps30
      go_wp2_with fail
      refine S.mono ?_
      rintro e w1 ⟨rfl, rfl⟩
      clear S eW
      go_wp2
      (obtain ⟨W7, eW7⟩ : ∃ W7, (((((((((w1.setCell ⟨N, 0, none⟩ (.bool false)).setCell ⟨N, 1, none⟩ (.bool false)).setCell ⟨N, 2, none⟩ (.bool false)).setCell ⟨N, 3, none⟩ (.int .i64 (0))).setCell ⟨N, 4, none⟩ (.int .i64 (0))).setCell ⟨N, 5, none⟩ (.int .i64 (0))).setCell ⟨N, 6, none⟩ (.int .u64 (0))).setCell ⟨N, 7, none⟩ (.int .u64 0)).setCell ⟨N, 8, none⟩ (.int .i64 (0))) = W7 := ⟨_, rfl⟩; obtain ⟨⟨v0, v1, v2, v3, v4, v5, v6, v7, v8, _⟩, k7⟩ := st_set RB.out _ _ _ _ _ _ _ _ _ eW7; rw [eW7]; refine bodyPost_ret (v := stV false (0) (0) (0) (0) (0)) (by simp [stV, results, Try.results30, go_sem, v0, v1, v2, v3, v4, v5, v6, v7, v8]) rfl ⟨rfl, ?_⟩)
      exact FIN.out _ k7
    | some t =>
      rw [ht] at cs e1
      dsimp only [Option.map, ptrO] at cs e1
      rw [e1]
      have tt := hW.t i t hi ht
      have qe := fun w => (eql_nilT (w := w) (a := t.b)).1
      have T0 := Lib.hid tt
      obtain ⟨id', eid⟩ : ∃ x, t.id = x := ⟨_, rfl⟩
      obtain ⟨lv, elv⟩ : ∃ x, t.level = x := ⟨_, rfl⟩
      obtain ⟨st, est⟩ : ∃ x, t.start = x := ⟨_, rfl⟩
      obtain ⟨op, eop⟩ : ∃ x, t.ops = x := ⟨_, rfl⟩
      obtain ⟨t0, t1, t2, t3, _, _, _⟩ := tt
      rw [eid] at t0
      rw [elv] at t1
      rw [est] at t2
      rw [eop] at t3
      rw [eid, elv, est, eop]
      have nT : ¬ t.b = N := fun e => ONW.out t.b (by rw [(h.oT i t hi ht).1]; omega) e
      clear h hW kW e1 hb ht eid elv est eop
      go_enter Try.func30, Try.ntmps30
      go_wp2_with fail
      refine S.mono ?_
      rintro e w1 ⟨rfl, rfl⟩
      clear S eW
      go_wp2_with fail
      refine wp_region_held_drew (S := fun w' => w'.cell? ⟨t.b, 0, none⟩ = some (.int .i64 id') ∧ w'.cell? ⟨t.b, 1, none⟩ = some (.int .i64 lv) ∧ w'.cell? ⟨t.b, 2, none⟩ = some (.int .u64 st) ∧ w'.cell? ⟨t.b, 3, none⟩ = some (.int .i64 op)) (by kernel_rfl) ⟨t0, t1, t2, t3⟩ (fun hHeld => ?_)
      refine wpAnyH_take (i := 0) (v := ?qvu31) rfl (by kernel_rfl) (by kernel_rfl) (by kernel_rfl) (fun _ _ _ h => h) (Or.inl ⟨by rfl, ?qyu31⟩) (by assumption) ?qru31; case qyu31 => ((intro w hSw; (try dsimp only at hSw); go_simp); try (with_reducible rfl))
      ((try simp only [List.getElem_toArray]); (try simp only [List.getElem_cons_succ]); (try simp only [List.getElem_cons_zero]); (try simp only [Act.put]); (try simp only [List.setIfInBounds_toArray]); (try simp only [List.set_cons_succ]); (try simp only [List.set_cons_zero]))
      refine wpAnyH_take (i := 1) (v := ?qvu32) rfl (by kernel_rfl) (by kernel_rfl) (by kernel_rfl) (fun _ _ _ h => h) (Or.inl ⟨by rfl, ?qyu32⟩) (by assumption) ?qru32; case qyu32 => ((intro w hSw; (try dsimp only at hSw); go_simp); try (with_reducible rfl))
      ((try simp only [List.getElem_toArray]); (try simp only [List.getElem_cons_succ]); (try simp only [List.getElem_cons_zero]); (try simp only [Act.put]); (try simp only [List.setIfInBounds_toArray]); (try simp only [List.set_cons_succ]); (try simp only [List.set_cons_zero]))
      refine wpAnyH_take (i := 2) (v := ?qvu33) rfl (by kernel_rfl) (by kernel_rfl) (by kernel_rfl) (fun _ _ _ h => h) (Or.inl ⟨by rfl, ?qyu33⟩) (by assumption) ?qru33; case qyu33 => ((intro w hSw; (try dsimp only at hSw); go_simp); try (with_reducible rfl))
      ((try simp only [List.getElem_toArray]); (try simp only [List.getElem_cons_succ]); (try simp only [List.getElem_cons_zero]); (try simp only [Act.put]); (try simp only [List.setIfInBounds_toArray]); (try simp only [List.set_cons_succ]); (try simp only [List.set_cons_zero]))
      refine wpAnyH_take (i := 3) (v := ?qvu34) rfl (by kernel_rfl) (by kernel_rfl) (by kernel_rfl) (fun _ _ _ h => h) (Or.inl ⟨by rfl, ?qyu34⟩) (by assumption) ?qru34; case qyu34 => ((intro w hSw; (try dsimp only at hSw); go_simp); try (with_reducible rfl))
      ((try simp only [List.getElem_toArray]); (try simp only [List.getElem_cons_succ]); (try simp only [List.getElem_cons_zero]); (try simp only [Act.put]); (try simp only [List.setIfInBounds_toArray]); (try simp only [List.set_cons_succ]); (try simp only [List.set_cons_zero]))
      refine wpAnyH_take (i := 4) (v := ?qvu35) rfl (by kernel_rfl) (by kernel_rfl) (by kernel_rfl) (fun _ _ _ h => h) (Or.inl ⟨by rfl, ?qyu35⟩) (by assumption) ?qru35; case qyu35 => ((intro w hSw; (try dsimp only at hSw); go_simp); try (with_reducible rfl))
      ((try simp only [List.getElem_toArray]); (try simp only [List.getElem_cons_succ]); (try simp only [List.getElem_cons_zero]); (try simp only [Act.put]); (try simp only [List.setIfInBounds_toArray]); (try simp only [List.set_cons_succ]); (try simp only [List.set_cons_zero]))
      refine wpAnyH_take (i := 5) (v := ?qvu36) rfl (by kernel_rfl) (by kernel_rfl) (by kernel_rfl) (fun _ _ _ h => h) (Or.inl ⟨by rfl, ?qyu36⟩) (by assumption) ?qru36; case qyu36 => ((intro w hSw; (try dsimp only at hSw); go_simp); try (with_reducible rfl))
      ((try simp only [List.getElem_toArray]); (try simp only [List.getElem_cons_succ]); (try simp only [List.getElem_cons_zero]); (try simp only [Act.put]); (try simp only [List.setIfInBounds_toArray]); (try simp only [List.set_cons_succ]); (try simp only [List.set_cons_zero]))
      refine wpAnyH_take (i := 6) (v := ?qvu37) rfl (by kernel_rfl) (by kernel_rfl) (by kernel_rfl) (fun _ _ _ h => h) (Or.inl ⟨by rfl, ?qyu37⟩) (by assumption) ?qru37; case qyu37 => ((intro w hSw; (try dsimp only at hSw); go_simp); try (with_reducible rfl))
      ((try simp only [List.getElem_toArray]); (try simp only [List.getElem_cons_succ]); (try simp only [List.getElem_cons_zero]); (try simp only [Act.put]); (try simp only [List.setIfInBounds_toArray]); (try simp only [List.set_cons_succ]); (try simp only [List.set_cons_zero]))
      refine wpAnyH_take (i := 7) (v := ?qvu38) rfl (by kernel_rfl) (by kernel_rfl) (by kernel_rfl) (fun _ _ _ h => h) (Or.inl ⟨by rfl, ?qyu38⟩) (by assumption) ?qru38; case qyu38 => ((intro w hSw; (try dsimp only at hSw); go_simp); try (with_reducible rfl))
      ((try simp only [List.getElem_toArray]); (try simp only [List.getElem_cons_succ]); (try simp only [List.getElem_cons_zero]); (try simp only [Act.put]); (try simp only [List.setIfInBounds_toArray]); (try simp only [List.set_cons_succ]); (try simp only [List.set_cons_zero]))
      refine wpAnyH_take (i := 8) (v := ?qvu39) rfl (by kernel_rfl) (by kernel_rfl) (by kernel_rfl) (fun _ _ _ h => h) (Or.inl ⟨by rfl, ?qyu39⟩) (by assumption) ?qru39; case qyu39 => ((intro w hSw; (try dsimp only at hSw); go_simp); try (with_reducible rfl))
      ((try simp only [List.getElem_toArray]); (try simp only [List.getElem_cons_succ]); (try simp only [List.getElem_cons_zero]); (try simp only [Act.put]); (try simp only [List.setIfInBounds_toArray]); (try simp only [List.set_cons_succ]); (try simp only [List.set_cons_zero]))
      refine wpAnyH_take (i := 9) (v := ?qvu40) rfl (by kernel_rfl) (by kernel_rfl) (by kernel_rfl) (fun _ _ _ h => h) (Or.inl ⟨by rfl, ?qyu40⟩) (by assumption) ?qru40; case qyu40 => ((intro w hSw; (try dsimp only at hSw); go_simp); try (with_reducible rfl))
      ((try simp only [List.getElem_toArray]); (try simp only [List.getElem_cons_succ]); (try simp only [List.getElem_cons_zero]); (try simp only [Act.put]); (try simp only [List.setIfInBounds_toArray]); (try simp only [List.set_cons_succ]); (try simp only [List.set_cons_zero]))
      refine wpAnyH_take (i := 10) (v := ?qvu41) rfl (by kernel_rfl) (by kernel_rfl) (by kernel_rfl) (fun _ _ _ h => h) (Or.inl ⟨by rfl, ?qyu41⟩) (by assumption) ?qru41; case qyu41 => ((intro w hSw; (try dsimp only at hSw); go_simp); try (with_reducible rfl))
      ((try simp only [List.getElem_toArray]); (try simp only [List.getElem_cons_succ]); (try simp only [List.getElem_cons_zero]); (try simp only [Act.put]); (try simp only [List.setIfInBounds_toArray]); (try simp only [List.set_cons_succ]); (try simp only [List.set_cons_zero]))
      refine wpAnyH_take (i := 11) (v := ?qvu42) rfl (by kernel_rfl) (by kernel_rfl) (by kernel_rfl) (fun _ _ _ h => h) (Or.inl ⟨by rfl, ?qyu42⟩) (by assumption) ?qru42; case qyu42 => ((intro w hSw; (try dsimp only at hSw); go_simp); try (with_reducible rfl))
      ((try simp only [List.getElem_toArray]); (try simp only [List.getElem_cons_succ]); (try simp only [List.getElem_cons_zero]); (try simp only [Act.put]); (try simp only [List.setIfInBounds_toArray]); (try simp only [List.set_cons_succ]); (try simp only [List.set_cons_zero]))
      refine wpAnyH_take (i := 12) (v := ?qvu43) rfl (by kernel_rfl) (by kernel_rfl) (by kernel_rfl) (fun _ _ _ h => h) (Or.inl ⟨by rfl, ?qyu43⟩) (by assumption) ?qru43; case qyu43 => ((intro w hSw; (try dsimp only at hSw); go_simp); try (with_reducible rfl))
      ((try simp only [List.getElem_toArray]); (try simp only [List.getElem_cons_succ]); (try simp only [List.getElem_cons_zero]); (try simp only [Act.put]); (try simp only [List.setIfInBounds_toArray]); (try simp only [List.set_cons_succ]); (try simp only [List.set_cons_zero]))
      refine wpAnyH_take (i := 13) (v := ?qvu44) rfl (by kernel_rfl) (by kernel_rfl) (by kernel_rfl) (fun _ _ _ h => h) (Or.inl ⟨by rfl, ?qyu44⟩) (by assumption) ?qru44; case qyu44 => ((intro w hSw; (try dsimp only at hSw); go_simp); try (with_reducible rfl))
      ((try simp only [List.getElem_toArray]); (try simp only [List.getElem_cons_succ]); (try simp only [List.getElem_cons_zero]); (try simp only [Act.put]); (try simp only [List.setIfInBounds_toArray]); (try simp only [List.set_cons_succ]); (try simp only [List.set_cons_zero]))
      refine wpAnyH_take (i := 14) (v := ?qvu45) rfl (by kernel_rfl) (by kernel_rfl) (by kernel_rfl) (fun _ _ _ h => h) (Or.inl ⟨by rfl, ?qyu45⟩) (by assumption) ?qru45; case qyu45 => ((intro w hSw; (try dsimp only at hSw); go_simp); try (with_reducible rfl))
      ((try simp only [List.getElem_toArray]); (try simp only [List.getElem_cons_succ]); (try simp only [List.getElem_cons_zero]); (try simp only [Act.put]); (try simp only [List.setIfInBounds_toArray]); (try simp only [List.set_cons_succ]); (try simp only [List.set_cons_zero]))
      refine wpAnyH_take (i := 15) (v := ?qvu46) rfl (by kernel_rfl) (by kernel_rfl) (by kernel_rfl) (fun _ _ _ h => h) (Or.inl ⟨by rfl, ?qyu46⟩) (by assumption) ?qru46; case qyu46 => ((intro w hSw; (try dsimp only at hSw); go_simp); try (with_reducible rfl))
      ((try simp only [List.getElem_toArray]); (try simp only [List.getElem_cons_succ]); (try simp only [List.getElem_cons_zero]); (try simp only [Act.put]); (try simp only [List.setIfInBounds_toArray]); (try simp only [List.set_cons_succ]); (try simp only [List.set_cons_zero]))
      refine wpAnyH_take (i := 16) (v := ?qvu47) rfl (by kernel_rfl) (by kernel_rfl) (by kernel_rfl) (fun _ _ _ h => h) (Or.inl ⟨by rfl, ?qyu47⟩) (by assumption) ?qru47; case qyu47 => ((intro w hSw; (try dsimp only at hSw); go_simp); try (with_reducible rfl))
      ((try simp only [List.getElem_toArray]); (try simp only [List.getElem_cons_succ]); (try simp only [List.getElem_cons_zero]); (try simp only [Act.put]); (try simp only [List.setIfInBounds_toArray]); (try simp only [List.set_cons_succ]); (try simp only [List.set_cons_zero]))
      refine wpAnyH_ready (rs := [17]) (by kernel_rfl) (by simp) ?_
      refine AllReadyH.cons rfl (fun K hK => ?_) AllReadyH.nil
      go_simp
      obtain ⟨r0, r1, r2, r3, r4, r5, r6, r7, r8, rfz⟩ := RB.out
      go_simp
      obtain ⟨W7, eW7⟩ : ∃ W7, (((((((((w1.setCell ⟨N, 0, none⟩ (.bool true)).setCell ⟨N, 1, none⟩ (.bool false)).setCell ⟨N, 2, none⟩ (.bool false)).setCell ⟨N, 3, none⟩ (.int .i64 id')).setCell ⟨N, 4, none⟩ (.int .i64 lv)).setCell ⟨N, 5, none⟩ (.int .i64 1)).setCell ⟨N, 6, none⟩ (.int .u64 st)).setCell ⟨N, 7, none⟩ (.int .u64 0)).setCell ⟨N, 8, none⟩ (.int .i64 op)) = W7 := ⟨_, rfl⟩
      obtain ⟨⟨v0, v1, v2, v3, v4, v5, v6, v7, v8, _⟩, k7⟩ := st_set RB.out _ _ _ _ _ _ _ _ _ eW7
      rw [eW7]
      clear r0 r1 r2 r3 r4 r5 r6 r7 r8 rfz eW7
      refine hK.out _ _ ⟨k7.cell t0 nT, k7.cell t1 nT, k7.cell t2 nT, k7.cell t3 nT⟩ (fun hHeld => ?_)
      clear hK K
      ((try simp only [List.getElem_toArray]); (try simp only [List.getElem_cons_succ]); (try simp only [List.getElem_cons_zero]); (try simp only [Act.put]); (try simp only [List.setIfInBounds_toArray]); (try simp only [List.set_cons_succ]); (try simp only [List.set_cons_zero]))
      refine wpAnyH_done (by kernel_rfl) ?_ _
      go_wp2
      refine bodyPost_ret (v := stV true id' lv 1 st op) (by simp [stV, results, Try.results30, go_sem, v0, v1, v2, v3, v4, v5, v6, v7, v8]) rfl ⟨rfl, ?_⟩
      exact FIN.out _ (k7.trans ((Keep.refl _ _).drew))
end
end Go.Proofs.Ytkkjofefjepodaa
/- Package model as landed, in memory: New, Begin. Condition: times below 2^41. -/
namespace Go.Proofs.Ytkkjofefjepodaa
open Go.ChangeShapes Go.WideShapes Go.ChangeAt Go.RowKit
set_option linter.unusedVariables false
set_option linter.unusedSimpArgs false
section
variable {w w' w2 : World} {m g n c : Nat} {K : Nat → Value} {o : Nat → Nat} {z : LdI} {T : Nat → Prop} {F : Nat → FtI} {P : VeI → Bool} {t : TtI} {fv : Value} {l : List VeI}
theorem begin_arg (s level : Int) (hb : s < 0 ∨ 7 < s ∨ level < 1 ∨ 3 < level) (w : World) : Calls Try.prog 22 #[.pointer (some ⟨m, 0, none⟩), .int .i64 s, .int .i64 level] w fun e w' => e = .returned (.tuple #[.int .i64 0, .int .i64 1]) ∧ w' = w := by
 by_cases hs : s < 0 ∨ 7 < s
 ·have S := issession_any s false (by symm; rw [decide_eq_false_iff_not]; omega) w
  clear hb hs
  go_enter Try.func22, Try.ntmps22
  go_wp2_with fail
  refine S.mono ?_
  rintro e w1 ⟨rfl, rfl⟩
  clear S
  go_wp2
  refine bodyPost_ret (v := .tuple #[.int .i64 0, .int .i64 1]) (by simp [results, Try.results22, go_sem]) rfl ?_
  exact ⟨rfl, rfl⟩
 ·have S := issession_any s true (by symm; rw [decide_eq_true_iff]; omega) w
  by_cases h1 : level < 1
  ·have d1 : decide (level < 1) = true := decide_eq_true h1
   clear hb hs h1
   go_enter Try.func22, Try.ntmps22
   go_wp2_with fail
   refine S.mono ?_
   rintro e w1 ⟨rfl, rfl⟩
   clear S
   go_wp2
   refine bodyPost_ret (v := .tuple #[.int .i64 0, .int .i64 1]) (by simp [results, Try.results22, go_sem]) rfl ?_
   exact ⟨rfl, rfl⟩
  ·have d1 : decide (level < 1) = false := decide_eq_false h1
   have d3 : decide (3 < level) = true := by rw [decide_eq_true_iff]; omega
   clear hb hs h1
   go_enter Try.func22, Try.ntmps22
   go_wp2_with fail
   refine S.mono ?_
   rintro e w1 ⟨rfl, rfl⟩
   clear S
   go_wp2
   refine bodyPost_ret (v := .tuple #[.int .i64 0, .int .i64 1]) (by simp [results, Try.results22, go_sem]) rfl ?_
   exact ⟨rfl, rfl⟩
theorem begin_live (h : LdAt w m K o z) (i : Nat) (hi : i < 8) (level : Int) (hl : 1 ≤ level ∧ level ≤ 3) (ht : z.s i = some t) : Calls Try.prog 22 #[.pointer (some ⟨m, 0, none⟩), .int .i64 i, .int .i64 level] w fun e w' => e = .returned (.tuple #[.int .i64 0, .int .i64 9]) ∧ w' = w := by
 have S := issession_any i true (by symm; rw [decide_eq_true_iff]; omega) w; have d1 : decide (level < 1) = false := (by rw [decide_eq_false_iff_not]; omega); have d3 : decide (3 < level) = false := (by rw [decide_eq_false_iff_not]; omega); have cs := h.a.cs i hi; have c3 := h.a.c3; have hi2 : (i : Int) < 8 := (by omega)
 rw [ht] at cs
 dsimp only [Option.map, ptrO] at cs
 have qe := (eql_nilT (w := w) (a := t.b)).2
 clear h hl ht
 go_enter Try.func22, Try.ntmps22; go_wp2_with fail; refine S.mono ?_; rintro e w1 ⟨rfl, rfl⟩; clear S
 go_wp2
 refine bodyPost_ret (v := .tuple #[.int .i64 0, .int .i64 9]) (by simp [results, Try.results22, go_sem]) rfl ?_
 exact ⟨rfl, rfl⟩
theorem begin_many (h : LdAt w m K o z) (i : Nat) (hi : i < 8) (level : Int) (hl : 1 ≤ level ∧ level ≤ 3) (ht : z.s i = none) (hm : z.begun = 2000) : Calls Try.prog 22 #[.pointer (some ⟨m, 0, none⟩), .int .i64 i, .int .i64 level] w fun e w' => e = .returned (.tuple #[.int .i64 0, .int .i64 65]) ∧ w' = w := by
 have S := issession_any i true (by symm; rw [decide_eq_true_iff]; omega) w; have d1 : decide (level < 1) = false := (by rw [decide_eq_false_iff_not]; omega); have d3 : decide (3 < level) = false := (by rw [decide_eq_false_iff_not]; omega); have cs := h.a.cs i hi; have c3 := h.a.c3; have hi2 : (i : Int) < 8 := (by omega)
 rw [ht] at cs
 rw [hm] at c3
 dsimp only [Option.map, ptrO] at cs
 clear h hl ht hm
 go_enter Try.func22, Try.ntmps22; go_wp2_with fail; refine S.mono ?_; rintro e w1 ⟨rfl, rfl⟩; clear S
 go_wp2
 refine bodyPost_ret (v := .tuple #[.int .i64 0, .int .i64 65]) (by simp [results, Try.results22, go_sem]) rfl ?_
 exact ⟨rfl, rfl⟩
theorem begin_late (h : LdAt w m K o z) (i : Nat) (hi : i < 8) (level : Int) (hl : 1 ≤ level ∧ level ≤ 3) (ht : z.s i = none) (hm : z.begun ≠ 2000) (hc : z.limit = z.clock) : Calls Try.prog 22 #[.pointer (some ⟨m, 0, none⟩), .int .i64 i, .int .i64 level] w fun e w' => e = .returned (.tuple #[.int .i64 0, .int .i64 16]) ∧ Keep (fun _ => False) w w' := by
 have S := issession_any i true (by symm; rw [decide_eq_true_iff]; omega) w; have d1 : decide (level < 1) = false := (by rw [decide_eq_false_iff_not]; omega); have d3 : decide (3 < level) = false := (by rw [decide_eq_false_iff_not]; omega); have cs := h.a.cs i hi; have c3 := h.a.c3; have hi2 : (i : Int) < 8 := (by omega)
 have D := draw_no h hc
 rw [ht] at cs
 obtain ⟨bg, ebg⟩ : ∃ bg, z.begun = bg := ⟨_, rfl⟩
 rw [ebg] at c3 hm
 have dm : (bg == 2000) = false := by simpa using hm
 dsimp only [Option.map, ptrO] at cs
 clear h hl ht hm hc ebg
 go_enter Try.func22, Try.ntmps22; go_wp2_with fail; refine S.mono ?_; rintro e w1 ⟨rfl, rfl⟩; clear S
 go_wp2_with fail
 refine D.mono ?_
 rintro e w2 ⟨rfl, k2⟩
 clear D
 go_wp2
 refine bodyPost_ret (v := .tuple #[.int .i64 0, .int .i64 16]) (by simp [results, Try.results22, go_sem]) rfl ?_
 exact ⟨rfl, k2⟩
set_option maxRecDepth 100000 in
set_option maxHeartbeats 2000000 in
theorem begin_ok (h : LdAt w m K o z) (i : Nat) (hi : i < 8) (level : Int) (hl : 1 ≤ level ∧ level ≤ 3) (ht : z.s i = none) (hm : z.begun ≠ 2000) (hb : 0 ≤ z.begun ∧ z.begun ≤ 2000) (hc : z.limit ≠ z.clock) (h0 : 0 ≤ z.clock) (h1 : z.clock ≤ z.limit) (h2 : z.limit ≤ 1099511627776) : Calls Try.prog 22 #[.pointer (some ⟨m, 0, none⟩), .int .i64 i, .int .i64 level] w (BegP w m K o z i level) := by
 have S := issession_any i true (by symm; rw [decide_eq_true_iff]; omega) w; have d1 : decide (level < 1) = false := (by rw [decide_eq_false_iff_not]; omega); have d3 : decide (3 < level) = false := (by rw [decide_eq_false_iff_not]; omega); have cs := h.a.cs i hi; have c3 := h.a.c3; have hi2 : (i : Int) < 8 := (by omega)
 have D := draw_yes h hc h0 h1 h2
 rw [ht] at cs
 have OM := Lib.hid h.om
 obtain ⟨bg, ebg⟩ : ∃ bg, z.begun = bg := ⟨_, rfl⟩
 obtain ⟨cl, ecl⟩ : ∃ cl, z.clock + 1 = cl := ⟨_, rfl⟩
 obtain ⟨b1, eb1⟩ : ∃ b1, bg + 1 = b1 := ⟨_, rfl⟩
 rw [ebg] at c3 hm hb
 rw [ecl] at D
 have dm : (bg == 2000) = false := by simpa using hm
 have wb : IntKind.i64.wrap (bg + 1) = b1 := by rw [← eb1]; exact IntWalk.i64_in _ (by omega)
 have EBG := Lib.hid ebg
 have ECL := Lib.hid ecl
 have EB1 := Lib.hid eb1
 dsimp only [Option.map, ptrO] at cs
 unfold BegP
 rw [ebg, eb1]
 clear h hl ht hm hc ebg ecl eb1 h0 h1 h2 hb
 go_enter Try.func22, Try.ntmps22; go_wp2_with fail; refine S.mono ?_; rintro e w1 ⟨rfl, rfl⟩; clear S
 go_wp2_with fail
 refine D.mono ?_
 rintro e w2 ⟨rfl, a2, k2⟩
 clear D c3 cs
 have f3 := a2.a.fz 3
 have c3 : w2.cell? ⟨m, 3, none⟩ = some (.int .i64 bg) := by rw [← EBG.out]; exact a2.a.c3
 have a3 := a2.begun b1
 obtain ⟨w3, e3⟩ : ∃ w3, w2.setCell ⟨m, 3, none⟩ (.int .i64 b1) = w3 := ⟨_, rfl⟩
 have k3 := keep_one w2 ⟨m, 3, none⟩ (.int .i64 b1)
 rw [e3] at a3 k3
 have K3 : Keep (fun g => o g ≠ 0) w1 w3 := (k2.mono fun g e => by have e : g = m := e; rw [e, OM.out]; decide).trans (k3.mono fun g e => by have e : g = m := e; rw [e, OM.out]; decide)
 have cb : w3.cell? ⟨m, 3, none⟩ = some (.int .i64 b1) := a3.a.c3
 have ad := a3.quiet ((Keep.refl (fun _ => False) w3).drew)
 have N := newTxn_any b1 level cl w3.drew
 have COR := Lib.hid fun (tb tf : Nat) (wx : World) => begin_core (z0 := z) (w0 := w1) (w2 := wx) (tb := tb) (tf := tf) ad hi level (K3.drew) (by rw [EBG.out, EB1.out, ECL.out])
 clear a2 k2 a3 k3 ad K3
 go_wp2_with fail
 refine wp_region_held_drew (S := fun w' => w'.cell? ⟨m, 3, none⟩ = some (.int .i64 b1)) (by kernel_rfl) cb (fun hHeld => ?_)
 refine wpAnyH_take (i := 0) (v := ?qvu48) rfl (by kernel_rfl) (by kernel_rfl) (by kernel_rfl) (fun _ _ _ h => h) (Or.inl ⟨by rfl, ?qyu48⟩) (by assumption) ?qru48; case qyu48 => ((intro w hSw; (try dsimp only at hSw); go_simp); try (with_reducible rfl))
 ((try simp only [List.getElem_toArray]); (try simp only [List.getElem_cons_succ]); (try simp only [List.getElem_cons_zero]); (try simp only [Act.put]); (try simp only [List.setIfInBounds_toArray]); (try simp only [List.set_cons_succ]); (try simp only [List.set_cons_zero]))
 refine wpAnyH_take (i := 1) (v := ?qvu49) rfl (by kernel_rfl) (by kernel_rfl) (by kernel_rfl) (fun _ _ _ h => h) (Or.inl ⟨by rfl, ?qyu49⟩) (by assumption) ?qru49; case qyu49 => ((intro w hSw; (try dsimp only at hSw); go_simp); try (with_reducible rfl))
 ((try simp only [List.getElem_toArray]); (try simp only [List.getElem_cons_succ]); (try simp only [List.getElem_cons_zero]); (try simp only [Act.put]); (try simp only [List.setIfInBounds_toArray]); (try simp only [List.set_cons_succ]); (try simp only [List.set_cons_zero]))
 refine wpAnyH_take (i := 2) (v := ?qvu50) rfl (by kernel_rfl) (by kernel_rfl) (by kernel_rfl) (fun _ _ _ h => h) (Or.inl ⟨by rfl, ?qyu50⟩) (by assumption) ?qru50; case qyu50 => ((intro w hSw; (try dsimp only at hSw); go_simp); try (with_reducible rfl))
 ((try simp only [List.getElem_toArray]); (try simp only [List.getElem_cons_succ]); (try simp only [List.getElem_cons_zero]); (try simp only [Act.put]); (try simp only [List.setIfInBounds_toArray]); (try simp only [List.set_cons_succ]); (try simp only [List.set_cons_zero]))
 refine wpAnyH_take (i := 3) (v := ?qvu51) rfl (by kernel_rfl) (by kernel_rfl) (by kernel_rfl) (fun _ _ _ h => h) (Or.inl ⟨by rfl, ?qyu51⟩) (by assumption) ?qru51; case qyu51 => ((intro w hSw; (try dsimp only at hSw); go_simp); try (with_reducible rfl))
 ((try simp only [List.getElem_toArray]); (try simp only [List.getElem_cons_succ]); (try simp only [List.getElem_cons_zero]); (try simp only [Act.put]); (try simp only [List.setIfInBounds_toArray]); (try simp only [List.set_cons_succ]); (try simp only [List.set_cons_zero]))
 refine wpAnyH_take (i := 4) (v := ?qvu52) rfl (by kernel_rfl) (by kernel_rfl) (by kernel_rfl) (fun _ _ _ h => h) (Or.inl ⟨by rfl, ?qyu52⟩) (by assumption) ?qru52; case qyu52 => ((intro w hSw; (try dsimp only at hSw); go_simp); try (with_reducible rfl))
 ((try simp only [List.getElem_toArray]); (try simp only [List.getElem_cons_succ]); (try simp only [List.getElem_cons_zero]); (try simp only [Act.put]); (try simp only [List.setIfInBounds_toArray]); (try simp only [List.set_cons_succ]); (try simp only [List.set_cons_zero]))
 refine wpAnyH_take (i := 5) (v := ?qvu53) rfl (by kernel_rfl) (by kernel_rfl) (by kernel_rfl) (fun _ _ _ h => h) (Or.inl ⟨by rfl, ?qyu53⟩) (by assumption) ?qru53; case qyu53 => ((intro w hSw; (try dsimp only at hSw); go_simp); try (with_reducible rfl))
 ((try simp only [List.getElem_toArray]); (try simp only [List.getElem_cons_succ]); (try simp only [List.getElem_cons_zero]); (try simp only [Act.put]); (try simp only [List.setIfInBounds_toArray]); (try simp only [List.set_cons_succ]); (try simp only [List.set_cons_zero]))
 refine wpAnyH_take (i := 6) (v := ?qvu54) rfl (by kernel_rfl) (by kernel_rfl) (by kernel_rfl) (fun _ _ _ h => h) (Or.inl ⟨by rfl, ?qyu54⟩) (by assumption) ?qru54; case qyu54 => ((intro w hSw; (try dsimp only at hSw); go_simp); try (with_reducible rfl))
 ((try simp only [List.getElem_toArray]); (try simp only [List.getElem_cons_succ]); (try simp only [List.getElem_cons_zero]); (try simp only [Act.put]); (try simp only [List.setIfInBounds_toArray]); (try simp only [List.set_cons_succ]); (try simp only [List.set_cons_zero]))
 refine wpAnyH_take (i := 7) (v := ?qvu55) rfl (by kernel_rfl) (by kernel_rfl) (by kernel_rfl) (fun _ _ _ h => h) (Or.inl ⟨by rfl, ?qyu55⟩) (by assumption) ?qru55; case qyu55 => ((intro w hSw; (try dsimp only at hSw); go_simp); try (with_reducible rfl))
 ((try simp only [List.getElem_toArray]); (try simp only [List.getElem_cons_succ]); (try simp only [List.getElem_cons_zero]); (try simp only [Act.put]); (try simp only [List.setIfInBounds_toArray]); (try simp only [List.set_cons_succ]); (try simp only [List.set_cons_zero]))
 refine wpAnyH_take (i := 9) (v := ?qvu56) rfl (by kernel_rfl) (by kernel_rfl) (by kernel_rfl) (fun _ _ _ h => h) (Or.inl ⟨by rfl, ?qyu56⟩) (by assumption) ?qru56; case qyu56 => ((intro w hSw; (try dsimp only at hSw); go_simp); try (with_reducible rfl))
 ((try simp only [List.getElem_toArray]); (try simp only [List.getElem_cons_succ]); (try simp only [List.getElem_cons_zero]); (try simp only [Act.put]); (try simp only [List.setIfInBounds_toArray]); (try simp only [List.set_cons_succ]); (try simp only [List.set_cons_zero]))
 refine wpAnyH_take (i := 10) (v := ?qvu57) rfl (by kernel_rfl) (by kernel_rfl) (by kernel_rfl) (fun _ _ _ h => h) (Or.inl ⟨by rfl, ?qyu57⟩) (by assumption) ?qru57; case qyu57 => ((intro w hSw; (try dsimp only at hSw); go_simp); try (with_reducible rfl))
 ((try simp only [List.getElem_toArray]); (try simp only [List.getElem_cons_succ]); (try simp only [List.getElem_cons_zero]); (try simp only [Act.put]); (try simp only [List.setIfInBounds_toArray]); (try simp only [List.set_cons_succ]); (try simp only [List.set_cons_zero]))
 refine wpAnyH_ready (rs := [8]) (by kernel_rfl) (by simp) ?_
 refine AllReadyH.cons rfl (fun K hK => ?_) AllReadyH.nil
 go_simp
 refine N.mono ?_
 rintro e wx ⟨tb, tf, rfl, n1, n2, n3, nT, nF, nk, _, _, _⟩
 obtain ⟨w4, e4, c4o, ⟨us, cs4⟩, fs4, z1, z2, o', a5, k5, n5⟩ := COR.out tb tf wx nk n1 n2 n3 (by rw [EBG.out, EB1.out, ECL.out]; exact nT) nF
 have A5 := Lib.hid a5
 have K5 := Lib.hid k5
 have N5 := Lib.hid n5
 have c4 : w4.cell? ⟨m, 3, none⟩ = some (.int .i64 b1) := (by rw [c4o, EBG.out, EB1.out])
 clear c4o
 have c4x := nk.cell (show w3.drew.cell? ⟨m, 3, none⟩ = some (.int .i64 b1) from cb) id
 clear N nT nF a5 k5 n5
 refine hK.out _ _ c4x (fun hHeld => ?_)
 clear hK K
 ((try simp only [List.getElem_toArray]); (try simp only [List.getElem_cons_succ]); (try simp only [List.getElem_cons_zero]); (try simp only [Act.put]); (try simp only [List.setIfInBounds_toArray]); (try simp only [List.set_cons_succ]); (try simp only [List.set_cons_zero]))
 refine wpAnyH_take (i := 11) (v := ?qvu58) rfl (by kernel_rfl) (by kernel_rfl) (by kernel_rfl) (fun _ _ _ h => h) (Or.inl ⟨by rfl, ?qyu58⟩) (by assumption) ?qru58; case qyu58 => ((intro w hSw; (try dsimp only at hSw); go_simp); try (with_reducible rfl))
 ((try simp only [List.getElem_toArray]); (try simp only [List.getElem_cons_succ]); (try simp only [List.getElem_cons_zero]); (try simp only [Act.put]); (try simp only [List.setIfInBounds_toArray]); (try simp only [List.set_cons_succ]); (try simp only [List.set_cons_zero]))
 refine wpAnyH_ready (rs := [12]) (by kernel_rfl) (by simp) ?_
 refine AllReadyH.cons rfl (fun K hK => ?_) AllReadyH.nil
 go_simp
 go_simp
 refine hK.out _ _ c4 (fun hHeld => ?_)
 clear hK K
 ((try simp only [List.getElem_toArray]); (try simp only [List.getElem_cons_succ]); (try simp only [List.getElem_cons_zero]); (try simp only [Act.put]); (try simp only [List.setIfInBounds_toArray]); (try simp only [List.set_cons_succ]); (try simp only [List.set_cons_zero]))
 refine wpAnyH_done (by kernel_rfl) ?_ _
 go_wp2
 refine bodyPost_ret (v := .tuple #[.int .i64 b1, .int .i64 0]) (by simp [results, Try.results22, go_sem]) rfl ?_
 exact ⟨rfl, tb, tf, o', z1, z2, A5.out, K5.out, N5.out⟩
end
end Go.Proofs.Ytkkjofefjepodaa
/- Package model as landed, its laws' face: the contracts over a Model in plain lists. Condition: numbers that fit. -/
namespace Go.Proofs.Ytkkjofefjepodaa
open Go.ChangeShapes Go.WideShapes Go.ChangeAt Go.RowKit
set_option linter.unusedVariables false
set_option linter.unusedSimpArgs false

def I64 (x : Int) : Prop := -9223372036854775808 ≤ x ∧ x ≤ 9223372036854775807
/-- A call's numbers fit. -/
structure OpB (o : OpI) : Prop where
 a : I64 o.kind
 b : I64 o.key
 c : I64 o.hi
 d : I64 o.val
/-- Since W a Model m has been made, in new blocks S; it is x; nothing of W has turned. -/
structure Md (W w : World) (m : Nat) (S : Nat → Prop) (x : MoI) : Prop where
 gd : Good x
 g : ∀ k, S k → W.heap.size ≤ k
 lt : ∀ k, S k → k < w.heap.size
 b : Below W.heap.size W w
 ld : ∃ K o z, LdAt w m K o z ∧ Lr z x ∧ ∀ k, o k ≠ 0 ↔ S k
section
variable {W w w' : World} {m : Nat} {S S' T : Nat → Prop} {x y : MoI} {K : Nat → Value} {o : Nat → Nat} {z : LdI}
theorem Md.own (h : Md W w m S x) {X : Nat → Prop} (kk : Keep X w w') (hX : ∀ g, X g → ¬ S g ∧ W.heap.size ≤ g) : Md W w' m S x := by
 obtain ⟨K, o, z, a, l, e⟩ := h.ld
 exact ⟨h.gd, h.g, fun x hx => Nat.lt_of_lt_of_le (h.lt x hx) kk.size, h.b.trans (kk.below h.b.size (fun g hg => (hX g hg).2)), K, o, z, a.keep kk (fun g hg c => (hX g c).1 ((e g).1 hg)), l, e⟩
theorem Md.quiet (h : Md W w m S x) (kk : Keep (fun _ => False) w w') : Md W w' m S x := h.own kk (fun g hg => hg.elim)
/-- A call that leaves a Model, and nothing else. -/
def MdPost (W w : World) (m : Nat) (S : Nat → Prop) (v : Value) (y : MoI) (e : Ending) (w' : World) : Prop := e = .returned v ∧ ∃ S', Md W w' m S' y ∧ VKeep S S' w w'
/-- A call that leaves a Model, and tells a slice of its own. -/
def MdTold (W w : World) (m : Nat) (S : Nat → Prop) (v : Value → Value) (P : World → Value → Prop) (y : MoI) (e : Ending) (w' : World) : Prop :=
 ∃ u S', e = .returned (v u) ∧ P w' u ∧ (∀ g, u.ownBlock = some g → w.heap.size ≤ g ∧ ¬ S' g) ∧ Md W w' m S' y ∧ VKeep S S' w w'
/-- What a call leaves, out of its cells. -/
theorem Md.step (h : Md W w m S x) (e : ∀ k, o k ≠ 0 ↔ S k) {K' : Nat → Value} {o' : Nat → Nat} {z' : LdI} (gd : Good y) (a : LdAt w' m K' o' z') (l : Lr z' y) (k : Keep (fun g => o g ≠ 0) w w') (n : ∀ g, o' g ≠ 0 → o g ≠ 0 ∨ w.heap.size ≤ g) :
  Md W w' m (fun g => o' g ≠ 0) y ∧ VKeep S (fun g => o' g ≠ 0) w w' := by
 have ks : Keep S w w' := k.mono fun g hg => (e g).1 hg
 have ns : ∀ g, o' g ≠ 0 → S g ∨ w.heap.size ≤ g := fun g hg => (n g hg).imp (e g).1 id
 refine ⟨⟨gd, fun g hg => ?_, fun g hg => a.lt g hg, h.b.trans (ks.below h.b.size h.g), K', o', z', a, l, fun _ => Iff.rfl⟩, ks, ns⟩
 rcases ns g hg with q | q
 ·exact h.g g q
 ·exact Nat.le_trans h.b.size q
theorem Md.stay (h : Md W w m S x) (k : Keep (fun _ => False) w w') : Md W w' m S x ∧ VKeep S S w w' := ⟨h.quiet k, k.mono fun _ e => e.elim, fun _ hk => .inl hk⟩
theorem lr_len (g : Good x) (l : Lr z x) : (∀ k, k < 64 → (z.k k).length ≤ 99999) ∧ usedL z 64 = x.v.length ∧ usedL z 64 ≤ 100000 := by
 obtain ⟨L, io, h⟩ := l
 have u := h.used
 have hl := g.len
 have hc := g.conf
 have e : usedL z 64 = x.v.length := u
 refine ⟨fun k hk => ?_, e, by omega⟩
 have := usedL_le z (show k + 1 ≤ 64 from hk)
 rw [usedL_succ] at this
 omega
theorem md_new (w : World) (slots limit : Int) (hs : I64 slots) (hl : U64 limit) (h : confI slots limit = true) : Calls Try.prog 25 #[cfV slots limit] w fun e w' => ∃ m S, e = .returned (.tuple #[.pointer (some ⟨m, 0, none⟩), .int .i64 0]) ∧ Md w w' m S (new0 slots limit) := by
 refine (new_yes slots limit h w).mono ?_
 rintro e w' ⟨m, o, rfl, hm, a, hg, k⟩
 exact ⟨m, fun g => o g ≠ 0, rfl, good_new h, fun g q => by rw [hg g q]; exact hm, fun g q => a.lt g q, (Below.refl _ w).trans (k.below (Nat.le_refl _) fun _ e => e.elim), _, o, _, a, lr_new _ _ _, fun _ => Iff.rfl⟩
theorem md_none (w : World) (slots limit : Int) (hs : I64 slots) (hl : U64 limit) (h : confI slots limit = false) : Calls Try.prog 25 #[cfV slots limit] w fun e w' => e = .returned (.tuple #[.pointer none, .int .i64 1]) ∧ Below w.heap.size w w' := by
 refine (new_no slots limit h w).mono ?_
 rintro e w' ⟨rfl, k⟩
 exact ⟨rfl, (Below.refl _ w).trans (k.below (Nat.le_refl _) fun _ e => e.elim)⟩
theorem md_begin (h : Md W w m S x) (s level : Int) (hs : I64 s) (hl : I64 level) (n e0 : Int) (y : MoI) (hn : x.begN s level = n) (he : x.begE s level = e0) (hy : x.beg s level = y) :
  Calls Try.prog 22 #[.pointer (some ⟨m, 0, none⟩), .int .i64 s, .int .i64 level] w (MdPost W w m S (.tuple #[.int .i64 n, .int .i64 e0]) y) := by
 subst hn; subst he; subst hy
 obtain ⟨K, o, z, a, ⟨L, io, l⟩, e⟩ := h.ld
 have no : ∀ c : Int, x.begE s level = c → c ≠ 0 → x.begN s level = 0 ∧ x.beg s level = x := fun c hc h0 => by
  unfold MoI.begN MoI.beg
  rw [if_neg (by rw [hc]; exact h0), if_neg (by rw [hc]; exact h0)]
  exact ⟨rfl, rfl⟩
 have c1 := l.c1
 have c2 := l.c2
 have c3 := l.c3
 have c4 := l.c4
 have mm := h.gd.made
 have tt := h.gd.time
 have cf := h.gd.conf
 by_cases hb : s < 0 ∨ 7 < s ∨ level < 1 ∨ 3 < level
 ·have e1 : x.begE s level = 1 := by unfold MoI.begE; rw [if_pos hb]
  obtain ⟨n1, n2⟩ := no 1 e1 (by decide)
  rw [e1, n1, n2]
  refine (begin_arg s level hb w).mono ?_
  rintro e2 w' ⟨rfl, rfl⟩
  exact ⟨rfl, S, h.stay (Keep.refl _ _)⟩
 ·obtain ⟨i, rfl⟩ : ∃ i : Nat, s = (i : Int) := ⟨s.toNat, by omega⟩
  have i8 : i < 8 := by omega
  have lv : 1 ≤ level ∧ level ≤ 3 := by omega
  by_cases hid : (x.s i).id = 0
  ·have zn := (l.ses0 i8).2 hid
   by_cases hm : 2000 ≤ x.made
   ·have e1 : x.begE i level = 65 := by unfold MoI.begE; rw [if_neg hb, Int.toNat_natCast, if_neg (fun c => c hid), if_pos hm]
    obtain ⟨n1, n2⟩ := no 65 e1 (by decide)
    rw [e1, n1, n2]
    refine (begin_many a i i8 level lv zn (by omega)).mono ?_
    rintro e2 w' ⟨rfl, rfl⟩
    exact ⟨rfl, S, h.stay (Keep.refl _ _)⟩
   ·by_cases ht : x.limit ≤ x.time
    ·have e1 : x.begE i level = 16 := by unfold MoI.begE; rw [if_neg hb, Int.toNat_natCast, if_neg (fun c => c hid), if_neg hm, if_pos ht]
     obtain ⟨n1, n2⟩ := no 16 e1 (by decide)
     rw [e1, n1, n2]
     refine (begin_late a i i8 level lv zn (by omega) (by omega)).mono ?_
     rintro e2 w' ⟨rfl, k⟩
     exact ⟨rfl, S, h.stay k⟩
    ·have e1 : x.begE i level = 0 := by unfold MoI.begE; rw [if_neg hb, Int.toNat_natCast, if_neg (fun c => c hid), if_neg hm, if_neg ht]
     have gb := good_beg h.gd i level
     have n1 : x.begN i level = z.begun + 1 := by unfold MoI.begN; rw [if_pos e1, c4]
     have n2 : x.beg i level = { x with time := x.time + 1, made := x.made + 1, s := putS x.s i ⟨x.made + 1, level, 0, x.time + 1, [], []⟩ } := by unfold MoI.beg; rw [if_pos e1, Int.toNat_natCast]
     rw [n2] at gb
     rw [e1, n1, n2]
     refine (begin_ok a i i8 level lv zn (by omega) (by omega) (by omega) (by omega) (by omega) (by omega)).mono ?_
     rintro e2 w' ⟨rfl, tb, tf, o', ob, of, a2, k2, n3⟩
     have lab : ∀ p ∈ L, o p.2.mr = 81 ∧ ∀ d, p.2.en = some d → o d = 81 := fun p hp => by
      have p64 := l.lt p hp
      have : p.2 ∈ z.k p.1 := by rw [l.k p.1 p64]; exact List.mem_map.2 ⟨p, List.mem_filter.2 ⟨hp, decide_eq_true rfl⟩, rfl⟩
      exact (a.oV p.1 p.2 p64 this).2
     have bl := l.beg h.gd i8 zn ⟨tb, z.begun + 1, level, z.clock + 1, 0, fun _ => false, tf⟩ rfl rfl (fun _ => rfl) (fun p hp => ⟨fun c => absurd ((congrArg o c).symm.trans (lab p hp).1) (by rw [of]; decide), fun c => absurd ((lab p hp).2 _ c) (by rw [of]; decide)⟩) (fun j u hj hu c => absurd ((congrArg o c).symm.trans (a.oT j u hj hu).2) (by rw [of]; decide)) 0
     rw [c3, c4] at gb ⊢
     exact ⟨rfl, _, h.step e gb a2 ⟨_, _, bl⟩ k2 n3⟩
  ·obtain ⟨t, ht⟩ := l.sess i8 hid
   have e1 : x.begE i level = 9 := by unfold MoI.begE; rw [if_neg hb, Int.toNat_natCast, if_pos hid]
   obtain ⟨n1, n2⟩ := no 9 e1 (by decide)
   rw [e1, n1, n2]
   refine (begin_live a i i8 level lv ht).mono ?_
   rintro e2 w' ⟨rfl, rfl⟩
   exact ⟨rfl, S, h.stay (Keep.refl _ _)⟩
theorem lowN_eq {L : List (Nat × VeI)} {io : Nat → Int} (h : LrL L io z x) : lowN z 8 = lowL x := by
  have key : ∀ n, n ≤ 8 → lowN z n = (List.range n).foldl (fun a i => if (x.s i).id ≠ 0 then min a (x.s i).start else a) 18446744073709551615 := fun n => by
    induction n with
    | zero => intro _; rfl
    | succ n ih =>
      intro hn
      rw [lowN_succ, List.range_succ, List.foldl_append, List.foldl_cons, List.foldl_nil, ih (by omega)]
      cases ht : z.s n with
      | none =>
        have := (h.ses0 (show n < 8 by omega)).1 ht
        rw [if_neg (fun c => c this)]
      | some t =>
        have ts := h.ts n t (by omega) ht
        rw [if_pos (by rw [ts.id]; exact ts.nz), ts.start]
  exact key 8 (Nat.le_refl _)
theorem md_collect (h : Md W w m S x) (n : Int) (y : MoI) (hn : x.collected = n) (hy : x.collect = y) :
  Calls Try.prog 21 #[.pointer (some ⟨m, 0, none⟩)] w (MdPost W w m S (.int .i64 n) y) := by
 subst hn; subst hy
 obtain ⟨K, o, z, a, ⟨L, io, l⟩, e⟩ := h.ld
 obtain ⟨_, u1, u2⟩ := lr_len h.gd ⟨L, io, l⟩
 have tt := h.gd.time
 have cf := h.gd.conf
 have ub : ∀ i t, i < 8 → z.s i = some t → U64 t.start := fun i t hi ht => by
  have ts := l.ts i t hi ht
  have := (h.gd.ses i hi).lv (by rw [ts.id]; exact ts.nz)
  rw [ts.start] at this
  exact ⟨by omega, by omega⟩
 have lo := lowN_eq l
 have lc := l.collect h.gd
 have ec : sweptL z (lowN z 8) 64 = { z with k := fun k => if k < 64 then (z.k k).filter fun v => !garbV z.F (lowL x) v else z.k k } := by unfold sweptL; rw [lo]
 have lc2 : LrL (L.filter fun p => !garbV z.F (lowL x) p.2) io (sweptL z (lowN z 8) 64) x.collect := by
  rw [ec]
  exact ⟨lc.c1, lc.c2, lc.c3, lc.c4, lc.v, fun k hk => by show (if k < 64 then _ else _) = _; rw [if_pos hk]; exact lc.k k hk, lc.lt, lc.nd, lc.mu, lc.en, lc.no, lc.ts⟩
 have gc := good_collect h.gd
 have u3 : usedL (sweptL z (lowN z 8) 64) 64 = x.collect.v.length := lc2.used
 refine (collect_any a u2 ub).mono ?_
 rintro e2 w' ⟨rfl, K', a2, k2⟩
 refine ⟨?_, _, h.step e gc a2 ⟨_, _, lc2⟩ k2 fun g hg => .inl hg⟩
 rw [u1, u3]
 rfl
theorem md_used (h : Md W w m S x) (n : Int) (hn : (x.v.length : Int) = n) :
  Calls Try.prog 26 #[.pointer (some ⟨m, 0, none⟩)] w (MdPost W w m S (.int .i64 n) x) := by
 subst hn
 obtain ⟨K, o, z, a, l, e⟩ := h.ld
 obtain ⟨_, u1, u2⟩ := lr_len h.gd l
 refine (used_any a u2).mono ?_
 rintro e2 w' ⟨rfl, k⟩
 exact ⟨by rw [u1], S, h.stay k⟩
theorem md_now (h : Md W w m S x) (t : Int) (ht : x.time = t) :
  Calls Try.prog 29 #[.pointer (some ⟨m, 0, none⟩)] w (MdPost W w m S (.int .u64 t) x) := by
 subst ht
 obtain ⟨K, o, z, a, ⟨L, io, l⟩, e⟩ := h.ld
 refine (now_any a).mono ?_
 rintro e2 w' ⟨rfl, rfl⟩
 exact ⟨by rw [l.c3], S, h.stay (Keep.refl _ _)⟩
theorem md_pairs (h : Md W w m S x) (at' : Int) (ha : U64 at') (l : List (Int × Int)) (hl : x.pairs at' = l) :
  Calls Try.prog 28 #[.pointer (some ⟨m, 0, none⟩), .int .u64 at'] w (MdTold W w m S id (fun w' u => OwnPr w' u l) x) := by
 subst hl
 obtain ⟨K, o, z, a, lr, e⟩ := h.ld
 obtain ⟨u0, _, _⟩ := lr_len h.gd lr
 obtain ⟨L, io, lr⟩ := lr
 refine (Pairs_any a (fun k hk => by have := u0 k hk; omega) at').mono ?_
 rintro e2 w' ⟨u, rfl, ou, og, k⟩
 rw [lr.pairs h.gd at'] at ou
 exact ⟨u, S, rfl, ou, fun g hg => ⟨og g hg, fun c => by have := h.lt g c; have := og g hg; omega⟩, h.stay k⟩
theorem md_live (h : Md W w m S x) (l : List Int) (hl : x.live = l) :
    Calls Try.prog 24 #[.pointer (some ⟨m, 0, none⟩)] w (MdTold W w m S id (fun w' u => OwnN 0 w' u l) x) := by
  subst hl
  obtain ⟨K, o, z, a, ⟨L, io, lr⟩, e⟩ := h.ld
  have el : liveZ z 8 = x.live := by
    unfold liveZ MoI.live
    congr 1
    refine List.filter_congr fun i hi => ?_
    have i8 := List.mem_range.1 hi
    have := lr.ses0 i8
    rw [Bool.eq_iff_iff, decide_eq_true_iff]
    cases c : z.s i with
    | none => simp [this.1 c]
    | some t => have q : ¬ (x.s i).id = 0 := fun q => by have := this.2 q; rw [c] at this; cases this
                simp [q]
  refine (live_any a).mono ?_
  rintro e2 w' ⟨u, rfl, ou, k⟩
  rw [el] at ou
  have og := fun g hg => (OwnN.lt ou (g := g) hg).1
  obtain ⟨a1, a2⟩ := ou
  refine ⟨u, S, rfl, ⟨a1, a2.imp id fun ⟨g, c, cur, q1, q2, q3⟩ => ⟨g, c, cur, q1, Nat.zero_le _, q3⟩⟩, fun g hg => ⟨og g hg, fun c => by have := h.lt g c; have := og g hg; omega⟩, h.stay k⟩
theorem md_status (h : Md W w m S x) (s : Int) (hs : I64 s) (v : Value) (hv : x.statV s = v) :
    Calls Try.prog 30 #[.pointer (some ⟨m, 0, none⟩), .int .i64 s] w (MdPost W w m S v x) := by
  subst hv
  obtain ⟨K, o, z, a, ⟨L, io, lr⟩, e⟩ := h.ld
  have es : statL z s = x.statV s := by
    unfold statL MoI.statV
    by_cases hb : s < 0 ∨ 7 < s
    · rw [if_pos hb, if_pos hb]
    · rw [if_neg hb, if_neg hb]
      have s8 : s.toNat < 8 := by omega
      have := lr.ses0 s8
      cases c : z.s s.toNat with
      | none => rw [if_pos (this.1 c)]
      | some t =>
        have ts := lr.ts _ t s8 c
        rw [if_neg (by rw [ts.id]; exact ts.nz), ts.id, ts.level, ts.start, ts.ops]
  refine (status_any a s).mono ?_
  rintro e2 w' ⟨rfl, k⟩
  exact ⟨by rw [es], S, h.stay k⟩
end
end Go.Proofs.Ytkkjofefjepodaa
/- Package model as landed, its laws' face, second part: gets, scans, ends. Condition: numbers that fit. -/
namespace Go.Proofs.Ytkkjofefjepodaa
open Go.ChangeShapes Go.WideShapes Go.ChangeAt Go.RowKit
set_option linter.unusedVariables false
set_option linter.unusedSimpArgs false
section
variable {W w w' : World} {m : Nat} {S S' T : Nat → Prop} {x y : MoI} {K : Nat → Value} {o : Nat → Nat} {z : LdI} {t : TtI}
/-- What Do is to show. -/
def DoX (w : World) (m : Nat) (K : Nat → Value) (o : Nat → Nat) (z : LdI) (n : Nat) (op : OpI) (r : ReI) (y : MoI) : Prop := Calls Try.prog 19 #[.pointer (some ⟨m, 0, none⟩), .int .i64 n, opV op] w (DoEnd w m o r 0 fun z' => Lr z' y)
theorem DoEnd.mono {r : ReI} {e0 : Int} {Z1 Z2 : LdI → Prop} {e : Ending} (h : DoEnd w m o r e0 Z1 e w') (hz : ∀ z, Z1 z → Z2 z) : DoEnd w m o r e0 Z2 e w' := by
 obtain ⟨u, z', K', o', a, b, c⟩ := h
 exact ⟨u, z', K', o', a, hz _ b, c⟩
theorem dox_over (a : LdAt w m K o z) {L : List (Nat × VeI)} {io : Nat → Int} (l : LrL L io z x) (g : Good x) {n : Nat} (n8 : n < 8) (ht : z.s n = some t) (key hi val : Int) (hok : okI ⟨7, key, hi, val⟩ = true) : DoX w m K o z n ⟨7, key, hi, val⟩ ⟨0, 0, [], 4, 1⟩ (x.over n) := by
 have ts := l.ts n t n8 ht
 refine (do_over a n n8 ht ⟨7, key, hi, val⟩ hok true (by simp) (.inl rfl) ⟨0, 0, [], 4, 1⟩ (by decide) (fun z' => z' = { z with F := updF z.F t.f ⟨4, 0⟩ }) fun w1 a1 => (exec_abort a1 n8 ht ts.st key hi val).mono fun e w' => LdRes.fin rfl).mono fun e w' hd => hd.mono ?_
 rintro z' ⟨z0, rfl, rfl⟩
 exact ⟨L, io, l.gone g n8 ht 0⟩
theorem dox_commit (a : LdAt w m K o z) {L : List (Nat × VeI)} {io : Nat → Int} (l : LrL L io z x) (g : Good x) {n : Nat} (n8 : n < 8) (ht : z.s n = some t) (key hi val : Int) (hok : okI ⟨6, key, hi, val⟩ = true) : DoX w m K o z n ⟨6, key, hi, val⟩ (x.commit n).1 (x.commit n).2 := by
  have ts := l.ts n t n8 ht
  obtain ⟨u0, _, _⟩ := lr_len g ⟨L, io, l⟩
  have u1 : ∀ k, k < 64 → (z.k k).length ≤ 100000 := fun k hk => by have := u0 k hk; omega
  have c2 := l.c2
  have c3 := l.c3
  have tt := g.time
  have cf := g.conf
  by_cases hl : x.limit ≤ x.time
  · have e : x.commit n = (MoI.bad 6, x.over n) := by unfold MoI.commit; rw [if_pos hl]
    rw [e]
    refine (do_over a n n8 ht ⟨6, key, hi, val⟩ hok true (by simp) (.inl rfl) (MoI.bad 6) (by decide) (fun z' => z' = { z with F := updF z.F t.f ⟨4, 0⟩ }) fun w1 a1 => exec_commit a1 n8 ht key hi val _ _ fun w2 a2 => (commit_late a2 n8 ht ts.st (by omega)).mono fun e w' => LdRes.fin rfl).mono fun e w' hd => hd.mono ?_
    rintro z' ⟨z0, rfl, rfl⟩
    exact ⟨L, io, l.gone g n8 ht 0⟩
  · have lt : LrL L io (tickL z) { x with time := x.time + 1 } := by
      have := l.tick (z.clock + 1)
      rw [c3]
      exact this
    have gt := good_tick g (show x.time < x.limit by omega)
    have hh := lt.holds gt n8 (show (tickL z).s n = some t from ht) (z.clock + 1) (by show x.time + 1 ≤ z.clock + 1; omega)
    have hx : ({ ({ x with time := x.time + 1 } : MoI) with time := z.clock + 1 } : MoI) = { x with time := x.time + 1 } := by rw [c3]
    rw [hx] at hh
    have hlv := ts.level
    cases hv : holdsL (tickL z) t (z.clock + 1) with
    | false =>
      rw [hv] at hh
      have hh := hh.symm
      rw [Bool.or_eq_false_iff, decide_eq_false_iff_not] at hh
      have e : x.commit n = (MoI.bad 3, ({ x with time := x.time + 1 } : MoI).over n) := by
        unfold MoI.commit
        rw [if_neg hl]
        simp only
        rw [if_pos ⟨by rw [hlv]; exact hh.1, hh.2⟩]
      rw [e]
      refine (do_over a n n8 ht ⟨6, key, hi, val⟩ hok true (by simp) (.inl rfl) (MoI.bad 3) (by decide) (fun z' => z' = { tickL z with F := updF z.F t.f ⟨4, 0⟩ }) fun w1 a1 => exec_commit a1 n8 ht key hi val _ _ fun w2 a2 => (commit_bad a2 n8 ht ts.st (by omega) (by omega) (by omega) (by omega) u1 hv).mono fun e w' => LdRes.fin rfl).mono fun e w' hd => hd.mono ?_
      rintro z' ⟨z0, rfl, rfl⟩
      exact ⟨L, io, lt.gone gt n8 ht 0⟩
    | true =>
      rw [hv] at hh
      have hh := hh.symm
      rw [Bool.or_eq_true, decide_eq_true_iff] at hh
      have e : x.commit n = (⟨0, 0, [], 3, 0⟩, { x with time := x.time + 1, v := x.v.map (doneV (x.s n).id (x.time + 1)), s := putS x.s n tx0 }) := by
        unfold MoI.commit
        rw [if_neg hl]
        simp only
        rw [if_neg (fun c => by
          rcases hh with q | q
          · exact c.1 (hlv.trans q)
          · have := c.2; rw [q] at this; cases this)]
      rw [e]
      refine (do_over a n n8 ht ⟨6, key, hi, val⟩ hok true (by simp) (.inl rfl) ⟨0, 0, [], 3, 0⟩ (by decide) (fun z' => z' = { tickL z with F := updF z.F t.f ⟨3, z.clock + 1⟩ }) fun w1 a1 => exec_commit a1 n8 ht key hi val _ _ fun w2 a2 => (commit_ok a2 n8 ht ts.st (by omega) (by omega) (by omega) (by omega) u1 hv).mono fun e w' => LdRes.fin rfl).mono fun e w' hd => hd.mono ?_
      rintro z' ⟨z0, rfl, rfl⟩
      have := lt.done gt n8 ht (z.clock + 1) (by omega)
      rw [c3]
      rw [c3] at this
      exact ⟨L, io, this⟩
theorem dox_get (a : LdAt w m K o z) {L : List (Nat × VeI)} {io : Nat → Int} (l : LrL L io z x) (g : Good x) {n : Nat} (n8 : n < 8) (ht : z.s n = some t) (hop : (x.s n).ops < 12) (k : Nat) (k64 : k < 64) (hi val : Int) (hok : okI ⟨1, k, hi, val⟩ = true) : DoX w m K o z n ⟨1, k, hi, val⟩ ((x.count n).get n ⟨1, k, hi, val⟩).1 ((x.count n).get n ⟨1, k, hi, val⟩).2 := by
 have ts := l.ts n t n8 ht
 have id0 : (x.s n).id ≠ 0 := by rw [ts.id]; exact ts.nz
 have hops := ts.ops
 have so := (g.ses n n8).ops
 obtain ⟨u0, _, _⟩ := lr_len g ⟨L, io, l⟩
 have lc : LrL L io (setT z n (opsT t)) (x.count n) := l.count n8 ht
 have gc := good_count g n8 id0 hop
 have h1 : (setT z n (opsT t)).s n = some (opsT t) := putT_self _ _ _
 have c1 := count_at x n
 have hw : ∀ q : Int, q ∈ ((x.count n).s n).wrote ↔ q ∈ (x.s n).wrote := fun q => by rw [c1]
 have run : ∀ r Zs, (∀ w2, LdAt w2 m K o (setT z n (opsT t)) → Calls Try.prog 75 #[.pointer (some ⟨m, 0, none⟩), .pointer (some ⟨t.b, 0, none⟩), .int .i64 k] w2 (LdEnd w2 m o r Zs)) → r.over = 0 → Calls Try.prog 19 #[.pointer (some ⟨m, 0, none⟩), .int .i64 n, opV ⟨1, k, hi, val⟩] w (DoEnd w m o r 0 Zs) := fun r Zs hP hr =>
  do_stay a n n8 ht ⟨1, k, hi, val⟩ hok false (by simp) (.inr (by omega)) r hr Zs fun w1 a1 => exec_get a1 n8 ht k hi val (by omega) r Zs hP
 have G := fun w2 (a2 : LdAt w2 m K o (setT z n (opsT t))) => lget_any a2 n8 h1 k64 (by show (z.k k).length ≤ 100000; have := u0 k k64; omega)
 unfold DoX MoI.get
 simp only
 rcases lc.sees gc n8 h1 k64 with ⟨e1, e2⟩ | ⟨j, v, e1, e2, e3, _⟩
 ·rw [e1]
  rw [e2] at G
  refine run _ _ (fun w2 a2 => (G w2 a2).mono fun e w' q => (LdRes.fin rfl q).mono ?_) rfl
  rintro z' rfl
  have ez : setT (setT z n (opsT t)) n (gotT (opsT t) none k) = { setT z n (opsT t) with s := putT (setT z n (opsT t)).s n (some (relyT (opsT t) 3 k k)) } := rfl
  by_cases hk : (k : Int) ∈ ((x.count n).s n).wrote
  ·rw [if_pos hk]
   exact ⟨L, io, lc.keepA n8 h1 3 (by decide) hk⟩
  ·rw [if_neg hk]
   exact ⟨L, io, lc.keepR n8 h1 3 k k false false (by simp)⟩
 ·rw [e1]
  rw [e3] at G
  have ev : valI (x.count n).v j = v.val := by
   have := lc.at e2
   unfold valI
   rw [this]
   rfl
  simp only [ev]
  refine run _ _ (fun w2 a2 => (G w2 a2).mono fun e w' q => (LdRes.fin rfl q).mono ?_) rfl
  rintro z' rfl
  by_cases hk : (k : Int) ∈ ((x.count n).s n).wrote
  ·rw [if_pos hk]
   exact ⟨L, io, lc.keepA n8 h1 2 (by decide) hk⟩
  ·rw [if_neg hk]
   exact ⟨L, io, lc.keepR n8 h1 2 k k true false (by simp)⟩
theorem dox_scan (a : LdAt w m K o z) {L : List (Nat × VeI)} {io : Nat → Int} (l : LrL L io z x) (g : Good x) {n : Nat} (n8 : n < 8) (ht : z.s n = some t) (hop : (x.s n).ops < 12) (lo hh : Nat) (h1 : lo ≤ hh) (h2 : hh < 64) (val : Int) (hok : okI ⟨5, lo, hh, val⟩ = true) : DoX w m K o z n ⟨5, lo, hh, val⟩ ((x.count n).scan n ⟨5, lo, hh, val⟩).1 ((x.count n).scan n ⟨5, lo, hh, val⟩).2 := by
 have ts := l.ts n t n8 ht
 have id0 : (x.s n).id ≠ 0 := by rw [ts.id]; exact ts.nz
 have hops := ts.ops
 have so := (g.ses n n8).ops
 obtain ⟨u0, _, _⟩ := lr_len g ⟨L, io, l⟩
 have lc : LrL L io (setT z n (opsT t)) (x.count n) := l.count n8 ht
 have gc := good_count g n8 id0 hop
 have hs1 : (setT z n (opsT t)).s n = some (opsT t) := putT_self _ _ _
 have e : pairsL z (seesV z.F t) lo (hh + 1 - lo) = scanI (x.count n).v ((x.count n).s n).id ((x.count n).s n).start lo hh := lc.scan gc n8 hs1 lo hh h1 h2
 unfold DoX MoI.scan
 simp only
 rw [← e]
 refine (do_stay a n n8 ht ⟨5, lo, hh, val⟩ hok false (by simp) (.inr (by omega)) _ rfl _ fun w1 a1 => exec_scan a1 n8 ht lo hh h1 h2 val (by omega) (fun k hk => by have := u0 k hk; omega)).mono fun e w' hd => hd.mono ?_
 rintro z' rfl
 have := lc.keepR n8 hs1 3 lo hh false true (by simp)
 have ez : ({ setT z n (opsT t) with s := putT (setT z n (opsT t)).s n (some { opsT t with again := fun k => (opsT t).again k || (decide ((3 : Int) ≤ (opsT t).level) && decide ((lo : Int) ≤ (k : Int)) && decide ((k : Int) ≤ (hh : Int))) }) } : LdI) = setT z n (relyT (opsT t) 3 lo hh) := by
  unfold setT
  simp only [putT_put]
  rfl
 rw [ez] at this
 exact ⟨L, io, this⟩
end
end Go.Proofs.Ytkkjofefjepodaa
/- Package model as landed, its laws' face, third part: writes. Condition: numbers that fit. -/
namespace Go.Proofs.Ytkkjofefjepodaa
open Go.ChangeShapes Go.WideShapes Go.ChangeAt Go.RowKit
set_option linter.unusedVariables false
set_option linter.unusedSimpArgs false
section
variable {W w w' : World} {m : Nat} {S S' T : Nat → Prop} {x y : MoI} {K : Nat → Value} {o : Nat → Nat} {z : LdI} {t : TtI} {L : List (Nat × VeI)} {io : Nat → Int}
def WrX (m : Nat) (K : Nat → Value) (o : Nat → Nat) (z : LdI) (n : Nat) (t : TtI) (op : OpI) (r : ReI) (y : MoI) : Prop :=
 (r.over = 0 ∧ ∀ w, LdAt w m K o z → Calls Try.prog 78 #[.pointer (some ⟨m, 0, none⟩), .pointer (some ⟨t.b, 0, none⟩), opV op] w (LdEnd w m o r fun z' => Lr z' y)) ∨
 (r.over ≠ 0 ∧ ∀ w, LdAt w m K o z → Calls Try.prog 78 #[.pointer (some ⟨m, 0, none⟩), .pointer (some ⟨t.b, 0, none⟩), opV op] w (LdEnd w m o r fun z' => Lr { z' with s := putT z'.s n none } y))
theorem keepW_eq (x : MoI) (n : Nat) (k : Int) (v : List VrI) : ({ (if k ∈ (x.s n).wrote then x else x.keepW n k) with v := v } : MoI) = { x with v := v, s := putS x.s n { x.s n with wrote := if k ∈ (x.s n).wrote then (x.s n).wrote else (x.s n).wrote ++ [k] } } := by
 by_cases h : k ∈ (x.s n).wrote
 ·rw [if_pos h, if_pos h]
  have : putS x.s n { x.s n with wrote := (x.s n).wrote } = x.s := putS_same
  rw [this]
 ·rw [if_neg h, if_neg h]; rfl
theorem LrL.in_k (l : LrL L io z x) {p : Nat × VeI} (hp : p ∈ L) : p.2 ∈ z.k p.1 := by
 rw [l.k p.1 (l.lt p hp)]
 exact List.mem_map.2 ⟨p, List.mem_filter.2 ⟨hp, decide_eq_true rfl⟩, rfl⟩
theorem lwr_any (l : LrL L io z x) (g : Good x) {n : Nat} (n8 : n < 8) (ht : z.s n = some t) (kind val : Int) (hk : kind = 2 ∨ kind = 3 ∨ kind = 4) {k : Nat} (k64 : k < 64) :
    WrX m K o z n t ⟨kind, k, 0, val⟩ (x.write n ⟨kind, k, 0, val⟩).1 (x.write n ⟨kind, k, 0, val⟩).2 := by
  have ts := l.ts n t n8 ht
  have id0 : (x.s n).id ≠ 0 := by rw [ts.id]; exact ts.nz
  obtain ⟨u0, u1, u2⟩ := lr_len g ⟨L, io, l⟩
  have v1 : ∀ k, k < 64 → (z.k k).length ≤ 100000 := fun k hk => by have := u0 k hk; omega
  have sq := l.sees g n8 ht k64
  have cn := l.conf_none g n8 ht k64
  by_cases hno : (kind = 2 ∧ seesI x.v (x.s n).id (x.s n).start k ≠ none) ∨ (kind ≠ 2 ∧ seesI x.v (x.s n).id (x.s n).start k = none)
  · rw [wr_no n ⟨kind, k, 0, val⟩ hno]
    left
    refine ⟨rfl, fun w a => ?_⟩
    have hr : (if seesI x.v (x.s n).id (x.s n).start k = none then (11 : Int) else 12) = if kind = 2 ∧ ((z.k k).find? (seesV z.F t)).isSome = true then 12 else if kind ≠ 2 ∧ ((z.k k).find? (seesV z.F t)).isSome = false then 11 else 0 := by
      rcases sq with ⟨e1, e2⟩ | ⟨j, v, e1, _, e2, _⟩
      · rw [e1] at hno ⊢
        rw [e2]
        have : kind ≠ 2 := hno.elim (fun c => absurd rfl c.2) (fun c => c.1)
        simp [this]
      · rw [e1] at hno ⊢
        rw [e2]
        have : kind = 2 := hno.elim (fun c => c.1) (fun c => by cases c.2)
        simp [this]
    refine (lwrite_no a n8 ht k64 v1 kind val _ hr (by split <;> decide)).mono fun e w' q => (LdRes.fin rfl q).mono ?_
    rintro z' rfl
    show Lr _ (if (k : Int) ∈ (x.s n).wrote then x else x.keepR n ⟨k, k, false, false⟩)
    by_cases hw : (k : Int) ∈ (x.s n).wrote
    · rw [if_pos hw]; exact ⟨L, io, l.keepA n8 ht 3 (by decide) hw⟩
    · rw [if_neg hw]; exact ⟨L, io, l.keepR n8 ht 3 k k false false (by simp)⟩
  · have hr : (0 : Int) = if kind = 2 ∧ ((z.k k).find? (seesV z.F t)).isSome = true then 12 else if kind ≠ 2 ∧ ((z.k k).find? (seesV z.F t)).isSome = false then 11 else 0 := by
      rcases sq with ⟨e1, e2⟩ | ⟨j, v, e1, _, e2, _⟩
      · rw [e1] at hno
        rw [e2]
        have : kind = 2 := Classical.byContradiction fun c => hno (.inr ⟨c, rfl⟩)
        simp [this]
      · rw [e1] at hno
        rw [e2]
        have : kind ≠ 2 := fun c => hno (.inl ⟨c, fun c => by cases c⟩)
        simp [this]
    by_cases hc : (z.k k).find? (confV z.F t) = none
    · have ok : (k : Int) ∈ (x.s n).wrote ∨ x.taken (x.s n).id (x.s n).start k = false := by
        by_cases q : (k : Int) ∈ (x.s n).wrote
        · exact .inl q
        · right
          cases c : x.taken (x.s n).id (x.s n).start k with
          | false => rfl
          | true => exact absurd hc (cn.2 ⟨q, c⟩)
      have inw : ∀ j, x.v.findIdx? (ownV (x.s n).id k) = some j → (k : Int) ∈ (x.s n).wrote := fun j ho => Classical.byContradiction fun c => by
        have := g.own_none n8 id0 c
        rw [ho] at this
        cases this
      by_cases k4 : kind = 4
      · subst k4
        rw [wr_ok n ⟨4, k, 0, val⟩ hno ok (fun c => c.1 rfl)]
        left
        refine ⟨rfl, fun w a => ?_⟩
        rcases sq with ⟨e1, e2⟩ | ⟨j, v, e1, e2, e3, e4⟩
        · exact absurd (.inr ⟨by decide, e1⟩) hno
        · refine (write_del a n8 ht k64 v1 val e3 hc).mono fun e w' q => (LdRes.fin rfl q).mono ?_
          rintro z' rfl
          obtain ⟨L', l', p, hp, pe, pm⟩ := l.endV g n8 ht k64 hc e2 e4
          have fin := l'.keepW n8 ht k hp pe (.inr pm)
          have ev : MoI.wroteV x.v (x.s n).id ⟨4, k, 0, val⟩ (some j) (x.v.findIdx? (ownV (x.s n).id k)) = setV x.v j fun y => { y with ended := (x.s n).id } := by
            cases ho : x.v.findIdx? (ownV (x.s n).id k) with
            | none => rw [wroteV_end, if_pos rfl, List.append_nil]
            | some i =>
              have q := g.own_seen n8 id0 (inw i ho) e1
              rw [ho] at q
              cases q
              rw [wroteV_own (fun i q => q), if_pos rfl]
          refine ⟨L', io, ?_⟩
          show LrL L' io _ ({ (if (k : Int) ∈ (x.s n).wrote then x else x.keepW n k) with v := MoI.wroteV x.v (x.s n).id ⟨4, k, 0, val⟩ (seesI x.v (x.s n).id (x.s n).start k) (x.v.findIdx? (ownV (x.s n).id k)) } : MoI)
          rw [keepW_eq, e1, ev]
          exact fin
      · cases ho : x.v.findIdx? (ownV (x.s n).id k) with
        | some j =>
          obtain ⟨v, hj, hm, hx, hf⟩ := l.find_some k64 (l.q_made n8 ht k) ho
          have hm : v.mr = t.f := of_decide_eq_true hm
          have hw := inw j ho
          have hst : stopO z.F v.en = 0 := by
            have vo := (g.ver _ (l.mem (List.mem_of_getElem? hj))).by'
            have e : (verOf z.F io (k, v)).bY = t.id := by
              show (if (z.F v.mr).st = 3 then 0 else io v.mr) = t.id
              rw [hm, if_neg (by rw [ts.st]; decide), ts.io]
            exact (vo (by rw [e]; exact ts.nz)).1
          rw [wr_ok n ⟨kind, k, 0, val⟩ hno ok (fun c => by have := c.2.1; rw [show x.v.findIdx? (ownV (x.s n).id (⟨kind, k, 0, val⟩ : OpI).key) = some j from ho] at this; cases this)]
          left
          refine ⟨rfl, fun w a => ?_⟩
          refine (write_put a n8 ht k64 v1 kind val k4 hr hc re0 _ fun w1 a1 => (put_own a1 n8 ht k64 v1 hf val _).mono fun e w' => LdRes.fin rfl).mono fun e w' q => q.mono ?_
          rintro z' rfl
          obtain ⟨L', l', p, hp, pe, pm⟩ := l.valV n8 ht k64 hc hj hm hst val
          have fin := l'.keepW n8 ht k hp pe (.inl pm)
          have ev : MoI.wroteV x.v (x.s n).id ⟨kind, k, 0, val⟩ (seesI x.v (x.s n).id (x.s n).start k) (some j) = setV x.v j fun y => { y with ended := 0, val := val } := by
            rw [wroteV_own (fun i hi => by have := g.own_seen n8 id0 hw hi; rw [ho] at this; exact this)]
            exact if_neg k4
          refine ⟨L', io, ?_⟩
          show LrL L' io _ ({ (if (k : Int) ∈ (x.s n).wrote then x else x.keepW n k) with v := MoI.wroteV x.v (x.s n).id ⟨kind, k, 0, val⟩ (seesI x.v (x.s n).id (x.s n).start k) (x.v.findIdx? (ownV (x.s n).id k)) } : MoI)
          rw [keepW_eq, ho, ev]
          exact fin
        | none =>
          have hq : (z.k k).find? (madeV t) = none := l.find_none k64 (l.q_made n8 ht k) ho
          have c1 := l.c1
          have gl := g.len
          by_cases hf : x.slots ≤ x.v.length
          · rw [wr_full n ⟨kind, k, 0, val⟩ hno ok k4 ho hf]
            right
            have hs : (usedL z 64 : Int) = z.slots := by rw [u1, ← c1]; omega
            refine ⟨show (4 : Int) ≠ 0 by decide, fun w a => ?_⟩
            refine (write_put a n8 ht k64 v1 kind val k4 hr hc (MoI.bad 5) _ fun w1 a1 => (put_full a1 n8 ht ts.st k64 v1 hq u2 hs val _).mono fun e w' => LdRes.fin rfl).mono fun e w' q => q.mono ?_
            rintro z' rfl
            exact ⟨L, io, l.gone g n8 ht 0⟩
          · rw [wr_ok n ⟨kind, k, 0, val⟩ hno ok (fun c => hf c.2.2)]
            left
            refine ⟨rfl, fun w a => ?_⟩
            have hs : (usedL z 64 : Int) ≠ z.slots := by rw [u1, ← c1]; omega
            have fr : ∀ nb, o nb = 0 → ∀ k' v, k' < 64 → v ∈ z.k k' → v.b ≠ nb := fun nb hn k' v hk' hv c => by
              have := (a.oV k' v hk' hv).1
              rw [c, hn] at this
              cases this
            have nv : ∀ nb, verOf z.F io (k, ⟨nb, val, t.f, none⟩) = newV k val (x.s n).id := fun nb => by
              unfold verOf Go.Proofs.Ytkkjofefjepodaa.newV endO stopO
              simp [ts.st, ts.io, ts.id]
            rcases sq with ⟨e1, e2⟩ | ⟨j, v, e1, e2, e3, e4⟩
            · refine (write_put a n8 ht k64 v1 kind val k4 hr hc re0 (fun z' => ∃ nb, o nb = 0 ∧ z' = newZ z k ⟨nb, val, t.f, none⟩) fun w1 a1 => ?_).mono fun e w' q => q.mono ?_
              · rw [e2]; exact put_fresh a1 n8 ht k64 u0 hq u2 hs val
              · rintro z' ⟨nb, h0, rfl⟩
                have l' := l.new k64 ⟨nb, val, t.f, none⟩ (fun p hp => fr nb h0 p.1 p.2 (l.lt p hp) (l.in_k hp)) (l.usT g n8 ht) rfl
                rw [nv] at l'
                have fin := l'.keepW n8 ht k (List.mem_append_right _ (List.mem_singleton.2 rfl)) rfl (.inl rfl)
                have ev : MoI.wroteV x.v (x.s n).id ⟨kind, k, 0, val⟩ none none = x.v ++ [newV k val (x.s n).id] := if_neg k4
                refine ⟨L ++ [(k, ⟨nb, val, t.f, none⟩)], io, ?_⟩
                show LrL _ io _ ({ (if (k : Int) ∈ (x.s n).wrote then x else x.keepW n k) with v := MoI.wroteV x.v (x.s n).id ⟨kind, k, 0, val⟩ (seesI x.v (x.s n).id (x.s n).start k) (x.v.findIdx? (ownV (x.s n).id k)) } : MoI)
                rw [keepW_eq, ho, e1, ev]
                exact fin
            · refine (write_put a n8 ht k64 v1 kind val k4 hr hc re0 (fun z' => ∃ nb, o nb = 0 ∧ z' = newZ (turnZ z k v.b (endV t.f)) k ⟨nb, val, t.f, none⟩) fun w1 a1 => ?_).mono fun e w' q => q.mono ?_
              · rw [e3]; exact put_seen a1 n8 ht k64 u0 hq u2 hs (List.mem_of_find?_eq_some e3) val
              · rintro z' ⟨nb, h0, rfl⟩
                obtain ⟨L', l', p, hp, pe, pm⟩ := l.endV g n8 ht k64 hc e2 e4
                have l2 := l'.new k64 ⟨nb, val, t.f, none⟩ (fun p hp => by
                  have a1 := l'.in_k hp
                  have a2 := l'.lt p hp
                  have a1 : p.2 ∈ putK z.k k (turnB v.b (fun u => { u with en := some t.f }) (z.k k)) p.1 := a1
                  by_cases c : p.1 = k
                  · rw [c, putK_self] at a1
                    obtain ⟨q, hq, e⟩ := List.mem_map.1 a1
                    rw [← e]
                    have := fr nb h0 k q k64 hq
                    by_cases c2 : q.b = v.b
                    · rw [if_pos c2]; exact this
                    · rw [if_neg c2]; exact this
                  · rw [putK_ne _ _ c] at a1
                    exact fr nb h0 p.1 p.2 a2 a1) (l.usT g n8 ht) rfl
                have nv2 : verOf ({ z with k := putK z.k k (turnB v.b (fun u => { u with en := some t.f }) (z.k k)) } : LdI).F io (k, ⟨nb, val, t.f, none⟩) = newV k val (x.s n).id := nv nb
                rw [nv2] at l2
                have fin := l2.keepW n8 ht k (List.mem_append_right _ (List.mem_singleton.2 rfl)) rfl (.inl rfl)
                have ev : MoI.wroteV x.v (x.s n).id ⟨kind, k, 0, val⟩ (some j) none = (setV x.v j fun y => { y with ended := (x.s n).id }) ++ [newV k val (x.s n).id] := by
                  rw [wroteV_end]
                  exact congrArg _ (if_neg k4)
                refine ⟨L' ++ [(k, ⟨nb, val, t.f, none⟩)], io, ?_⟩
                show LrL _ io _ ({ (if (k : Int) ∈ (x.s n).wrote then x else x.keepW n k) with v := MoI.wroteV x.v (x.s n).id ⟨kind, k, 0, val⟩ (seesI x.v (x.s n).id (x.s n).start k) (x.v.findIdx? (ownV (x.s n).id k)) } : MoI)
                rw [keepW_eq, ho, e1, ev]
                exact fin
    · obtain ⟨q1, q2⟩ := cn.1 hc
      rw [wr_con n ⟨kind, k, 0, val⟩ hno q1 q2]
      right
      refine ⟨show (4 : Int) ≠ 0 by decide, fun w a => ?_⟩
      obtain ⟨v, hv⟩ := Option.ne_none_iff_exists'.1 hc
      refine (lwrite_con a n8 ht ts.st k64 v1 kind val hr hv).mono fun e w' q => (LdRes.fin rfl q).mono ?_
      rintro z' rfl
      exact ⟨L, io, l.gone g n8 ht 0⟩
theorem dox_write (a : LdAt w m K o z) (l : LrL L io z x) (g : Good x) {n : Nat} (n8 : n < 8) (ht : z.s n = some t) (hop : (x.s n).ops < 12) (kind val : Int) (hk : kind = 2 ∨ kind = 3 ∨ kind = 4) {k : Nat} (k64 : k < 64) (hok : okI ⟨kind, k, 0, val⟩ = true) : DoX w m K o z n ⟨kind, k, 0, val⟩ ((x.count n).write n ⟨kind, k, 0, val⟩).1 ((x.count n).write n ⟨kind, k, 0, val⟩).2 := by
 have ts := l.ts n t n8 ht
 have id0 : (x.s n).id ≠ 0 := by rw [ts.id]; exact ts.nz
 have hops := ts.ops
 have so := (g.ses n n8).ops
 have lc : LrL L io (setT z n (opsT t)) (x.count n) := l.count n8 ht
 have gc := good_count g n8 id0 hop
 have hs1 : (setT z n (opsT t)).s n = some (opsT t) := putT_self _ _ _
 have h67 : decide (kind = 6 ∨ kind = 7) = false := by rw [decide_eq_false_iff_not]; omega
 unfold DoX
 rcases lwr_any (m := m) (K := K) (o := o) lc gc n8 hs1 kind val hk k64 with ⟨h0, hP⟩ | ⟨h0, hP⟩
 ·exact do_stay a n n8 ht ⟨kind, k, 0, val⟩ hok false h67 (.inr (by omega)) _ h0 _ fun w1 a1 => exec_write a1 n8 ht kind k 0 val hk (by omega) _ _ fun w2 a2 => hP w2 a2
 ·refine (do_over a n n8 ht ⟨kind, k, 0, val⟩ hok false h67 (.inr (by omega)) _ h0 _ fun w1 a1 => exec_write a1 n8 ht kind k 0 val hk (by omega) _ _ fun w2 a2 => hP w2 a2).mono fun e w' hd => hd.mono ?_
  rintro z' ⟨z0, q, rfl⟩
  exact q
end
end Go.Proofs.Ytkkjofefjepodaa
/- Package model as landed, its laws' face: Do, whole. Condition: numbers that fit. -/
namespace Go.Proofs.Ytkkjofefjepodaa
open Go.ChangeShapes Go.WideShapes Go.ChangeAt Go.RowKit
set_option linter.unusedVariables false
set_option linter.unusedSimpArgs false
section
variable {W w w' : World} {m : Nat} {S S' T : Nat → Prop} {x y : MoI} {K : Nat → Value} {o : Nat → Nat} {z : LdI} {t : TtI} {L : List (Nat × VeI)} {io : Nat → Int}
theorem okI_le7 {o : OpI} (h : okI o = true) : o.kind ≤ 7 := by
 unfold okI at h
 split at h
 ·omega
 ·split at h
  ·omega
  ·split at h
   ·omega
   ·split at h
    ·omega
    ·cases h
theorem ldo_any (a : LdAt w m K o z) (l : LrL L io z x) (g : Good x) (s : Int) (op : OpI) : Calls Try.prog 19 #[.pointer (some ⟨m, 0, none⟩), .int .i64 s, opV op] w (DoEnd w m o (x.doR s op) (x.doE s op) fun z' => Lr z' (x.doM s op)) := by
  by_cases hb : s < 0 ∨ 7 < s
  · have e : x.doE s op = 1 := by unfold MoI.doE; rw [if_pos hb]
    have e1 : x.doR s op = re0 := by unfold MoI.doR; rw [e]; rfl
    have e2 : x.doM s op = x := by unfold MoI.doM; rw [e]; rfl
    rw [e, e1, e2]
    exact (do_arg a s hb op).mono fun e w' hd => hd.mono fun z' q => by rw [q]; exact ⟨L, io, l⟩
  · obtain ⟨n, rfl⟩ : ∃ n : Nat, s = (n : Int) := ⟨s.toNat, by omega⟩
    have n8 : n < 8 := by omega
    by_cases hbad : (x.s n).id = 0 ∨ okI op = false
    · have e : x.doE n op = 9 := by unfold MoI.doE; rw [if_neg hb]; exact if_pos hbad
      have e1 : x.doR n op = re0 := by unfold MoI.doR; rw [e]; rfl
      have e2 : x.doM n op = x := by unfold MoI.doM; rw [e]; rfl
      rw [e, e1, e2]
      cases ht : z.s n with
      | none => exact (do_none a n n8 ht op).mono fun e w' hd => hd.mono fun z' q => by rw [q]; exact ⟨L, io, l⟩
      | some t =>
        have ts := l.ts n t n8 ht
        have hok : okI op = false := hbad.resolve_left (by rw [ts.id]; exact ts.nz)
        exact (do_bad a n n8 ht op hok).mono fun e w' hd => hd.mono fun z' q => by rw [q]; exact ⟨L, io, l⟩
    · have hid : (x.s n).id ≠ 0 := fun c => hbad (.inl c)
      obtain ⟨t, ht⟩ := l.sess n8 hid
      have ts := l.ts n t n8 ht
      have hok : okI op = true := by
        cases c : okI op with
        | true => rfl
        | false => exact absurd (.inr c) hbad
      have so := (g.ses n n8).ops
      have hops := ts.ops
      by_cases k67 : op.kind = 7 ∨ op.kind = 6
      · have e : x.doE n op = 0 := by unfold MoI.doE; rw [if_neg hb]; exact (if_neg hbad).trans (if_pos k67)
        have e1 : x.doR n op = (x.run n op).1 := by unfold MoI.doR; rw [e]; rfl
        have e2 : x.doM n op = (x.run n op).2 := by unfold MoI.doM; rw [e]; rfl
        rw [e, e1, e2]
        obtain ⟨kind, key, hi, val⟩ := op
        rcases k67 with q | q
        · have q : kind = 7 := q
          subst q
          have r : x.run n ⟨7, key, hi, val⟩ = (⟨0, 0, [], 4, 1⟩, x.over n) := by unfold MoI.run; rw [if_pos rfl]
          rw [r]
          exact dox_over a l g n8 ht key hi val hok
        · have q : kind = 6 := q
          subst q
          have r : x.run n ⟨6, key, hi, val⟩ = x.commit n := by unfold MoI.run; rw [if_neg (show ¬ (6 : Int) = 7 by decide), if_pos rfl]
          rw [r]
          exact dox_commit a l g n8 ht key hi val hok
      · have kd : decide (op.kind = 6 ∨ op.kind = 7) = false := by rw [decide_eq_false_iff_not]; omega
        by_cases hm : 12 ≤ (x.s n).ops
        · have e : x.doE n op = 65 := by unfold MoI.doE; rw [if_neg hb]; exact (if_neg hbad).trans ((if_neg k67).trans (if_pos hm))
          have e1 : x.doR n op = re0 := by unfold MoI.doR; rw [e]; rfl
          have e2 : x.doM n op = x := by unfold MoI.doM; rw [e]; rfl
          rw [e, e1, e2]
          exact (do_many a n n8 ht op hok kd (by omega)).mono fun e w' hd => hd.mono fun z' q => by rw [q]; exact ⟨L, io, l⟩
        · have e : x.doE n op = 0 := by unfold MoI.doE; rw [if_neg hb]; exact (if_neg hbad).trans ((if_neg k67).trans (if_neg hm))
          have e1 : x.doR n op = (x.run n op).1 := by unfold MoI.doR; rw [e]; rfl
          have e2 : x.doM n op = (x.run n op).2 := by unfold MoI.doM; rw [e]; rfl
          have hop : (x.s n).ops < 12 := by omega
          rw [e, e1, e2]
          obtain ⟨kind, key, hi, val⟩ := op
          have hkk : kind ≤ 5 := by have : kind ≤ 7 := okI_le7 hok; have q : ¬ (kind = 7 ∨ kind = 6) := k67; omega
          obtain ⟨h1, k0, k63, h5, _⟩ := okI_key hok hkk
          have h1 : 1 ≤ kind := h1
          have k0 : 0 ≤ key := k0
          have k63 : key ≤ 63 := k63
          obtain ⟨k, rfl⟩ : ∃ k : Nat, key = (k : Int) := ⟨key.toNat, by omega⟩
          have k64 : k < 64 := by omega
          by_cases k1 : kind = 1
          · subst k1
            have r : x.run n ⟨1, k, hi, val⟩ = (x.count n).get n ⟨1, k, hi, val⟩ := by unfold MoI.run; rw [if_neg (show ¬ (1 : Int) = 7 by decide), if_neg (show ¬ (1 : Int) = 6 by decide), if_pos rfl]
            rw [r]
            exact dox_get a l g n8 ht hop k k64 hi val hok
          · by_cases k5 : kind = 5
            · subst k5
              have r : x.run n ⟨5, k, hi, val⟩ = (x.count n).scan n ⟨5, k, hi, val⟩ := by unfold MoI.run; rw [if_neg (show ¬ (5 : Int) = 7 by decide), if_neg (show ¬ (5 : Int) = 6 by decide), if_neg (show ¬ (5 : Int) = 1 by decide), if_pos rfl]
              rw [r]
              obtain ⟨q1, q2⟩ := h5 rfl
              have q1 : (k : Int) ≤ hi := q1
              have q2 : hi ≤ 63 := q2
              obtain ⟨hh, rfl⟩ : ∃ hh : Nat, hi = (hh : Int) := ⟨hi.toNat, by omega⟩
              exact dox_scan a l g n8 ht hop k hh (by omega) (by omega) val hok
            · have hk : kind = 2 ∨ kind = 3 ∨ kind = 4 := by omega
              have hi0 : hi = 0 := by
                unfold okI at hok
                rcases hk with c | c | c
                · subst c; have := of_decide_eq_true hok; exact this.2.2.2.2
                · subst c; have := of_decide_eq_true hok; exact this.2.2.2.2
                · subst c; have := of_decide_eq_true hok; exact this.2.2.1
              subst hi0
              have r : x.run n ⟨kind, k, 0, val⟩ = (x.count n).write n ⟨kind, k, 0, val⟩ := by unfold MoI.run; rw [if_neg (show ¬ kind = 7 by omega), if_neg (show ¬ kind = 6 by omega), if_neg k1, if_neg k5]
              rw [r]
              exact dox_write a l g n8 ht hop kind val hk k64 hok
theorem md_do (h : Md W w m S x) (s : Int) (o : OpI) (hs : I64 s) (ho : OpB o) (r : ReI) (e0 : Int) (y : MoI) (hr : x.doR s o = r) (he : x.doE s o = e0) (hy : x.doM s o = y) :
  Calls Try.prog 19 #[.pointer (some ⟨m, 0, none⟩), .int .i64 s, opV o] w (MdTold W w m S (fun u => .tuple #[reV r u, .int .i64 e0]) (fun w' u => OwnPr w' u r.pairs) y) := by
 subst hr; subst he; subst hy
 obtain ⟨K, ow, z, a, ⟨L, io, l⟩, e⟩ := h.ld
 refine (ldo_any a l h.gd s o).mono ?_
 rintro e2 w' ⟨u, z', K', o', rfl, lr, ou, og, a2, k2, n3⟩
 obtain ⟨m1, m2⟩ := h.step e (good_do h.gd s o) a2 lr k2 n3
 exact ⟨u, _, rfl, ou, fun g hg => ⟨(og g hg).1, fun c => c (og g hg).2⟩, m1, m2⟩
end
end Go.Proofs.Ytkkjofefjepodaa
