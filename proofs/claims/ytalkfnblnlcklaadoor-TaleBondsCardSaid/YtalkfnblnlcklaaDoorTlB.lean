/- Package tale: begin, bind. Condition: at most 20,000 events. -/
import Derived.Test.YtalkfnblnlcklaaDoorTlG
import Derived.BigQuiet
import Derived.Deep.QuietTactic
import Derived.Deep.Draws
namespace Go.Proofs.YtalkfnblnlcklaaDoor
open Go.ChangeShapes Go.WideShapes Go.ChangeAt Go.RowKit
set_option linter.unusedVariables false
set_option linter.unusedSimpArgs false
section
variable {w w' w1 y : World} {h K i b nb : Nat} {o o' : Nat → Nat} {B : List Nat} {va u : Value} {z : HsI} {t : TnI} {S X : Nat → Prop} {v : EvI} {A : Option Addr} {q c : Nat}
theorem HsAt.row (H : HsAt w h o B va K z) : ∃ A c, va = .slice A z.tx.length c ∧ (0 < z.tx.length → ∃ g, A = some ⟨g, 0, none⟩) := by
  rcases OwnM.form H.ow with ⟨e, e2⟩ | ⟨g, c, e, _⟩
  · have : z.tx.length = 0 := by rw [← H.len, e2]; rfl
    exact ⟨none, 0, by rw [e, this], fun h => by omega⟩
  · rw [H.len] at e
    exact ⟨_, c, e, fun _ => ⟨g, rfl⟩⟩
set_option maxRecDepth 100000 in
theorem begin_no1 (H : HsAt w h o B va K z) (hK : K ≤ 20000) (hn : v.t ≠ z.tx.length + 1) : Calls Tryd.prog 20 #[.pointer (some ⟨h, 0, none⟩), evV v (.slice A q c)] w fun e w' => e = .returned (.bool false) ∧ Keep (fun _ => False) w w' := by
  obtain ⟨V, eV, X, kV⟩ := ev_box w v (.slice A q c); have HV := H.quiet kV; obtain ⟨A8, c8, rfl, hA⟩ := HV.row; have h0 := HV.c0; have hl := H.nb.1; obtain ⟨L, eL⟩ : ∃ L, z.tx.length = L := ⟨_, rfl⟩; rw [eL] at h0 hn hl; obtain ⟨N, eN⟩ : ∃ N, w.heap.size = N := ⟨_, rfl⟩; rw [eN] at X; have c1 := X.c1; have c2 := X.c2; have c6 := X.c6; rw [Nat.zero_add] at c1 c2 c6; have wl : IntKind.i64.wrap ((L : Int) + 1) = (L : Int) + 1 := IntWalk.i64_in _ (by omega); have KV := Lib.hid kV
  have dq : (v.t != (L : Int) + 1) = true := by simpa using hn
  obtain ⟨kd, tt, n, ⟨ok, oy, oh, ov⟩, ⟨re, rv, ps, ro, rr⟩⟩ := v
  unfold evV
  dsimp only at c1 c2 c6 dq eV ⊢
  clear X H HV hA kV hn eL c2 c6
  go_enter Tryd.func20, Tryd.ntmps20
  go_wp2_with fail
  go_quiet (fail)
  go_wp2
  go_ret
  exact ⟨rfl, by first | exact KV.out.drew | exact KV.out.trans (drewN_keep _ _ _)⟩
set_option maxRecDepth 100000 in
theorem begin_no2 (H : HsAt w h o B va K z) (hK : K ≤ 20000) (hn : v.t = z.tx.length + 1) (hd : ¬ z.last < v.n) : Calls Tryd.prog 20 #[.pointer (some ⟨h, 0, none⟩), evV v (.slice A q c)] w fun e w' => e = .returned (.bool false) ∧ Keep (fun _ => False) w w' := by
  obtain ⟨V, eV, X, kV⟩ := ev_box w v (.slice A q c); have HV := H.quiet kV; obtain ⟨A8, c8, rfl, hA⟩ := HV.row; have h0 := HV.c0; have hl := H.nb.1; obtain ⟨L, eL⟩ : ∃ L, z.tx.length = L := ⟨_, rfl⟩; rw [eL] at h0 hn hl; obtain ⟨N, eN⟩ : ∃ N, w.heap.size = N := ⟨_, rfl⟩; rw [eN] at X; have c1 := X.c1; have c2 := X.c2; have c6 := X.c6; rw [Nat.zero_add] at c1 c2 c6; have wl : IntKind.i64.wrap ((L : Int) + 1) = (L : Int) + 1 := IntWalk.i64_in _ (by omega); have KV := Lib.hid kV
  have D := Lib.hid (fun d => draw_no (HV.quiet (drewN_keep _ V d)) v.n hd)
  have dq : (v.t != (L : Int) + 1) = false := by simpa using hn
  obtain ⟨kd, tt, n, ⟨ok, oy, oh, ov⟩, ⟨re, rv, ps, ro, rr⟩⟩ := v
  unfold evV
  dsimp only at c1 c2 c6 dq eV D ⊢
  clear X H HV hA kV hn eL c6 hd
  go_enter Tryd.func20, Tryd.ntmps20
  go_wp2_with fail
  go_quiet ((go_at_call 29; exact Calls.quiet_of_same (D.out _)))
  go_wp2
  go_ret
  exact ⟨rfl, by first | exact KV.out.drew | exact KV.out.trans (drewN_keep _ _ _)⟩
theorem tn_box (w : World) (level start : Int) : ∃ W, w.alloc (.cells #[.int .i64 level, .int .u64 start, .int .u64 0, .slice none 0 0, .int .u32 0, .int .i32 0, .int .u32 0, .int .i64 1] 70) = W ∧ TnAt W w.heap.size ⟨level, start, 0, [], 1⟩ (.slice none 0 0) ∧ Keep (fun _ => False) w W ∧ W.heap.size = w.heap.size + 1 :=
  ⟨_, rfl, ⟨by simp, by simp, by simp, by simp, by simp [dnT], by simp, by simp, fun i => by simp⟩, (Keep.refl _ _).alloc _, by simp⟩
set_option maxRecDepth 100000 in
set_option maxHeartbeats 2000000 in
theorem begin_yes (H : HsAt w h o B va K z) (hK : K ≤ 20000) (hn : v.t = z.tx.length + 1) (hd : z.last < v.n) : Calls Tryd.prog 20 #[.pointer (some ⟨h, 0, none⟩), evV v (.slice A q c)] w fun e w' => e = .returned (.bool true) ∧ HsTo w h o (K + 1) ⟨z.tx ++ [⟨v.o.val, v.n, 0, [], 1⟩], v.n⟩ w' := by
  obtain ⟨V, eV, X, kV⟩ := ev_box w v (.slice A q c); have HV := H.quiet kV; obtain ⟨A8, c8, rfl, hA⟩ := HV.row; have h0 := HV.c0; have hl := H.nb.1; obtain ⟨L, eL⟩ : ∃ L, z.tx.length = L := ⟨_, rfl⟩; rw [eL] at h0 hn hl; obtain ⟨N, eN⟩ : ∃ N, w.heap.size = N := ⟨_, rfl⟩; rw [eN] at X; have c1 := X.c1; have c2 := X.c2; have c6 := X.c6; rw [Nat.zero_add] at c1 c2 c6; have wl : IntKind.i64.wrap ((L : Int) + 1) = (L : Int) + 1 := IntWalk.i64_in _ (by omega); have KV := Lib.hid kV
  have D := Lib.hid (draw_yes (HV.quiet ((Keep.refl (fun _ => False) V).drew)) v.n hd)
  have dq : (v.t != (L : Int) + 1) = false := by simpa using hn
  obtain ⟨kd, tt, n, ⟨ok, oy, oh, ov⟩, ⟨re, rv, ps, ro, rr⟩⟩ := v
  unfold evV
  dsimp only at c1 c2 c6 dq eV D ⊢
  have nN : h ≠ N := fun e => by have := H.fr h (by rw [H.oh]; decide); omega
  have nNa : ∀ j k, (⟨h, j, none⟩ : Addr) ≠ ⟨N, k, none⟩ := fun j k e => nN (congrArg Addr.block e)
  obtain ⟨w2, e2⟩ : ∃ w2, V.drew.setCell ⟨h, 1, none⟩ (.int .u64 n) = w2 := ⟨_, rfl⟩
  have k2 : Keep (fun g => g = h) V w2 := by rw [← e2]; exact (Keep.refl (fun g => g = h) V).drew.setCell (p := ⟨h, 1, none⟩) rfl _
  have H2 := (HV.quiet ((Keep.refl (fun _ => False) V).drew)).draw n
  rw [e2] at D H2
  have x0 := H2.c0
  have x1 := k2.cell c1 (show ¬ N = h from fun e => nN e.symm)
  have x2 := k2.cell c2 (show ¬ N = h from fun e => nN e.symm)
  have x6 := k2.cell c6 (show ¬ N = h from fun e => nN e.symm)
  have C1A := Lib.hid (show w2.cell? ⟨N, 1, none⟩ = some (.int .i64 tt) ∧ w2.cell? ⟨N, 2, none⟩ = some (.int .u64 n) ∧ w2.cell? ⟨h, 0, none⟩ = some (.slice A8 L c8) from ⟨x1, x2, by rw [eL] at x0; exact x0⟩)
  have KW2 : Keep (fun g => o g ≠ 0) w w2 := (kV.mono fun _ e => e.elim).trans (k2.mono fun g e => by have e : g = h := e; rw [e, H.oh]; decide)
  obtain ⟨wb, ewb, TB, kb, sb⟩ := tn_box w2 ov n
  obtain ⟨nb, enb⟩ : ∃ nb, w2.heap.size = nb := ⟨_, rfl⟩
  rw [enb] at TB sb
  have Hb := H2.quiet kb
  have OWN := Lib.hid (OwnM.keep Hb.ow ((Keep.refl (fun _ => False) wb).drew) (fun _ _ => id))
  have LB := Lib.hid (show B.length ≤ 100000 by rw [H.len]; omega)
  have lB : B.length = L := by rw [H.len, eL]
  have nvN : ¬ (Value.slice A8 L c8).ownBlock = some N := fun e => by
    have e : (Value.slice A8 z.tx.length c8).ownBlock = some N := by rw [eL]; exact e
    have := H.fr N (by rw [H.oa N e]; decide); omega
  have NV := Lib.hid nvN
  have AFT := Lib.hid (fun g4 c4 y4 o4 k4 hg4 => H2.push (nb := nb) (t := ⟨ov, n, 0, [], 1⟩) (y := y4) (w1 := wb.drew) (g := g4) (c := c4) (kb.drew) (by show nb < wb.heap.size; omega) (by omega) (TB.keep ((Keep.refl (fun _ => False) wb).drew) id) rfl o4 k4 hg4)
  have FIN := Lib.hid (fun w' (f : HsTo w2 h o (K + 1) ⟨z.tx ++ [⟨ov, n, 0, [], 1⟩], n⟩ w') => (show HsTo w h o (K + 1) ⟨z.tx ++ [⟨ov, n, 0, [], 1⟩], n⟩ w' from by
    obtain ⟨o', B', va', q1, q2, q3⟩ := f
    exact ⟨o', B', va', q1, KW2.trans q2, fun g hg => (q3 g hg).imp id (fun q => by have := KW2.size; omega)⟩))
  rw [eL] at OWN AFT x0
  have LE := Lib.hid lB
  rw [lB] at AFT
  have crd : wb.drew.cell? ⟨h, 0, none⟩ = some (.slice A8 L c8) := kb.cell x0 id
  have crb : wb.cell? ⟨h, 0, none⟩ = some (.slice A8 L c8) := crd
  have cra : (wb.drew.alloc (.cells #[.pointer (some ⟨nb, 0, none⟩)] 56)).cell? ⟨h, 0, none⟩ = some (.slice A8 L c8) := ((Keep.refl (fun _ => False) wb.drew).alloc _).cell crd id
  have hmw : h < wb.heap.size := lt_of_cell (a := ⟨h, 0, none⟩) crb
  have SB := Lib.hid (show wb.drew.cell? ⟨N, 2, none⟩ = some (.int .u64 n) ∧ wb.drew.cell? ⟨N, 6, none⟩ = some (.int .i64 ov) from ⟨kb.cell x2 id, kb.cell x6 id⟩)
  have S2 := Lib.hid (show w2.cell? ⟨N, 2, none⟩ = some (.int .u64 n) ∧ w2.cell? ⟨N, 6, none⟩ = some (.int .i64 ov) from ⟨x2, x6⟩)
  have NN := Lib.hid nNa
  clear X H HV Hb H2 hA kV hn eL hd nN nNa k2 e2 x1 x2 x6 KW2 TB kb sb nvN c6 x0
  go_enter Tryd.func20, Tryd.ntmps20
  go_wp2_with fail
  refine wp_region_held_drew (S := fun w' => w'.cell? ⟨N, 1, none⟩ = some (.int .i64 tt) ∧ w'.cell? ⟨N, 2, none⟩ = some (.int .u64 n) ∧ w'.cell? ⟨h, 0, none⟩ = some (.slice A8 L c8)) (by kernel_rfl) ⟨c1, c2, h0⟩ (fun hHeld => ?_)
  refine wpAnyH_take (i := 0) (v := ?qvu0) rfl (by kernel_rfl) (by kernel_rfl) (by kernel_rfl) (fun _ _ _ h => h) (Or.inl ⟨by rfl, ?qyu0⟩) (by assumption) ?qru0; case qyu0 => ((intro w hSw; (try dsimp only at hSw); go_simp); try (with_reducible rfl))
  ((try simp only [List.getElem_toArray]); (try simp only [List.getElem_cons_succ]); (try simp only [List.getElem_cons_zero]); (try simp only [Act.put]); (try simp only [List.setIfInBounds_toArray]); (try simp only [List.set_cons_succ]); (try simp only [List.set_cons_zero]))
  refine wpAnyH_take (i := 1) (v := ?qvu1) rfl (by kernel_rfl) (by kernel_rfl) (by kernel_rfl) (fun _ _ _ h => h) (Or.inl ⟨by rfl, ?qyu1⟩) (by assumption) ?qru1; case qyu1 => ((intro w hSw; (try dsimp only at hSw); go_simp); try (with_reducible rfl))
  ((try simp only [List.getElem_toArray]); (try simp only [List.getElem_cons_succ]); (try simp only [List.getElem_cons_zero]); (try simp only [Act.put]); (try simp only [List.setIfInBounds_toArray]); (try simp only [List.set_cons_succ]); (try simp only [List.set_cons_zero]))
  refine wpAnyH_take (i := 2) (v := ?qvu2) rfl (by kernel_rfl) (by kernel_rfl) (by kernel_rfl) (fun _ _ _ h => h) (Or.inl ⟨by rfl, ?qyu2⟩) (by assumption) ?qru2; case qyu2 => ((intro w hSw; (try dsimp only at hSw); go_simp); try (with_reducible rfl))
  ((try simp only [List.getElem_toArray]); (try simp only [List.getElem_cons_succ]); (try simp only [List.getElem_cons_zero]); (try simp only [Act.put]); (try simp only [List.setIfInBounds_toArray]); (try simp only [List.set_cons_succ]); (try simp only [List.set_cons_zero]))
  refine wpAnyH_take (i := 3) (v := ?qvu3) rfl (by kernel_rfl) (by kernel_rfl) (by kernel_rfl) (fun _ _ _ h => h) (Or.inl ⟨by rfl, ?qyu3⟩) (by assumption) ?qru3; case qyu3 => ((intro w hSw; (try dsimp only at hSw); go_simp); try (with_reducible rfl))
  ((try simp only [List.getElem_toArray]); (try simp only [List.getElem_cons_succ]); (try simp only [List.getElem_cons_zero]); (try simp only [Act.put]); (try simp only [List.setIfInBounds_toArray]); (try simp only [List.set_cons_succ]); (try simp only [List.set_cons_zero]))
  refine wpAnyH_take (i := 4) (v := ?qvu4) rfl (by kernel_rfl) (by kernel_rfl) (by kernel_rfl) (fun _ _ _ h => h) (Or.inl ⟨by rfl, ?qyu4⟩) (by assumption) ?qru4; case qyu4 => ((intro w hSw; (try dsimp only at hSw); go_simp); try (with_reducible rfl))
  ((try simp only [List.getElem_toArray]); (try simp only [List.getElem_cons_succ]); (try simp only [List.getElem_cons_zero]); (try simp only [Act.put]); (try simp only [List.setIfInBounds_toArray]); (try simp only [List.set_cons_succ]); (try simp only [List.set_cons_zero]))
  refine wpAnyH_take (i := 5) (v := ?qvu5) rfl (by kernel_rfl) (by kernel_rfl) (by kernel_rfl) (fun _ _ _ h => h) (Or.inl ⟨by rfl, ?qyu5⟩) (by assumption) ?qru5; case qyu5 => ((intro w hSw; (try dsimp only at hSw); go_simp); try (with_reducible rfl))
  ((try simp only [List.getElem_toArray]); (try simp only [List.getElem_cons_succ]); (try simp only [List.getElem_cons_zero]); (try simp only [Act.put]); (try simp only [List.setIfInBounds_toArray]); (try simp only [List.set_cons_succ]); (try simp only [List.set_cons_zero]))
  refine wpAnyH_take (i := 6) (v := ?qvu6) rfl (by kernel_rfl) (by kernel_rfl) (by kernel_rfl) (fun _ _ _ h => h) (Or.inl ⟨by rfl, ?qyu6⟩) (by assumption) ?qru6; case qyu6 => ((intro w hSw; (try dsimp only at hSw); go_simp); try (with_reducible rfl))
  ((try simp only [List.getElem_toArray]); (try simp only [List.getElem_cons_succ]); (try simp only [List.getElem_cons_zero]); (try simp only [Act.put]); (try simp only [List.setIfInBounds_toArray]); (try simp only [List.set_cons_succ]); (try simp only [List.set_cons_zero]))
  refine wpAnyH_take (i := 7) (v := ?qvu7) rfl (by kernel_rfl) (by kernel_rfl) (by kernel_rfl) (fun _ _ _ h => h) (Or.inl ⟨by rfl, ?qyu7⟩) (by assumption) ?qru7; case qyu7 => ((intro w hSw; (try dsimp only at hSw); go_simp); try (with_reducible rfl))
  ((try simp only [List.getElem_toArray]); (try simp only [List.getElem_cons_succ]); (try simp only [List.getElem_cons_zero]); (try simp only [Act.put]); (try simp only [List.setIfInBounds_toArray]); (try simp only [List.set_cons_succ]); (try simp only [List.set_cons_zero]))
  refine wpAnyH_take (i := 8) (v := ?qvu8) rfl (by kernel_rfl) (by kernel_rfl) (by kernel_rfl) (fun _ _ _ h => h) (Or.inl ⟨by rfl, ?qyu8⟩) (by assumption) ?qru8; case qyu8 => ((intro w hSw; (try dsimp only at hSw); go_simp); try (with_reducible rfl))
  ((try simp only [List.getElem_toArray]); (try simp only [List.getElem_cons_succ]); (try simp only [List.getElem_cons_zero]); (try simp only [Act.put]); (try simp only [List.setIfInBounds_toArray]); (try simp only [List.set_cons_succ]); (try simp only [List.set_cons_zero]))
  refine wpAnyH_take (i := 9) (v := ?qvu9) rfl (by kernel_rfl) (by kernel_rfl) (by kernel_rfl) (fun _ _ _ h => h) (Or.inl ⟨by rfl, ?qyu9⟩) (by assumption) ?qru9; case qyu9 => ((intro w hSw; (try dsimp only at hSw); go_simp); try (with_reducible rfl))
  ((try simp only [List.getElem_toArray]); (try simp only [List.getElem_cons_succ]); (try simp only [List.getElem_cons_zero]); (try simp only [Act.put]); (try simp only [List.setIfInBounds_toArray]); (try simp only [List.set_cons_succ]); (try simp only [List.set_cons_zero]))
  refine wpAnyH_take (i := 10) (v := ?qvu10) rfl (by kernel_rfl) (by kernel_rfl) (by kernel_rfl) (fun _ _ _ h => h) (Or.inl ⟨by rfl, ?qyu10⟩) (by assumption) ?qru10; case qyu10 => ((intro w hSw; (try dsimp only at hSw); go_simp); try (with_reducible rfl))
  ((try simp only [List.getElem_toArray]); (try simp only [List.getElem_cons_succ]); (try simp only [List.getElem_cons_zero]); (try simp only [Act.put]); (try simp only [List.setIfInBounds_toArray]); (try simp only [List.set_cons_succ]); (try simp only [List.set_cons_zero]))
  refine wpAnyH_take (i := 11) (v := ?qvu11) rfl (by kernel_rfl) (by kernel_rfl) (by kernel_rfl) (fun _ _ _ h => h) (Or.inl ⟨by rfl, ?qyu11⟩) (by assumption) ?qru11; case qyu11 => ((intro w hSw; (try dsimp only at hSw); go_simp); try (with_reducible rfl))
  ((try simp only [List.getElem_toArray]); (try simp only [List.getElem_cons_succ]); (try simp only [List.getElem_cons_zero]); (try simp only [Act.put]); (try simp only [List.setIfInBounds_toArray]); (try simp only [List.set_cons_succ]); (try simp only [List.set_cons_zero]))
  refine wpAnyH_take (i := 12) (v := ?qvu12) rfl (by kernel_rfl) (by kernel_rfl) (by kernel_rfl) (fun _ _ _ h => h) (Or.inl ⟨by rfl, ?qyu12⟩) (by assumption) ?qru12; case qyu12 => ((intro w hSw; (try dsimp only at hSw); go_simp); try (with_reducible rfl))
  ((try simp only [List.getElem_toArray]); (try simp only [List.getElem_cons_succ]); (try simp only [List.getElem_cons_zero]); (try simp only [Act.put]); (try simp only [List.setIfInBounds_toArray]); (try simp only [List.set_cons_succ]); (try simp only [List.set_cons_zero]))
  refine wpAnyH_ready (rs := [13]) (by kernel_rfl) (by simp) ?_
  refine AllReadyH.cons rfl (fun K hK => ?_) AllReadyH.nil
  go_simp
  refine D.out.mono ?_
  rintro e wy ⟨rfl, rfl⟩
  refine hK.out _ _ C1A.out (fun hHeld => ?_)
  clear hK K
  ((try simp only [List.getElem_toArray]); (try simp only [List.getElem_cons_succ]); (try simp only [List.getElem_cons_zero]); (try simp only [Act.put]); (try simp only [List.setIfInBounds_toArray]); (try simp only [List.set_cons_succ]); (try simp only [List.set_cons_zero]))
  refine wpAnyH_take (i := 14) (v := ?qvu13) rfl (by kernel_rfl) (by kernel_rfl) (by kernel_rfl) (fun _ _ _ h => h) (Or.inl ⟨by rfl, ?qyu13⟩) (by assumption) ?qru13; case qyu13 => ((intro w hSw; (try dsimp only at hSw); go_simp); try (with_reducible rfl))
  ((try simp only [List.getElem_toArray]); (try simp only [List.getElem_cons_succ]); (try simp only [List.getElem_cons_zero]); (try simp only [Act.put]); (try simp only [List.setIfInBounds_toArray]); (try simp only [List.set_cons_succ]); (try simp only [List.set_cons_zero]))
  refine wpAnyH_take (i := 15) (v := ?qvu14) rfl (by kernel_rfl) (by kernel_rfl) (by kernel_rfl) (fun _ _ _ h => h) (Or.inl ⟨by rfl, ?qyu14⟩) (by assumption) ?qru14; case qyu14 => ((intro w hSw; (try dsimp only at hSw); go_simp); try (with_reducible rfl))
  ((try simp only [List.getElem_toArray]); (try simp only [List.getElem_cons_succ]); (try simp only [List.getElem_cons_zero]); (try simp only [Act.put]); (try simp only [List.setIfInBounds_toArray]); (try simp only [List.set_cons_succ]); (try simp only [List.set_cons_zero]))
  refine wpAnyH_done (by kernel_rfl) ?_ _
  clear c1 c2 h0 D
  go_wp2_with fail
  refine wp_region_held_drew (S := fun w' => w'.cell? ⟨N, 2, none⟩ = some (.int .u64 n) ∧ w'.cell? ⟨N, 6, none⟩ = some (.int .i64 ov)) (by kernel_rfl) S2.out (fun hHeld => ?_)
  refine wpAnyH_take (i := 0) (v := ?qvu15) rfl (by kernel_rfl) (by kernel_rfl) (by kernel_rfl) (fun _ _ _ h => h) (Or.inl ⟨by rfl, ?qyu15⟩) (by assumption) ?qru15; case qyu15 => ((intro w hSw; (try dsimp only at hSw); go_simp); try (with_reducible rfl))
  ((try simp only [List.getElem_toArray]); (try simp only [List.getElem_cons_succ]); (try simp only [List.getElem_cons_zero]); (try simp only [Act.put]); (try simp only [List.setIfInBounds_toArray]); (try simp only [List.set_cons_succ]); (try simp only [List.set_cons_zero]))
  refine wpAnyH_take (i := 1) (v := ?qvu16) rfl (by kernel_rfl) (by kernel_rfl) (by kernel_rfl) (fun _ _ _ h => h) (Or.inl ⟨by rfl, ?qyu16⟩) (by assumption) ?qru16; case qyu16 => ((intro w hSw; (try dsimp only at hSw); go_simp); try (with_reducible rfl))
  ((try simp only [List.getElem_toArray]); (try simp only [List.getElem_cons_succ]); (try simp only [List.getElem_cons_zero]); (try simp only [Act.put]); (try simp only [List.setIfInBounds_toArray]); (try simp only [List.set_cons_succ]); (try simp only [List.set_cons_zero]))
  refine wpAnyH_take (i := 2) (v := ?qvu17) rfl (by kernel_rfl) (by kernel_rfl) (by kernel_rfl) (fun _ _ _ h => h) (Or.inl ⟨by rfl, ?qyu17⟩) (by assumption) ?qru17; case qyu17 => ((intro w hSw; (try dsimp only at hSw); go_simp); try (with_reducible rfl))
  ((try simp only [List.getElem_toArray]); (try simp only [List.getElem_cons_succ]); (try simp only [List.getElem_cons_zero]); (try simp only [Act.put]); (try simp only [List.setIfInBounds_toArray]); (try simp only [List.set_cons_succ]); (try simp only [List.set_cons_zero]))
  refine wpAnyH_take (i := 3) (v := ?qvu18) rfl (by kernel_rfl) (by kernel_rfl) (by kernel_rfl) (fun _ _ _ h => h) (Or.inl ⟨by rfl, ?qyu18⟩) (by assumption) ?qru18; case qyu18 => ((intro w hSw; (try dsimp only at hSw); go_simp); try (with_reducible rfl))
  ((try simp only [List.getElem_toArray]); (try simp only [List.getElem_cons_succ]); (try simp only [List.getElem_cons_zero]); (try simp only [Act.put]); (try simp only [List.setIfInBounds_toArray]); (try simp only [List.set_cons_succ]); (try simp only [List.set_cons_zero]))
  refine wpAnyH_take (i := 5) (v := ?qvu19) rfl (by kernel_rfl) (by kernel_rfl) (by kernel_rfl) (fun _ _ _ h => h) (Or.inl ⟨by rfl, ?qyu19⟩) (by assumption) ?qru19; case qyu19 => ((intro w hSw; (try dsimp only at hSw); go_simp); try (with_reducible rfl))
  ((try simp only [List.getElem_toArray]); (try simp only [List.getElem_cons_succ]); (try simp only [List.getElem_cons_zero]); (try simp only [Act.put]); (try simp only [List.setIfInBounds_toArray]); (try simp only [List.set_cons_succ]); (try simp only [List.set_cons_zero]))
  refine wpAnyH_take (i := 6) (v := ?qvu20) rfl (by kernel_rfl) (by kernel_rfl) (by kernel_rfl) (fun _ _ _ h => h) (Or.inl ⟨by rfl, ?qyu20⟩) (by assumption) ?qru20; case qyu20 => ((intro w hSw; (try dsimp only at hSw); go_simp); try (with_reducible rfl))
  ((try simp only [List.getElem_toArray]); (try simp only [List.getElem_cons_succ]); (try simp only [List.getElem_cons_zero]); (try simp only [Act.put]); (try simp only [List.setIfInBounds_toArray]); (try simp only [List.set_cons_succ]); (try simp only [List.set_cons_zero]))
  refine wpAnyH_take (i := 7) (v := ?qvu21) rfl (by kernel_rfl) (by kernel_rfl) (by kernel_rfl) (fun _ _ _ h => h) (Or.inl ⟨by rfl, ?qyu21⟩) (by assumption) ?qru21; case qyu21 => ((intro w hSw; (try dsimp only at hSw); go_simp); try (with_reducible rfl))
  ((try simp only [List.getElem_toArray]); (try simp only [List.getElem_cons_succ]); (try simp only [List.getElem_cons_zero]); (try simp only [Act.put]); (try simp only [List.setIfInBounds_toArray]); (try simp only [List.set_cons_succ]); (try simp only [List.set_cons_zero]))
  refine wpAnyH_take (i := 8) (v := ?qvu22) rfl (by kernel_rfl) (by kernel_rfl) (by kernel_rfl) (fun _ _ _ h => h) (Or.inl ⟨by rfl, ?qyu22⟩) (by assumption) ?qru22; case qyu22 => ((intro w hSw; (try dsimp only at hSw); go_simp); try (with_reducible rfl))
  ((try simp only [List.getElem_toArray]); (try simp only [List.getElem_cons_succ]); (try simp only [List.getElem_cons_zero]); (try simp only [Act.put]); (try simp only [List.setIfInBounds_toArray]); (try simp only [List.set_cons_succ]); (try simp only [List.set_cons_zero]))
  refine wpAnyH_take (i := 9) (v := ?qvu23) rfl (by kernel_rfl) (by kernel_rfl) (by kernel_rfl) (fun _ _ _ h => h) (Or.inl ⟨by rfl, ?qyu23⟩) (by assumption) ?qru23; case qyu23 => ((intro w hSw; (try dsimp only at hSw); go_simp); try (with_reducible rfl))
  ((try simp only [List.getElem_toArray]); (try simp only [List.getElem_cons_succ]); (try simp only [List.getElem_cons_zero]); (try simp only [Act.put]); (try simp only [List.setIfInBounds_toArray]); (try simp only [List.set_cons_succ]); (try simp only [List.set_cons_zero]))
  refine wpAnyH_take (i := 10) (v := ?qvu24) rfl (by kernel_rfl) (by kernel_rfl) (by kernel_rfl) (fun _ _ _ h => h) (Or.inl ⟨by rfl, ?qyu24⟩) (by assumption) ?qru24; case qyu24 => ((intro w hSw; (try dsimp only at hSw); go_simp); try (with_reducible rfl))
  ((try simp only [List.getElem_toArray]); (try simp only [List.getElem_cons_succ]); (try simp only [List.getElem_cons_zero]); (try simp only [Act.put]); (try simp only [List.setIfInBounds_toArray]); (try simp only [List.set_cons_succ]); (try simp only [List.set_cons_zero]))
  refine wpAnyH_ready (rs := [4, 11]) (by kernel_rfl) (by simp) ?_
  refine AllReadyH.cons rfl (fun K hK => ?_) (AllReadyH.cons rfl (fun K hK => ?_) AllReadyH.nil)
  · go_simp
    refine hK.out _ _ hHeld (fun hHeld => ?_)
    clear hK K
    ((try simp only [List.getElem_toArray]); (try simp only [List.getElem_cons_succ]); (try simp only [List.getElem_cons_zero]); (try simp only [Act.put]); (try simp only [List.setIfInBounds_toArray]); (try simp only [List.set_cons_succ]); (try simp only [List.set_cons_zero]))
    refine wpAnyH_ready (rs := [11]) (by kernel_rfl) (by simp) ?_
    refine AllReadyH.cons rfl (fun K hK => ?_) AllReadyH.nil
    go_simp
    refine hK.out _ _ SB.out (fun hHeld => ?_)
    clear hK K
    ((try simp only [List.getElem_toArray]); (try simp only [List.getElem_cons_succ]); (try simp only [List.getElem_cons_zero]); (try simp only [Act.put]); (try simp only [List.setIfInBounds_toArray]); (try simp only [List.set_cons_succ]); (try simp only [List.set_cons_zero]))
    refine wpAnyH_ready (rs := [12]) (by kernel_rfl) (by simp) ?_
    refine AllReadyH.cons rfl (fun K hK => ?_) AllReadyH.nil
    go_simp
    refine hK.out _ _ ⟨(Keep.alloc (Keep.refl (fun _ => False) _) _).cell hHeld.1 id, (Keep.alloc (Keep.refl (fun _ => False) _) _).cell hHeld.2 id⟩ (fun hHeld => ?_)
    clear hK K
    ((try simp only [List.getElem_toArray]); (try simp only [List.getElem_cons_succ]); (try simp only [List.getElem_cons_zero]); (try simp only [Act.put]); (try simp only [List.setIfInBounds_toArray]); (try simp only [List.set_cons_succ]); (try simp only [List.set_cons_zero]))
    refine wpAnyH_ready (rs := [13]) (by kernel_rfl) (by simp) ?_
    refine AllReadyH.cons rfl (fun K hK => ?_) AllReadyH.nil
    refine step_pushM Tryd.underlying53 info_tn rfl (by decide) (by decide) pF_len pF_one rfl (.tmp 25) (.tmp 33) rfl _ B (by rfl) OWN.out nb (by rfl) LB.out ?_
    intro g4 c4 y4 o4 k4 hg4
    rw [LE.out] at o4
    obtain ⟨⟨uu, cu⟩, fu, F4⟩ := AFT.out g4 c4 y4 o4 k4 hg4
    have FB := Lib.hid F4
    have SY := Lib.hid (And.intro (k4.cell SB.out.1 NV.out) (k4.cell SB.out.2 NV.out))
    clear o4 k4 hg4 F4
    refine hK.out _ _ SY.out (fun hHeld => ?_)
    clear hK K
    ((try simp only [List.getElem_toArray]); (try simp only [List.getElem_cons_succ]); (try simp only [List.getElem_cons_zero]); (try simp only [Act.put]); (try simp only [List.setIfInBounds_toArray]); (try simp only [List.set_cons_succ]); (try simp only [List.set_cons_zero]))
    refine wpAnyH_take (i := 14) (v := ?qvu25) rfl (by kernel_rfl) (by kernel_rfl) (by kernel_rfl) (fun _ _ _ h => h) (Or.inl ⟨by rfl, ?qyu25⟩) (by assumption) ?qru25; case qyu25 => ((intro w hSw; (try dsimp only at hSw); go_simp); try (with_reducible rfl))
    ((try simp only [List.getElem_toArray]); (try simp only [List.getElem_cons_succ]); (try simp only [List.getElem_cons_zero]); (try simp only [Act.put]); (try simp only [List.setIfInBounds_toArray]); (try simp only [List.set_cons_succ]); (try simp only [List.set_cons_zero]))
    refine wpAnyH_take (i := 15) (v := ?qvu26) rfl (by kernel_rfl) (by kernel_rfl) (by kernel_rfl) (fun _ _ _ h => h) (Or.inl ⟨by rfl, ?qyu26⟩) (by assumption) ?qru26; case qyu26 => ((intro w hSw; (try dsimp only at hSw); go_simp); try (with_reducible rfl))
    ((try simp only [List.getElem_toArray]); (try simp only [List.getElem_cons_succ]); (try simp only [List.getElem_cons_zero]); (try simp only [Act.put]); (try simp only [List.setIfInBounds_toArray]); (try simp only [List.set_cons_succ]); (try simp only [List.set_cons_zero]))
    refine wpAnyH_ready (rs := [16]) (by kernel_rfl) (by simp) ?_
    refine AllReadyH.cons rfl (fun K hK => ?_) AllReadyH.nil
    go_simp
    go_simp
    refine hK.out _ _ ⟨(World.cell?_setCell_other _ _ _ _ (NN.out _ _)).trans hHeld.1, (World.cell?_setCell_other _ _ _ _ (NN.out _ _)).trans hHeld.2⟩ (fun hHeld => ?_)
    clear hK K
    ((try simp only [List.getElem_toArray]); (try simp only [List.getElem_cons_succ]); (try simp only [List.getElem_cons_zero]); (try simp only [Act.put]); (try simp only [List.setIfInBounds_toArray]); (try simp only [List.set_cons_succ]); (try simp only [List.set_cons_zero]))
    refine wpAnyH_done (by kernel_rfl) ?_ _
    go_wp2; go_ret; exact ⟨rfl, FIN.out _ FB.out⟩
  · go_simp
    refine hK.out _ _ SB.out (fun hHeld => ?_)
    clear hK K
    ((try simp only [List.getElem_toArray]); (try simp only [List.getElem_cons_succ]); (try simp only [List.getElem_cons_zero]); (try simp only [Act.put]); (try simp only [List.setIfInBounds_toArray]); (try simp only [List.set_cons_succ]); (try simp only [List.set_cons_zero]))
    refine wpAnyH_ready (rs := [4, 12]) (by kernel_rfl) (by simp) ?_
    refine AllReadyH.cons rfl (fun K hK => ?_) (AllReadyH.cons rfl (fun K hK => ?_) AllReadyH.nil)
    · go_simp
      refine hK.out _ _ hHeld (fun hHeld => ?_)
      clear hK K
      ((try simp only [List.getElem_toArray]); (try simp only [List.getElem_cons_succ]); (try simp only [List.getElem_cons_zero]); (try simp only [Act.put]); (try simp only [List.setIfInBounds_toArray]); (try simp only [List.set_cons_succ]); (try simp only [List.set_cons_zero]))
      refine wpAnyH_ready (rs := [12]) (by kernel_rfl) (by simp) ?_
      refine AllReadyH.cons rfl (fun K hK => ?_) AllReadyH.nil
      go_simp
      refine hK.out _ _ ⟨(Keep.alloc (Keep.refl (fun _ => False) _) _).cell hHeld.1 id, (Keep.alloc (Keep.refl (fun _ => False) _) _).cell hHeld.2 id⟩ (fun hHeld => ?_)
      clear hK K
      ((try simp only [List.getElem_toArray]); (try simp only [List.getElem_cons_succ]); (try simp only [List.getElem_cons_zero]); (try simp only [Act.put]); (try simp only [List.setIfInBounds_toArray]); (try simp only [List.set_cons_succ]); (try simp only [List.set_cons_zero]))
      refine wpAnyH_ready (rs := [13]) (by kernel_rfl) (by simp) ?_
      refine AllReadyH.cons rfl (fun K hK => ?_) AllReadyH.nil
      refine step_pushM Tryd.underlying53 info_tn rfl (by decide) (by decide) pF_len pF_one rfl (.tmp 25) (.tmp 33) rfl _ B (by rfl) OWN.out nb (by rfl) LB.out ?_
      intro g4 c4 y4 o4 k4 hg4
      rw [LE.out] at o4
      obtain ⟨⟨uu, cu⟩, fu, F4⟩ := AFT.out g4 c4 y4 o4 k4 hg4
      have FB := Lib.hid F4
      have SY := Lib.hid (And.intro (k4.cell SB.out.1 NV.out) (k4.cell SB.out.2 NV.out))
      clear o4 k4 hg4 F4
      refine hK.out _ _ SY.out (fun hHeld => ?_)
      clear hK K
      ((try simp only [List.getElem_toArray]); (try simp only [List.getElem_cons_succ]); (try simp only [List.getElem_cons_zero]); (try simp only [Act.put]); (try simp only [List.setIfInBounds_toArray]); (try simp only [List.set_cons_succ]); (try simp only [List.set_cons_zero]))
      refine wpAnyH_take (i := 14) (v := ?qvu27) rfl (by kernel_rfl) (by kernel_rfl) (by kernel_rfl) (fun _ _ _ h => h) (Or.inl ⟨by rfl, ?qyu27⟩) (by assumption) ?qru27; case qyu27 => ((intro w hSw; (try dsimp only at hSw); go_simp); try (with_reducible rfl))
      ((try simp only [List.getElem_toArray]); (try simp only [List.getElem_cons_succ]); (try simp only [List.getElem_cons_zero]); (try simp only [Act.put]); (try simp only [List.setIfInBounds_toArray]); (try simp only [List.set_cons_succ]); (try simp only [List.set_cons_zero]))
      refine wpAnyH_take (i := 15) (v := ?qvu28) rfl (by kernel_rfl) (by kernel_rfl) (by kernel_rfl) (fun _ _ _ h => h) (Or.inl ⟨by rfl, ?qyu28⟩) (by assumption) ?qru28; case qyu28 => ((intro w hSw; (try dsimp only at hSw); go_simp); try (with_reducible rfl))
      ((try simp only [List.getElem_toArray]); (try simp only [List.getElem_cons_succ]); (try simp only [List.getElem_cons_zero]); (try simp only [Act.put]); (try simp only [List.setIfInBounds_toArray]); (try simp only [List.set_cons_succ]); (try simp only [List.set_cons_zero]))
      refine wpAnyH_ready (rs := [16]) (by kernel_rfl) (by simp) ?_
      refine AllReadyH.cons rfl (fun K hK => ?_) AllReadyH.nil
      go_simp
      go_simp
      refine hK.out _ _ ⟨(World.cell?_setCell_other _ _ _ _ (NN.out _ _)).trans hHeld.1, (World.cell?_setCell_other _ _ _ _ (NN.out _ _)).trans hHeld.2⟩ (fun hHeld => ?_)
      clear hK K
      ((try simp only [List.getElem_toArray]); (try simp only [List.getElem_cons_succ]); (try simp only [List.getElem_cons_zero]); (try simp only [Act.put]); (try simp only [List.setIfInBounds_toArray]); (try simp only [List.set_cons_succ]); (try simp only [List.set_cons_zero]))
      refine wpAnyH_done (by kernel_rfl) ?_ _
      go_wp2; go_ret; exact ⟨rfl, FIN.out _ FB.out⟩
    · go_simp
      refine hK.out _ _ ⟨(Keep.alloc (Keep.refl (fun _ => False) _) _).cell hHeld.1 id, (Keep.alloc (Keep.refl (fun _ => False) _) _).cell hHeld.2 id⟩ (fun hHeld => ?_)
      clear hK K
      ((try simp only [List.getElem_toArray]); (try simp only [List.getElem_cons_succ]); (try simp only [List.getElem_cons_zero]); (try simp only [Act.put]); (try simp only [List.setIfInBounds_toArray]); (try simp only [List.set_cons_succ]); (try simp only [List.set_cons_zero]))
      refine wpAnyH_ready (rs := [4]) (by kernel_rfl) (by simp) ?_
      refine AllReadyH.cons rfl (fun K hK => ?_) AllReadyH.nil
      go_simp
      refine hK.out _ _ hHeld (fun hHeld => ?_)
      clear hK K
      ((try simp only [List.getElem_toArray]); (try simp only [List.getElem_cons_succ]); (try simp only [List.getElem_cons_zero]); (try simp only [Act.put]); (try simp only [List.setIfInBounds_toArray]); (try simp only [List.set_cons_succ]); (try simp only [List.set_cons_zero]))
      refine wpAnyH_ready (rs := [13]) (by kernel_rfl) (by simp) ?_
      refine AllReadyH.cons rfl (fun K hK => ?_) AllReadyH.nil
      refine step_pushM Tryd.underlying53 info_tn rfl (by decide) (by decide) pF_len pF_one rfl (.tmp 25) (.tmp 33) rfl _ B (by rfl) OWN.out nb (by rfl) LB.out ?_
      intro g4 c4 y4 o4 k4 hg4
      rw [LE.out] at o4
      obtain ⟨⟨uu, cu⟩, fu, F4⟩ := AFT.out g4 c4 y4 o4 k4 hg4
      have FB := Lib.hid F4
      have SY := Lib.hid (And.intro (k4.cell SB.out.1 NV.out) (k4.cell SB.out.2 NV.out))
      clear o4 k4 hg4 F4
      refine hK.out _ _ SY.out (fun hHeld => ?_)
      clear hK K
      ((try simp only [List.getElem_toArray]); (try simp only [List.getElem_cons_succ]); (try simp only [List.getElem_cons_zero]); (try simp only [Act.put]); (try simp only [List.setIfInBounds_toArray]); (try simp only [List.set_cons_succ]); (try simp only [List.set_cons_zero]))
      refine wpAnyH_take (i := 14) (v := ?qvu29) rfl (by kernel_rfl) (by kernel_rfl) (by kernel_rfl) (fun _ _ _ h => h) (Or.inl ⟨by rfl, ?qyu29⟩) (by assumption) ?qru29; case qyu29 => ((intro w hSw; (try dsimp only at hSw); go_simp); try (with_reducible rfl))
      ((try simp only [List.getElem_toArray]); (try simp only [List.getElem_cons_succ]); (try simp only [List.getElem_cons_zero]); (try simp only [Act.put]); (try simp only [List.setIfInBounds_toArray]); (try simp only [List.set_cons_succ]); (try simp only [List.set_cons_zero]))
      refine wpAnyH_take (i := 15) (v := ?qvu30) rfl (by kernel_rfl) (by kernel_rfl) (by kernel_rfl) (fun _ _ _ h => h) (Or.inl ⟨by rfl, ?qyu30⟩) (by assumption) ?qru30; case qyu30 => ((intro w hSw; (try dsimp only at hSw); go_simp); try (with_reducible rfl))
      ((try simp only [List.getElem_toArray]); (try simp only [List.getElem_cons_succ]); (try simp only [List.getElem_cons_zero]); (try simp only [Act.put]); (try simp only [List.setIfInBounds_toArray]); (try simp only [List.set_cons_succ]); (try simp only [List.set_cons_zero]))
      refine wpAnyH_ready (rs := [16]) (by kernel_rfl) (by simp) ?_
      refine AllReadyH.cons rfl (fun K hK => ?_) AllReadyH.nil
      go_simp
      go_simp
      refine hK.out _ _ ⟨(World.cell?_setCell_other _ _ _ _ (NN.out _ _)).trans hHeld.1, (World.cell?_setCell_other _ _ _ _ (NN.out _ _)).trans hHeld.2⟩ (fun hHeld => ?_)
      clear hK K
      ((try simp only [List.getElem_toArray]); (try simp only [List.getElem_cons_succ]); (try simp only [List.getElem_cons_zero]); (try simp only [Act.put]); (try simp only [List.setIfInBounds_toArray]); (try simp only [List.set_cons_succ]); (try simp only [List.set_cons_zero]))
      refine wpAnyH_done (by kernel_rfl) ?_ _
      go_wp2; go_ret; exact ⟨rfl, FIN.out _ FB.out⟩
end
end Go.Proofs.YtalkfnblnlcklaaDoor
