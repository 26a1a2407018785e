/- Proved here: vinculumlaw17.MarkPlays returns true and leaves its arguments as they were, for every slice of Ops and every word; no further condition. -/
import Derived.Test.YtbbinfdgmfmaeaaMkL
import Derived.Test.YtbbinfdgmfmaeaaOps17
import Derived.Test.YtbbinfdgmfmaeaaSameO
import Derived.ChangeOld
import Derived.Deep.CutRange
import Derived.Deep.CutBlock
import Derived.Deep.LoopGhost
import Derived.Deep.RegionHeld3
namespace Go.Proofs.Ytbbinfdgmfmaeaa.markPlays
open Go.ChangeShapes Go.WideShapes Go.ChangeAt Go.RowKit
set_option linter.unusedVariables false

def Rel (w : World) (len m k : Nat) (v i : Value) (wr : World) : Prop :=
  ∃ S l, k ≤ len ∧ k ≤ 80 ∧ i = .int .i64 k ∧ MkL w wr m S l v l ∧ l.length ≤ k ∧ ∀ y ∈ l, U64 y
set_option maxRecDepth 100000 in
set_option maxHeartbeats 8000000 in
theorem walk (a0 : Option Addr) (len0 cap0 : Nat) (f : Nat → OpI) (a1 : Int) (w : World) (w0 : IsOps w a0 len0 cap0 f) (w1 : (Lit.int .u64 a1).wf = true) :
    Calls Try.prog 5 #[.slice a0 len0 cap0, .int .u64 a1] w fun e w' => e = .returned (.bool true) ∧ Below w.heap.size w w' := by
  obtain ⟨l1, l2, lc, ok2⟩ := w0
  have u1 : U64 a1 := bounds_u64 w1
  clear w1
  go_enter Try.func5, Try.ntmps5
  go_wp2_with fail
  refine (mk_new w).mono ?_
  rintro e y1 ⟨m, S1, rfl, C1⟩
  go_wp2_with fail
  refine (awake17_any _).mono ?_
  rintro e y2 ⟨rfl, b2⟩
  have C1 := C1.quiet (Keep.of_below b2 (fun _ => False))
  clear b2
  go_wp2
  go_loopg [6, 7] len0 (fun mm v i wr => ∃ k : Nat, mm + k = len0 ∧ Rel w len0 m k v i wr)
  case atStart => exact ⟨0, rfl, S1, [], Nat.zero_le _, by omega, rfl, MkL.start C1, by simp, by simp⟩
  case round =>
    obtain ⟨k, hgk, S, l, kl, k80, rfl, B, ll, lu⟩ := hrel
    clear C1
    by_cases hlt : k < len0 ∧ k < 80
    · obtain ⟨hl, h80⟩ := hlt
      obtain ⟨b, off, rfl, hb, hc⟩ := lc (by omega)
      obtain ⟨d0, d1⟩ := hc k hl
      obtain ⟨⟨s0, s1⟩, ⟨t0, t1⟩⟩ := ok2 k hl
      obtain ⟨o, eo⟩ : ∃ o, f k = o := ⟨_, rfl⟩
      rw [eo] at d0 d1 s0 s1 t0 t1
      obtain ⟨kd, x⟩ := o
      dsimp only at d0 d1 s0 s1 t0 t1
      have ux : U64 x := ⟨t0, t1⟩
      have d0 := (B.r.b.cell (p := ⟨b, off + k * 2, none⟩) hb).trans d0
      have d1 := (B.r.b.cell (p := ⟨b, off + k * 2 + 1, none⟩) hb).trans d1
      clear eo hc lc ok2 t0 t1
      obtain ⟨A, c, rfl, hA0, hA1⟩ := OwnU.out B.a
      obtain ⟨p, ep⟩ : ∃ p, posM l x = p := ⟨_, rfl⟩
      have pl : p ≤ l.length := by rw [← ep]; exact posM_le x l
      have plt : ∀ j, j < p → l.getD j 0 < x := fun j hj => posM_lt x l j (by rw [ep]; exact hj)
      have pat : p < l.length → ¬ l.getD p 0 < x := fun h => by have := posM_at x l (by rw [ep]; exact h); rw [ep] at this; exact this
      have dk : decide ((k : Int) < 80) = true := decide_eq_true (by omega)
      have wk : IntKind.i64.wrap ((k : Int) + 1) = (k : Int) + 1 := IntWalk.i64_in _ (by omega)
      go_upto_block 2 with fail
      clear d1
      go_cut [9] from 34 to 124 (fun kv wx => kv = .int .i64 p ∧ ∃ d, wx = wr.drewN d)
      case first =>
        clear d0
        go_wp2
        go_loopw [9] (fun kv wx => ∃ j d : Nat, j ≤ p ∧ kv = .int .i64 j ∧ wx = wr.drewN d) (fun kv _ => p - (intOf kv).toNat)
        case atStart => exact ⟨0, 0, Nat.zero_le _, rfl, rfl⟩
        case round =>
          obtain ⟨j, d, hj, rfl, rfl⟩ := hrel
          have wj : IntKind.i64.wrap ((j : Int) + 1) = (j : Int) + 1 := IntWalk.i64_in _ (by omega)
          have B := B.quiet (drewN_keep _ _ d)
          by_cases jl : j < l.length
          · cases A with
            | none => exact absurd (hA0 rfl) (by intro e; rw [e] at jl; simp at jl)
            | some ad =>
              obtain ⟨g, rfl⟩ := hA1 _ rfl
              have cj := OwnU.cell B.a j jl
              by_cases jp : j < p
              · have hy := plt j jp
                obtain ⟨y, ey⟩ : ∃ y, l.getD j 0 = y := ⟨_, rfl⟩
                rw [ey] at cj hy
                have dy : decide (y < x) = true := decide_eq_true hy
                clear ey plt pat hA0 hA1
                go_wp2
                first | exact ⟨⟨j + 1, d, by omega, by go_num, rfl⟩, by simp [intOf]; omega⟩ | (refine ⟨?rel2, ?meas2⟩; (case meas2 => (simp [intOf]; omega)); (case rel2 => ((repeat apply Exists.intro); exact ⟨⟨j + 1, d, by omega, by go_num, rfl⟩, rfl⟩)))
              · obtain rfl : j = p := by omega
                have hy := pat jl
                obtain ⟨y, ey⟩ : ∃ y, l.getD j 0 = y := ⟨_, rfl⟩
                rw [ey] at cj hy
                have dy : decide (y < x) = false := decide_eq_false (by omega)
                clear ey plt pat hA0 hA1
                go_wp2
                go_meet
                case rel => exact ⟨rfl, d, rfl⟩
          · obtain rfl : j = p := by omega
            clear plt pat hA0 hA1
            go_wp2
            go_meet
            case rel => exact ⟨rfl, d, rfl⟩
      case rest =>
      obtain ⟨rfl, d, rfl⟩ := hcut
      have d0 := (drewN_keep (fun _ => False) wr d).cell d0 (fun h => h)
      have B := B.quiet (drewN_keep _ _ d)
      obtain ⟨wA, eA⟩ : ∃ x, wr.drewN d = x := ⟨_, rfl⟩
      rw [eA] at d0 B ⊢
      clear eA
      clear plt
      go_upto_if 53 with fail
      clear d0
      go_cut [6, 10] from 53 to 124 (fun v q wx => ∃ S l, MkL w wx m S l v l ∧ l.length ≤ k + 1 ∧ ∀ y ∈ l, U64 y)
      case first =>
        by_cases k0 : kd = 0
        · subst k0
          have lu' : ∀ y ∈ insM l x, U64 y := fun y hy => by
            rcases insM_mem.1 hy with rfl | hy
            · exact ux
            · exact lu y hy
          have le' : (insM l x).length ≤ k + 1 := by rw [insM_len]; omega
          rcases B.a.shape with ⟨ev, el⟩ | ⟨g1, c1, ev, gB, gz, hc⟩
          · subst el
            obtain rfl : p = 0 := by simpa using pl
            cases ev
            have he : insM [] x = [x] := rfl
            clear ep pat hA0 hA1 lu
            go_wp2_with fail
            refine (mk_enter B.r (by simp) x ux).mono ?_
            rintro e y3 ⟨rfl, S3, C3, k3⟩
            have B := B.step C3 k3
            clear C3 k3
            have ho2 := B.a
            go_wp2_with fail
            have kc : Keep (fun j => y3.heap.size ≤ j) y3 y3.drew := (Keep.refl _ _).drew
            refine wp_region_held_drew (S := (fun _ => True)) (by kernel_rfl) trivial (fun hHeld => ?_)
            generalize y3.drew = Z at kc ⊢
            obtain ⟨M, eM⟩ : ∃ M, y3.heap.size = M := ⟨_, rfl⟩
            rw [eM] at kc
            have sc : M ≤ Z.heap.size := by rw [← eM]; exact kc.size
            refine wpAnyH_take (i := 1) (v := ?qvna1) rfl (by kernel_rfl) (by kernel_rfl) (by kernel_rfl) (fun _ _ _ h => h) (Or.inl ⟨by rfl, ?qyna1⟩) (by assumption) ?qrna1; case qyna1 => ((intro w hSw; (try dsimp only at hSw); go_simp); try (with_reducible rfl))
            ((try simp only [List.getElem_toArray]); (try simp only [List.getElem_cons_succ]); (try simp only [List.getElem_cons_zero]); (try simp only [Act.put]); (try simp only [List.setIfInBounds_toArray]); (try simp only [List.set_cons_succ]); (try simp only [List.set_cons_zero]))
            refine wpAnyH_take (i := 2) (v := ?qvna2) rfl (by kernel_rfl) (by kernel_rfl) (by kernel_rfl) (fun _ _ _ h => h) (Or.inl ⟨by rfl, ?qyna2⟩) (by assumption) ?qrna2; case qyna2 => ((intro w hSw; (try dsimp only at hSw); go_simp); try (with_reducible rfl))
            ((try simp only [List.getElem_toArray]); (try simp only [List.getElem_cons_succ]); (try simp only [List.getElem_cons_zero]); (try simp only [Act.put]); (try simp only [List.setIfInBounds_toArray]); (try simp only [List.set_cons_succ]); (try simp only [List.set_cons_zero]))
            refine wpAnyH_take (i := 3) (v := ?qvna3) rfl (by kernel_rfl) (by kernel_rfl) (by kernel_rfl) (fun _ _ _ h => h) (Or.inl ⟨by rfl, ?qyna3⟩) (by assumption) ?qrna3; case qyna3 => ((intro w hSw; (try dsimp only at hSw); go_simp); try (with_reducible rfl))
            ((try simp only [List.getElem_toArray]); (try simp only [List.getElem_cons_succ]); (try simp only [List.getElem_cons_zero]); (try simp only [Act.put]); (try simp only [List.setIfInBounds_toArray]); (try simp only [List.set_cons_succ]); (try simp only [List.set_cons_zero]))
            refine wpAnyH_take (i := 5) (v := ?qvna4) rfl (by kernel_rfl) (by kernel_rfl) (by kernel_rfl) (fun _ _ _ h => h) (Or.inl ⟨by rfl, ?qyna4⟩) (by assumption) ?qrna4; case qyna4 => ((intro w hSw; (try dsimp only at hSw); go_simp); try (with_reducible rfl))
            ((try simp only [List.getElem_toArray]); (try simp only [List.getElem_cons_succ]); (try simp only [List.getElem_cons_zero]); (try simp only [Act.put]); (try simp only [List.setIfInBounds_toArray]); (try simp only [List.set_cons_succ]); (try simp only [List.set_cons_zero]))
            refine wpAnyH_take (i := 8) (v := ?qvna5) rfl (by kernel_rfl) (by kernel_rfl) (by kernel_rfl) (fun _ _ _ h => h) (Or.inl ⟨by rfl, ?qyna5⟩) (by assumption) ?qrna5; case qyna5 => ((intro w hSw; (try dsimp only at hSw); go_simp); try (with_reducible rfl))
            ((try simp only [List.getElem_toArray]); (try simp only [List.getElem_cons_succ]); (try simp only [List.getElem_cons_zero]); (try simp only [Act.put]); (try simp only [List.setIfInBounds_toArray]); (try simp only [List.set_cons_succ]); (try simp only [List.set_cons_zero]))
            refine wpAnyH_take (i := 9) (v := ?qvna6) rfl (by kernel_rfl) (by kernel_rfl) (by kernel_rfl) (fun _ _ _ h => h) (Or.inl ⟨by rfl, ?qyna6⟩) (by assumption) ?qrna6; case qyna6 => ((intro w hSw; (try dsimp only at hSw); go_simp); try (with_reducible rfl))
            ((try simp only [List.getElem_toArray]); (try simp only [List.getElem_cons_succ]); (try simp only [List.getElem_cons_zero]); (try simp only [Act.put]); (try simp only [List.setIfInBounds_toArray]); (try simp only [List.set_cons_succ]); (try simp only [List.set_cons_zero]))
            refine wpAnyH_take (i := 10) (v := ?qvna7) rfl (by kernel_rfl) (by kernel_rfl) (by kernel_rfl) (fun _ _ _ h => h) (Or.inl ⟨by rfl, ?qyna7⟩) (by assumption) ?qrna7; case qyna7 => ((intro w hSw; (try dsimp only at hSw); go_simp); try (with_reducible rfl))
            ((try simp only [List.getElem_toArray]); (try simp only [List.getElem_cons_succ]); (try simp only [List.getElem_cons_zero]); (try simp only [Act.put]); (try simp only [List.setIfInBounds_toArray]); (try simp only [List.set_cons_succ]); (try simp only [List.set_cons_zero]))
            refine wpAnyH_ready (rs := [0, 6]) (by kernel_rfl) (by simp) ?_
            refine AllReadyH.cons rfl (fun K hK => ?_) (AllReadyH.cons rfl (fun K hK => ?_) AllReadyH.nil)
            · skip
              go_simp
              refine hK.out _ _ trivial (fun hHeld => ?_)
              clear hK K
              obtain ⟨Y1, eX, oC, kE, lE⟩ := emp_own Z sc
              rw [eX]
              clear eX
              obtain ⟨gC, hgC⟩ : ∃ g, Z.heap.size = g := ⟨_, rfl⟩
              rw [hgC] at oC ⊢
              have kc := kc.trans (kE.mono (T := fun j => M ≤ j) (fun _ h => h.elim))
              have sc : M ≤ Y1.heap.size := by omega
              ((try simp only [List.getElem_toArray]); (try simp only [List.getElem_cons_succ]); (try simp only [List.getElem_cons_zero]); (try simp only [Act.put]); (try simp only [List.setIfInBounds_toArray]); (try simp only [List.set_cons_succ]); (try simp only [List.set_cons_zero]))
              refine wpAnyH_ready (rs := [4, 6]) (by kernel_rfl) (by simp) ?_
              refine AllReadyH.cons rfl (fun K hK => ?_) (AllReadyH.cons rfl (fun K hK => ?_) AllReadyH.nil)
              · skip
                refine step_none rfl (.tmp 57) (.tmp 60) rfl gC 0 0 rfl (Nat.le_refl _) rfl ?_
                refine hK.out _ _ trivial (fun hHeld => ?_)
                clear hK K
                ((try simp only [List.getElem_toArray]); (try simp only [List.getElem_cons_succ]); (try simp only [List.getElem_cons_zero]); (try simp only [Act.put]); (try simp only [List.setIfInBounds_toArray]); (try simp only [List.set_cons_succ]); (try simp only [List.set_cons_zero]))
                refine wpAnyH_ready (rs := [6]) (by kernel_rfl) (by simp) ?_
                refine AllReadyH.cons rfl (fun K hK => ?_) AllReadyH.nil
                go_simp
                refine hK.out _ _ trivial (fun hHeld => ?_)
                clear hK K
                obtain ⟨X2, eX, oL, kL, lL⟩ := lit_own Y1 x sc
                rw [eX]
                clear eX
                obtain ⟨gL, hgL⟩ : ∃ g, Y1.heap.size = g := ⟨_, rfl⟩
                rw [hgL] at oL ⊢
                have nLC := (OwnU.lt (g := gC) oC rfl).2
                have nLC : gL ≠ gC := by omega
                have oC := OwnU.keep oC kL (by simp)
                have kc := kc.trans (kL.mono (T := fun j => M ≤ j) (fun _ h => h.elim))
                have sc : M ≤ X2.heap.size := by omega
                ((try simp only [List.getElem_toArray]); (try simp only [List.getElem_cons_succ]); (try simp only [List.getElem_cons_zero]); (try simp only [Act.put]); (try simp only [List.setIfInBounds_toArray]); (try simp only [List.set_cons_succ]); (try simp only [List.set_cons_zero]))
                refine wpAnyH_ready (rs := [7]) (by kernel_rfl) (by simp) ?_
                refine AllReadyH.cons rfl (fun K hK => ?_) AllReadyH.nil
                refine step_apps rfl (.tmp 61) (.tmp 63) rfl M sc gC 0 0 [] rfl rfl oC ⟨gL, 0, none⟩ 1 1 [x] rfl rfl (all_at (c := 1) oL (fun t u h => h)) (by simp <;> omega) (by simp <;> omega) ?_
                intro g3 c4 w5 oN kN dN
                have hC := (OwnU.lt (g := gC) oC rfl).1
                rw [List.nil_append] at oN
                rw [Nat.zero_add] at oN ⊢
                have nLC : gL ≠ g3 := by have := (OwnU.lt (g := gL) oL rfl).2; omega
                have oL := OwnU.keep oL kN (fun z hz => by simp [Value.ownBlock] at hz; omega)
                have kc := kc.trans (kN.mono (T := fun j => M ≤ j) (fun j hj => by omega))
                have sc : M ≤ w5.heap.size := Nat.le_trans sc kN.size
                clear oC kN dN hC
                have oC := oN
                clear oN
                refine hK.out _ _ trivial (fun hHeld => ?_)
                clear hK K
                ((try simp only [List.getElem_toArray]); (try simp only [List.getElem_cons_succ]); (try simp only [List.getElem_cons_zero]); (try simp only [Act.put]); (try simp only [List.setIfInBounds_toArray]); (try simp only [List.set_cons_succ]); (try simp only [List.set_cons_zero]))
                refine wpAnyH_ready (rs := [11]) (by kernel_rfl) (by simp) ?_
                refine AllReadyH.cons rfl (fun K hK => ?_) AllReadyH.nil
                refine step_none rfl (.tmp 64) (.tmp 67) rfl g3 1 c4 rfl (OwnU.fits oC) rfl ?_
                refine hK.out _ _ trivial (fun hHeld => ?_)
                clear hK K
                ((try simp only [List.getElem_toArray]); (try simp only [List.getElem_cons_succ]); (try simp only [List.getElem_cons_zero]); (try simp only [Act.put]); (try simp only [List.setIfInBounds_toArray]); (try simp only [List.set_cons_succ]); (try simp only [List.set_cons_zero]))
                refine wpAnyH_take (i := 12) (v := ?qvna8) rfl (by kernel_rfl) (by kernel_rfl) (by kernel_rfl) (fun _ _ _ h => h) (Or.inl ⟨by rfl, ?qyna8⟩) (by assumption) ?qrna8; case qyna8 => ((intro w hSw; (try dsimp only at hSw); go_simp); try (with_reducible rfl))
                ((try simp only [List.getElem_toArray]); (try simp only [List.getElem_cons_succ]); (try simp only [List.getElem_cons_zero]); (try simp only [Act.put]); (try simp only [List.setIfInBounds_toArray]); (try simp only [List.set_cons_succ]); (try simp only [List.set_cons_zero]))
                refine wpAnyH_done (by kernel_rfl) ?_ _
                have B := B.anew (oC.lower (by have := B.r.b.size; omega)) kc (fun j hj => by rw [eM]; exact hj) (fun j hj => by rw [eM]; exact (OwnU.lt oC hj).1)
                rw [← he] at B
                clear oC oL nLC kc sc
                go_wp2_with fail
                go_meet
                case rel => exact ⟨_, _, B, by omega, lu'⟩
              · skip
                go_simp
                refine hK.out _ _ trivial (fun hHeld => ?_)
                clear hK K
                obtain ⟨X6, eX, oL, kL, lL⟩ := lit_own Y1 x sc
                rw [eX]
                clear eX
                obtain ⟨gL, hgL⟩ : ∃ g, Y1.heap.size = g := ⟨_, rfl⟩
                rw [hgL] at oL ⊢
                have nLC := (OwnU.lt (g := gC) oC rfl).2
                have nLC : gL ≠ gC := by omega
                have oC := OwnU.keep oC kL (by simp)
                have kc := kc.trans (kL.mono (T := fun j => M ≤ j) (fun _ h => h.elim))
                have sc : M ≤ X6.heap.size := by omega
                ((try simp only [List.getElem_toArray]); (try simp only [List.getElem_cons_succ]); (try simp only [List.getElem_cons_zero]); (try simp only [Act.put]); (try simp only [List.setIfInBounds_toArray]); (try simp only [List.set_cons_succ]); (try simp only [List.set_cons_zero]))
                refine wpAnyH_ready (rs := [4]) (by kernel_rfl) (by simp) ?_
                refine AllReadyH.cons rfl (fun K hK => ?_) AllReadyH.nil
                refine step_none rfl (.tmp 57) (.tmp 60) rfl gC 0 0 rfl (Nat.le_refl _) rfl ?_
                refine hK.out _ _ trivial (fun hHeld => ?_)
                clear hK K
                ((try simp only [List.getElem_toArray]); (try simp only [List.getElem_cons_succ]); (try simp only [List.getElem_cons_zero]); (try simp only [Act.put]); (try simp only [List.setIfInBounds_toArray]); (try simp only [List.set_cons_succ]); (try simp only [List.set_cons_zero]))
                refine wpAnyH_ready (rs := [7]) (by kernel_rfl) (by simp) ?_
                refine AllReadyH.cons rfl (fun K hK => ?_) AllReadyH.nil
                refine step_apps rfl (.tmp 61) (.tmp 63) rfl M sc gC 0 0 [] rfl rfl oC ⟨gL, 0, none⟩ 1 1 [x] rfl rfl (all_at (c := 1) oL (fun t u h => h)) (by simp <;> omega) (by simp <;> omega) ?_
                intro g7 c8 w9 oN kN dN
                have hC := (OwnU.lt (g := gC) oC rfl).1
                rw [List.nil_append] at oN
                rw [Nat.zero_add] at oN ⊢
                have nLC : gL ≠ g7 := by have := (OwnU.lt (g := gL) oL rfl).2; omega
                have oL := OwnU.keep oL kN (fun z hz => by simp [Value.ownBlock] at hz; omega)
                have kc := kc.trans (kN.mono (T := fun j => M ≤ j) (fun j hj => by omega))
                have sc : M ≤ w9.heap.size := Nat.le_trans sc kN.size
                clear oC kN dN hC
                have oC := oN
                clear oN
                refine hK.out _ _ trivial (fun hHeld => ?_)
                clear hK K
                ((try simp only [List.getElem_toArray]); (try simp only [List.getElem_cons_succ]); (try simp only [List.getElem_cons_zero]); (try simp only [Act.put]); (try simp only [List.setIfInBounds_toArray]); (try simp only [List.set_cons_succ]); (try simp only [List.set_cons_zero]))
                refine wpAnyH_ready (rs := [11]) (by kernel_rfl) (by simp) ?_
                refine AllReadyH.cons rfl (fun K hK => ?_) AllReadyH.nil
                refine step_none rfl (.tmp 64) (.tmp 67) rfl g7 1 c8 rfl (OwnU.fits oC) rfl ?_
                refine hK.out _ _ trivial (fun hHeld => ?_)
                clear hK K
                ((try simp only [List.getElem_toArray]); (try simp only [List.getElem_cons_succ]); (try simp only [List.getElem_cons_zero]); (try simp only [Act.put]); (try simp only [List.setIfInBounds_toArray]); (try simp only [List.set_cons_succ]); (try simp only [List.set_cons_zero]))
                refine wpAnyH_take (i := 12) (v := ?qvna9) rfl (by kernel_rfl) (by kernel_rfl) (by kernel_rfl) (fun _ _ _ h => h) (Or.inl ⟨by rfl, ?qyna9⟩) (by assumption) ?qrna9; case qyna9 => ((intro w hSw; (try dsimp only at hSw); go_simp); try (with_reducible rfl))
                ((try simp only [List.getElem_toArray]); (try simp only [List.getElem_cons_succ]); (try simp only [List.getElem_cons_zero]); (try simp only [Act.put]); (try simp only [List.setIfInBounds_toArray]); (try simp only [List.set_cons_succ]); (try simp only [List.set_cons_zero]))
                refine wpAnyH_done (by kernel_rfl) ?_ _
                have B := B.anew (oC.lower (by have := B.r.b.size; omega)) kc (fun j hj => by rw [eM]; exact hj) (fun j hj => by rw [eM]; exact (OwnU.lt oC hj).1)
                rw [← he] at B
                clear oC oL nLC kc sc
                go_wp2_with fail
                go_meet
                case rel => exact ⟨_, _, B, by omega, lu'⟩
            · skip
              go_simp
              refine hK.out _ _ trivial (fun hHeld => ?_)
              clear hK K
              obtain ⟨X10, eX, oL, kL, lL⟩ := lit_own Z x sc
              rw [eX]
              clear eX
              obtain ⟨gL, hgL⟩ : ∃ g, Z.heap.size = g := ⟨_, rfl⟩
              rw [hgL] at oL ⊢
              have kc := kc.trans (kL.mono (T := fun j => M ≤ j) (fun _ h => h.elim))
              have sc : M ≤ X10.heap.size := by omega
              ((try simp only [List.getElem_toArray]); (try simp only [List.getElem_cons_succ]); (try simp only [List.getElem_cons_zero]); (try simp only [Act.put]); (try simp only [List.setIfInBounds_toArray]); (try simp only [List.set_cons_succ]); (try simp only [List.set_cons_zero]))
              refine wpAnyH_ready (rs := [0]) (by kernel_rfl) (by simp) ?_
              refine AllReadyH.cons rfl (fun K hK => ?_) AllReadyH.nil
              go_simp
              refine hK.out _ _ trivial (fun hHeld => ?_)
              clear hK K
              obtain ⟨Y11, eX, oC, kE, lE⟩ := emp_own X10 sc
              rw [eX]
              clear eX
              obtain ⟨gC, hgC⟩ : ∃ g, X10.heap.size = g := ⟨_, rfl⟩
              rw [hgC] at oC ⊢
              have nLC : gL ≠ gC := by have := (OwnU.lt (g := gL) oL rfl).2; omega
              have oL := OwnU.keep oL kE (by simp)
              have kc := kc.trans (kE.mono (T := fun j => M ≤ j) (fun _ h => h.elim))
              have sc : M ≤ Y11.heap.size := by omega
              ((try simp only [List.getElem_toArray]); (try simp only [List.getElem_cons_succ]); (try simp only [List.getElem_cons_zero]); (try simp only [Act.put]); (try simp only [List.setIfInBounds_toArray]); (try simp only [List.set_cons_succ]); (try simp only [List.set_cons_zero]))
              refine wpAnyH_ready (rs := [4]) (by kernel_rfl) (by simp) ?_
              refine AllReadyH.cons rfl (fun K hK => ?_) AllReadyH.nil
              refine step_none rfl (.tmp 57) (.tmp 60) rfl gC 0 0 rfl (Nat.le_refl _) rfl ?_
              refine hK.out _ _ trivial (fun hHeld => ?_)
              clear hK K
              ((try simp only [List.getElem_toArray]); (try simp only [List.getElem_cons_succ]); (try simp only [List.getElem_cons_zero]); (try simp only [Act.put]); (try simp only [List.setIfInBounds_toArray]); (try simp only [List.set_cons_succ]); (try simp only [List.set_cons_zero]))
              refine wpAnyH_ready (rs := [7]) (by kernel_rfl) (by simp) ?_
              refine AllReadyH.cons rfl (fun K hK => ?_) AllReadyH.nil
              refine step_apps rfl (.tmp 61) (.tmp 63) rfl M sc gC 0 0 [] rfl rfl oC ⟨gL, 0, none⟩ 1 1 [x] rfl rfl (all_at (c := 1) oL (fun t u h => h)) (by simp <;> omega) (by simp <;> omega) ?_
              intro g12 c13 w14 oN kN dN
              have hC := (OwnU.lt (g := gC) oC rfl).1
              rw [List.nil_append] at oN
              rw [Nat.zero_add] at oN ⊢
              have nLC : gL ≠ g12 := by have := (OwnU.lt (g := gL) oL rfl).2; omega
              have oL := OwnU.keep oL kN (fun z hz => by simp [Value.ownBlock] at hz; omega)
              have kc := kc.trans (kN.mono (T := fun j => M ≤ j) (fun j hj => by omega))
              have sc : M ≤ w14.heap.size := Nat.le_trans sc kN.size
              clear oC kN dN hC
              have oC := oN
              clear oN
              refine hK.out _ _ trivial (fun hHeld => ?_)
              clear hK K
              ((try simp only [List.getElem_toArray]); (try simp only [List.getElem_cons_succ]); (try simp only [List.getElem_cons_zero]); (try simp only [Act.put]); (try simp only [List.setIfInBounds_toArray]); (try simp only [List.set_cons_succ]); (try simp only [List.set_cons_zero]))
              refine wpAnyH_ready (rs := [11]) (by kernel_rfl) (by simp) ?_
              refine AllReadyH.cons rfl (fun K hK => ?_) AllReadyH.nil
              refine step_none rfl (.tmp 64) (.tmp 67) rfl g12 1 c13 rfl (OwnU.fits oC) rfl ?_
              refine hK.out _ _ trivial (fun hHeld => ?_)
              clear hK K
              ((try simp only [List.getElem_toArray]); (try simp only [List.getElem_cons_succ]); (try simp only [List.getElem_cons_zero]); (try simp only [Act.put]); (try simp only [List.setIfInBounds_toArray]); (try simp only [List.set_cons_succ]); (try simp only [List.set_cons_zero]))
              refine wpAnyH_take (i := 12) (v := ?qvna10) rfl (by kernel_rfl) (by kernel_rfl) (by kernel_rfl) (fun _ _ _ h => h) (Or.inl ⟨by rfl, ?qyna10⟩) (by assumption) ?qrna10; case qyna10 => ((intro w hSw; (try dsimp only at hSw); go_simp); try (with_reducible rfl))
              ((try simp only [List.getElem_toArray]); (try simp only [List.getElem_cons_succ]); (try simp only [List.getElem_cons_zero]); (try simp only [Act.put]); (try simp only [List.setIfInBounds_toArray]); (try simp only [List.set_cons_succ]); (try simp only [List.set_cons_zero]))
              refine wpAnyH_done (by kernel_rfl) ?_ _
              have B := B.anew (oC.lower (by have := B.r.b.size; omega)) kc (fun j hj => by rw [eM]; exact hj) (fun j hj => by rw [eM]; exact (OwnU.lt oC hj).1)
              rw [← he] at B
              clear oC oL nLC kc sc
              go_wp2_with fail
              go_meet
              case rel => exact ⟨_, _, B, by omega, lu'⟩
          · cases ev
            have he : insM l x = l.take p ++ [x] ++ l.drop p := by
              have := insM_pos x l
              rw [ep] at this
              rw [this, List.append_assoc]
              rfl
            clear ep pat hA0 hA1 lu
            go_wp2_with fail
            refine (mk_enter B.r (by omega) x ux).mono ?_
            rintro e y3 ⟨rfl, S3, C3, k3⟩
            have gz := Nat.lt_of_lt_of_le gz k3.1.size
            have B := B.step C3 k3
            clear C3 k3
            have ho2 := B.a
            go_wp2_with fail
            have r0 : (0 : Int) ≤ (p : Int) := by omega
            have sj5 : p ≤ c := by omega
            have sj7 : p ≤ l.length := by omega
            have sj9 : (p : Int) ≤ (l.length : Int) := by omega
            obtain ⟨ad, ead, had⟩ : ∃ ad : Addr, (if c = p then some ({ block := g1, off := 0 } : Addr) else some { block := g1, off := p }) = some ad ∧ (¬ c = p → ad = ⟨g1, p, none⟩) := by
              by_cases hc : c = p
              · exact ⟨⟨g1, 0, none⟩, by rw [if_pos hc], fun h => absurd hc h⟩
              · exact ⟨⟨g1, p, none⟩, by rw [if_neg hc], fun _ => rfl⟩
            have kc : Keep (fun j => y3.heap.size ≤ j) y3 y3.drew := (Keep.refl _ _).drew
            refine wp_region_held_drew (S := (fun _ => True)) (by kernel_rfl) trivial (fun hHeld => ?_)
            generalize y3.drew = Z at kc ⊢
            obtain ⟨M, eM⟩ : ∃ M, y3.heap.size = M := ⟨_, rfl⟩
            rw [eM] at kc gz
            have sc : M ≤ Z.heap.size := by rw [← eM]; exact kc.size
            have tw : ∀ (W : World), Keep (fun j => M ≤ j) y3 W → ∀ t, t < (l.take p).length → W.cell? ((⟨g1, 0, none⟩ : Addr).add t) = some (.int .u64 ((l.take p).getD t 0)) := fun W kw => take_at ho2 (fun t u h => kw.cell h (by show ¬ M ≤ g1; omega)) p
            have dw : ∀ (W : World), Keep (fun j => M ≤ j) y3 W → ∀ t, t < (l.drop p).length → W.cell? (ad.add t) = some (.int .u64 ((l.drop p).getD t 0)) := fun W kw => drop_at ho2 (fun t u h => kw.cell h (by show ¬ M ≤ g1; omega)) p had (by omega)
            have tl : (l.take p).length = p := by rw [List.length_take]; omega
            have dl : (l.drop p).length = l.length - p := by rw [List.length_drop]
            have tN : (l.take p ++ [x]).length = p + 1 := by rw [List.length_append, tl]; rfl
            obtain ⟨N1, hN1⟩ : ∃ N1, p + 1 + (l.length - p) = N1 := ⟨_, rfl⟩
            refine wpAnyH_take (i := 1) (v := ?qvoa1) rfl (by kernel_rfl) (by kernel_rfl) (by kernel_rfl) (fun _ _ _ h => h) (Or.inl ⟨by rfl, ?qyoa1⟩) (by assumption) ?qroa1; case qyoa1 => ((intro w hSw; (try dsimp only at hSw); go_simp); try (with_reducible rfl))
            ((try simp only [List.getElem_toArray]); (try simp only [List.getElem_cons_succ]); (try simp only [List.getElem_cons_zero]); (try simp only [Act.put]); (try simp only [List.setIfInBounds_toArray]); (try simp only [List.set_cons_succ]); (try simp only [List.set_cons_zero]))
            refine wpAnyH_take (i := 2) (v := ?qvoa2) rfl (by kernel_rfl) (by kernel_rfl) (by kernel_rfl) (fun _ _ _ h => h) (Or.inl ⟨by rfl, ?qyoa2⟩) (by assumption) ?qroa2; case qyoa2 => ((intro w hSw; (try dsimp only at hSw); go_simp); try (with_reducible rfl))
            ((try simp only [List.getElem_toArray]); (try simp only [List.getElem_cons_succ]); (try simp only [List.getElem_cons_zero]); (try simp only [Act.put]); (try simp only [List.setIfInBounds_toArray]); (try simp only [List.set_cons_succ]); (try simp only [List.set_cons_zero]))
            refine wpAnyH_take (i := 3) (v := ?qvoa3) rfl (by kernel_rfl) (by kernel_rfl) (by kernel_rfl) (fun _ _ _ h => h) (Or.inl ⟨by rfl, ?qyoa3⟩) (by assumption) ?qroa3; case qyoa3 => ((intro w hSw; (try dsimp only at hSw); go_simp); try (with_reducible rfl))
            ((try simp only [List.getElem_toArray]); (try simp only [List.getElem_cons_succ]); (try simp only [List.getElem_cons_zero]); (try simp only [Act.put]); (try simp only [List.setIfInBounds_toArray]); (try simp only [List.set_cons_succ]); (try simp only [List.set_cons_zero]))
            refine wpAnyH_take (i := 5) (v := ?qvoa4) rfl (by kernel_rfl) (by kernel_rfl) (by kernel_rfl) (fun _ _ _ h => h) (Or.inl ⟨by rfl, ?qyoa4⟩) (by assumption) ?qroa4; case qyoa4 => ((intro w hSw; (try dsimp only at hSw); go_simp); try (with_reducible rfl))
            ((try simp only [List.getElem_toArray]); (try simp only [List.getElem_cons_succ]); (try simp only [List.getElem_cons_zero]); (try simp only [Act.put]); (try simp only [List.setIfInBounds_toArray]); (try simp only [List.set_cons_succ]); (try simp only [List.set_cons_zero]))
            refine wpAnyH_take (i := 8) (v := ?qvoa5) rfl (by kernel_rfl) (by kernel_rfl) (by kernel_rfl) (fun _ _ _ h => h) (Or.inl ⟨by rfl, ?qyoa5⟩) (by assumption) ?qroa5; case qyoa5 => ((intro w hSw; (try dsimp only at hSw); go_simp); try (with_reducible rfl))
            ((try simp only [List.getElem_toArray]); (try simp only [List.getElem_cons_succ]); (try simp only [List.getElem_cons_zero]); (try simp only [Act.put]); (try simp only [List.setIfInBounds_toArray]); (try simp only [List.set_cons_succ]); (try simp only [List.set_cons_zero]))
            refine wpAnyH_take (i := 9) (v := ?qvoa6) rfl (by kernel_rfl) (by kernel_rfl) (by kernel_rfl) (fun _ _ _ h => h) (Or.inl ⟨by rfl, ?qyoa6⟩) (by assumption) ?qroa6; case qyoa6 => ((intro w hSw; (try dsimp only at hSw); go_simp); try (with_reducible rfl))
            ((try simp only [List.getElem_toArray]); (try simp only [List.getElem_cons_succ]); (try simp only [List.getElem_cons_zero]); (try simp only [Act.put]); (try simp only [List.setIfInBounds_toArray]); (try simp only [List.set_cons_succ]); (try simp only [List.set_cons_zero]))
            refine wpAnyH_take (i := 10) (v := ?qvoa7) rfl (by kernel_rfl) (by kernel_rfl) (by kernel_rfl) (fun _ _ _ h => h) (Or.inl ⟨by rfl, ?qyoa7⟩) (by assumption) ?qroa7; case qyoa7 => ((intro w hSw; (try dsimp only at hSw); go_simp); try (with_reducible rfl))
            ((try simp only [List.getElem_toArray]); (try simp only [List.getElem_cons_succ]); (try simp only [List.getElem_cons_zero]); (try simp only [Act.put]); (try simp only [List.setIfInBounds_toArray]); (try simp only [List.set_cons_succ]); (try simp only [List.set_cons_zero]))
            refine wpAnyH_ready (rs := [0, 6]) (by kernel_rfl) (by simp) ?_
            refine AllReadyH.cons rfl (fun K hK => ?_) (AllReadyH.cons rfl (fun K hK => ?_) AllReadyH.nil)
            · skip
              go_simp
              refine hK.out _ _ trivial (fun hHeld => ?_)
              clear hK K
              obtain ⟨Y1, eX, oC, kE, lE⟩ := emp_own Z sc
              rw [eX]
              clear eX
              obtain ⟨gC, hgC⟩ : ∃ g, Z.heap.size = g := ⟨_, rfl⟩
              rw [hgC] at oC ⊢
              have kc := kc.trans (kE.mono (T := fun j => M ≤ j) (fun _ h => h.elim))
              have sc : M ≤ Y1.heap.size := by omega
              ((try simp only [List.getElem_toArray]); (try simp only [List.getElem_cons_succ]); (try simp only [List.getElem_cons_zero]); (try simp only [Act.put]); (try simp only [List.setIfInBounds_toArray]); (try simp only [List.set_cons_succ]); (try simp only [List.set_cons_zero]))
              refine wpAnyH_ready (rs := [4, 6]) (by kernel_rfl) (by simp) ?_
              refine AllReadyH.cons rfl (fun K hK => ?_) (AllReadyH.cons rfl (fun K hK => ?_) AllReadyH.nil)
              · skip
                refine step_apps rfl (.tmp 57) (.tmp 60) rfl M sc gC 0 0 [] rfl rfl oC ⟨g1, 0, none⟩ p c (l.take p) rfl tl (tw _ kc) (by simp <;> omega) (by simp <;> omega) ?_
                intro g2 c3 w4 oN kN dN
                have hC := (OwnU.lt (g := gC) oC rfl).1
                rw [List.nil_append] at oN
                rw [Nat.zero_add] at oN ⊢
                have kc := kc.trans (kN.mono (T := fun j => M ≤ j) (fun j hj => by omega))
                have sc : M ≤ w4.heap.size := Nat.le_trans sc kN.size
                clear oC kN dN hC
                have oC := oN
                clear oN
                refine hK.out _ _ trivial (fun hHeld => ?_)
                clear hK K
                ((try simp only [List.getElem_toArray]); (try simp only [List.getElem_cons_succ]); (try simp only [List.getElem_cons_zero]); (try simp only [Act.put]); (try simp only [List.setIfInBounds_toArray]); (try simp only [List.set_cons_succ]); (try simp only [List.set_cons_zero]))
                refine wpAnyH_ready (rs := [6]) (by kernel_rfl) (by simp) ?_
                refine AllReadyH.cons rfl (fun K hK => ?_) AllReadyH.nil
                go_simp
                refine hK.out _ _ trivial (fun hHeld => ?_)
                clear hK K
                obtain ⟨X5, eX, oL, kL, lL⟩ := lit_own w4 x sc
                rw [eX]
                clear eX
                obtain ⟨gL, hgL⟩ : ∃ g, w4.heap.size = g := ⟨_, rfl⟩
                rw [hgL] at oL ⊢
                have nLC := (OwnU.lt (g := g2) oC rfl).2
                have nLC : gL ≠ g2 := by omega
                have oC := OwnU.keep oC kL (by simp)
                have kc := kc.trans (kL.mono (T := fun j => M ≤ j) (fun _ h => h.elim))
                have sc : M ≤ X5.heap.size := by omega
                ((try simp only [List.getElem_toArray]); (try simp only [List.getElem_cons_succ]); (try simp only [List.getElem_cons_zero]); (try simp only [Act.put]); (try simp only [List.setIfInBounds_toArray]); (try simp only [List.set_cons_succ]); (try simp only [List.set_cons_zero]))
                refine wpAnyH_ready (rs := [7]) (by kernel_rfl) (by simp) ?_
                refine AllReadyH.cons rfl (fun K hK => ?_) AllReadyH.nil
                refine step_apps rfl (.tmp 61) (.tmp 63) rfl M sc g2 p c3 (l.take p) rfl tl oC ⟨gL, 0, none⟩ 1 1 [x] rfl rfl (all_at (c := 1) oL (fun t u h => h)) (by simp <;> omega) (by simp <;> omega) ?_
                intro g6 c7 w8 oN kN dN
                have hC := (OwnU.lt (g := g2) oC rfl).1
                have nLC : gL ≠ g6 := by have := (OwnU.lt (g := gL) oL rfl).2; omega
                have oL := OwnU.keep oL kN (fun z hz => by simp [Value.ownBlock] at hz; omega)
                have kc := kc.trans (kN.mono (T := fun j => M ≤ j) (fun j hj => by omega))
                have sc : M ≤ w8.heap.size := Nat.le_trans sc kN.size
                clear oC kN dN hC
                have oC := oN
                clear oN
                refine hK.out _ _ trivial (fun hHeld => ?_)
                clear hK K
                ((try simp only [List.getElem_toArray]); (try simp only [List.getElem_cons_succ]); (try simp only [List.getElem_cons_zero]); (try simp only [Act.put]); (try simp only [List.setIfInBounds_toArray]); (try simp only [List.set_cons_succ]); (try simp only [List.set_cons_zero]))
                refine wpAnyH_ready (rs := [11]) (by kernel_rfl) (by simp) ?_
                refine AllReadyH.cons rfl (fun K hK => ?_) AllReadyH.nil
                refine step_apps rfl (.tmp 64) (.tmp 67) rfl M sc g6 (p + 1) c7 (l.take p ++ [x]) rfl tN oC ad (l.length - p) (c - p) (l.drop p) rfl dl (dw _ kc) (by simp <;> omega) (by simp <;> omega) ?_
                intro g9 c10 w11 oN kN dN
                have hC := (OwnU.lt (g := g6) oC rfl).1
                rw [hN1] at oN ⊢
                have nLC : gL ≠ g9 := by have := (OwnU.lt (g := gL) oL rfl).2; omega
                have oL := OwnU.keep oL kN (fun z hz => by simp [Value.ownBlock] at hz; omega)
                have kc := kc.trans (kN.mono (T := fun j => M ≤ j) (fun j hj => by omega))
                have sc : M ≤ w11.heap.size := Nat.le_trans sc kN.size
                clear oC kN dN hC
                have oC := oN
                clear oN
                refine hK.out _ _ trivial (fun hHeld => ?_)
                clear hK K
                ((try simp only [List.getElem_toArray]); (try simp only [List.getElem_cons_succ]); (try simp only [List.getElem_cons_zero]); (try simp only [Act.put]); (try simp only [List.setIfInBounds_toArray]); (try simp only [List.set_cons_succ]); (try simp only [List.set_cons_zero]))
                refine wpAnyH_take (i := 12) (v := ?qvoa8) rfl (by kernel_rfl) (by kernel_rfl) (by kernel_rfl) (fun _ _ _ h => h) (Or.inl ⟨by rfl, ?qyoa8⟩) (by assumption) ?qroa8; case qyoa8 => ((intro w hSw; (try dsimp only at hSw); go_simp); try (with_reducible rfl))
                ((try simp only [List.getElem_toArray]); (try simp only [List.getElem_cons_succ]); (try simp only [List.getElem_cons_zero]); (try simp only [Act.put]); (try simp only [List.setIfInBounds_toArray]); (try simp only [List.set_cons_succ]); (try simp only [List.set_cons_zero]))
                refine wpAnyH_done (by kernel_rfl) ?_ _
                have B := B.anew (oC.lower (by have := B.r.b.size; omega)) kc (fun j hj => by rw [eM]; exact hj) (fun j hj => by rw [eM]; exact (OwnU.lt oC hj).1)
                rw [← he] at B
                clear oC oL nLC kc sc
                go_wp2_with fail
                go_meet
                case rel => exact ⟨_, _, B, by omega, lu'⟩
              · skip
                go_simp
                refine hK.out _ _ trivial (fun hHeld => ?_)
                clear hK K
                obtain ⟨X12, eX, oL, kL, lL⟩ := lit_own Y1 x sc
                rw [eX]
                clear eX
                obtain ⟨gL, hgL⟩ : ∃ g, Y1.heap.size = g := ⟨_, rfl⟩
                rw [hgL] at oL ⊢
                have nLC := (OwnU.lt (g := gC) oC rfl).2
                have nLC : gL ≠ gC := by omega
                have oC := OwnU.keep oC kL (by simp)
                have kc := kc.trans (kL.mono (T := fun j => M ≤ j) (fun _ h => h.elim))
                have sc : M ≤ X12.heap.size := by omega
                ((try simp only [List.getElem_toArray]); (try simp only [List.getElem_cons_succ]); (try simp only [List.getElem_cons_zero]); (try simp only [Act.put]); (try simp only [List.setIfInBounds_toArray]); (try simp only [List.set_cons_succ]); (try simp only [List.set_cons_zero]))
                refine wpAnyH_ready (rs := [4]) (by kernel_rfl) (by simp) ?_
                refine AllReadyH.cons rfl (fun K hK => ?_) AllReadyH.nil
                refine step_apps rfl (.tmp 57) (.tmp 60) rfl M sc gC 0 0 [] rfl rfl oC ⟨g1, 0, none⟩ p c (l.take p) rfl tl (tw _ kc) (by simp <;> omega) (by simp <;> omega) ?_
                intro g13 c14 w15 oN kN dN
                have hC := (OwnU.lt (g := gC) oC rfl).1
                rw [List.nil_append] at oN
                rw [Nat.zero_add] at oN ⊢
                have nLC : gL ≠ g13 := by have := (OwnU.lt (g := gL) oL rfl).2; omega
                have oL := OwnU.keep oL kN (fun z hz => by simp [Value.ownBlock] at hz; omega)
                have kc := kc.trans (kN.mono (T := fun j => M ≤ j) (fun j hj => by omega))
                have sc : M ≤ w15.heap.size := Nat.le_trans sc kN.size
                clear oC kN dN hC
                have oC := oN
                clear oN
                refine hK.out _ _ trivial (fun hHeld => ?_)
                clear hK K
                ((try simp only [List.getElem_toArray]); (try simp only [List.getElem_cons_succ]); (try simp only [List.getElem_cons_zero]); (try simp only [Act.put]); (try simp only [List.setIfInBounds_toArray]); (try simp only [List.set_cons_succ]); (try simp only [List.set_cons_zero]))
                refine wpAnyH_ready (rs := [7]) (by kernel_rfl) (by simp) ?_
                refine AllReadyH.cons rfl (fun K hK => ?_) AllReadyH.nil
                refine step_apps rfl (.tmp 61) (.tmp 63) rfl M sc g13 p c14 (l.take p) rfl tl oC ⟨gL, 0, none⟩ 1 1 [x] rfl rfl (all_at (c := 1) oL (fun t u h => h)) (by simp <;> omega) (by simp <;> omega) ?_
                intro g16 c17 w18 oN kN dN
                have hC := (OwnU.lt (g := g13) oC rfl).1
                have nLC : gL ≠ g16 := by have := (OwnU.lt (g := gL) oL rfl).2; omega
                have oL := OwnU.keep oL kN (fun z hz => by simp [Value.ownBlock] at hz; omega)
                have kc := kc.trans (kN.mono (T := fun j => M ≤ j) (fun j hj => by omega))
                have sc : M ≤ w18.heap.size := Nat.le_trans sc kN.size
                clear oC kN dN hC
                have oC := oN
                clear oN
                refine hK.out _ _ trivial (fun hHeld => ?_)
                clear hK K
                ((try simp only [List.getElem_toArray]); (try simp only [List.getElem_cons_succ]); (try simp only [List.getElem_cons_zero]); (try simp only [Act.put]); (try simp only [List.setIfInBounds_toArray]); (try simp only [List.set_cons_succ]); (try simp only [List.set_cons_zero]))
                refine wpAnyH_ready (rs := [11]) (by kernel_rfl) (by simp) ?_
                refine AllReadyH.cons rfl (fun K hK => ?_) AllReadyH.nil
                refine step_apps rfl (.tmp 64) (.tmp 67) rfl M sc g16 (p + 1) c17 (l.take p ++ [x]) rfl tN oC ad (l.length - p) (c - p) (l.drop p) rfl dl (dw _ kc) (by simp <;> omega) (by simp <;> omega) ?_
                intro g19 c20 w21 oN kN dN
                have hC := (OwnU.lt (g := g16) oC rfl).1
                rw [hN1] at oN ⊢
                have nLC : gL ≠ g19 := by have := (OwnU.lt (g := gL) oL rfl).2; omega
                have oL := OwnU.keep oL kN (fun z hz => by simp [Value.ownBlock] at hz; omega)
                have kc := kc.trans (kN.mono (T := fun j => M ≤ j) (fun j hj => by omega))
                have sc : M ≤ w21.heap.size := Nat.le_trans sc kN.size
                clear oC kN dN hC
                have oC := oN
                clear oN
                refine hK.out _ _ trivial (fun hHeld => ?_)
                clear hK K
                ((try simp only [List.getElem_toArray]); (try simp only [List.getElem_cons_succ]); (try simp only [List.getElem_cons_zero]); (try simp only [Act.put]); (try simp only [List.setIfInBounds_toArray]); (try simp only [List.set_cons_succ]); (try simp only [List.set_cons_zero]))
                refine wpAnyH_take (i := 12) (v := ?qvoa9) rfl (by kernel_rfl) (by kernel_rfl) (by kernel_rfl) (fun _ _ _ h => h) (Or.inl ⟨by rfl, ?qyoa9⟩) (by assumption) ?qroa9; case qyoa9 => ((intro w hSw; (try dsimp only at hSw); go_simp); try (with_reducible rfl))
                ((try simp only [List.getElem_toArray]); (try simp only [List.getElem_cons_succ]); (try simp only [List.getElem_cons_zero]); (try simp only [Act.put]); (try simp only [List.setIfInBounds_toArray]); (try simp only [List.set_cons_succ]); (try simp only [List.set_cons_zero]))
                refine wpAnyH_done (by kernel_rfl) ?_ _
                have B := B.anew (oC.lower (by have := B.r.b.size; omega)) kc (fun j hj => by rw [eM]; exact hj) (fun j hj => by rw [eM]; exact (OwnU.lt oC hj).1)
                rw [← he] at B
                clear oC oL nLC kc sc
                go_wp2_with fail
                go_meet
                case rel => exact ⟨_, _, B, by omega, lu'⟩
            · skip
              go_simp
              refine hK.out _ _ trivial (fun hHeld => ?_)
              clear hK K
              obtain ⟨X22, eX, oL, kL, lL⟩ := lit_own Z x sc
              rw [eX]
              clear eX
              obtain ⟨gL, hgL⟩ : ∃ g, Z.heap.size = g := ⟨_, rfl⟩
              rw [hgL] at oL ⊢
              have kc := kc.trans (kL.mono (T := fun j => M ≤ j) (fun _ h => h.elim))
              have sc : M ≤ X22.heap.size := by omega
              ((try simp only [List.getElem_toArray]); (try simp only [List.getElem_cons_succ]); (try simp only [List.getElem_cons_zero]); (try simp only [Act.put]); (try simp only [List.setIfInBounds_toArray]); (try simp only [List.set_cons_succ]); (try simp only [List.set_cons_zero]))
              refine wpAnyH_ready (rs := [0]) (by kernel_rfl) (by simp) ?_
              refine AllReadyH.cons rfl (fun K hK => ?_) AllReadyH.nil
              go_simp
              refine hK.out _ _ trivial (fun hHeld => ?_)
              clear hK K
              obtain ⟨Y23, eX, oC, kE, lE⟩ := emp_own X22 sc
              rw [eX]
              clear eX
              obtain ⟨gC, hgC⟩ : ∃ g, X22.heap.size = g := ⟨_, rfl⟩
              rw [hgC] at oC ⊢
              have nLC : gL ≠ gC := by have := (OwnU.lt (g := gL) oL rfl).2; omega
              have oL := OwnU.keep oL kE (by simp)
              have kc := kc.trans (kE.mono (T := fun j => M ≤ j) (fun _ h => h.elim))
              have sc : M ≤ Y23.heap.size := by omega
              ((try simp only [List.getElem_toArray]); (try simp only [List.getElem_cons_succ]); (try simp only [List.getElem_cons_zero]); (try simp only [Act.put]); (try simp only [List.setIfInBounds_toArray]); (try simp only [List.set_cons_succ]); (try simp only [List.set_cons_zero]))
              refine wpAnyH_ready (rs := [4]) (by kernel_rfl) (by simp) ?_
              refine AllReadyH.cons rfl (fun K hK => ?_) AllReadyH.nil
              refine step_apps rfl (.tmp 57) (.tmp 60) rfl M sc gC 0 0 [] rfl rfl oC ⟨g1, 0, none⟩ p c (l.take p) rfl tl (tw _ kc) (by simp <;> omega) (by simp <;> omega) ?_
              intro g24 c25 w26 oN kN dN
              have hC := (OwnU.lt (g := gC) oC rfl).1
              rw [List.nil_append] at oN
              rw [Nat.zero_add] at oN ⊢
              have nLC : gL ≠ g24 := by have := (OwnU.lt (g := gL) oL rfl).2; omega
              have oL := OwnU.keep oL kN (fun z hz => by simp [Value.ownBlock] at hz; omega)
              have kc := kc.trans (kN.mono (T := fun j => M ≤ j) (fun j hj => by omega))
              have sc : M ≤ w26.heap.size := Nat.le_trans sc kN.size
              clear oC kN dN hC
              have oC := oN
              clear oN
              refine hK.out _ _ trivial (fun hHeld => ?_)
              clear hK K
              ((try simp only [List.getElem_toArray]); (try simp only [List.getElem_cons_succ]); (try simp only [List.getElem_cons_zero]); (try simp only [Act.put]); (try simp only [List.setIfInBounds_toArray]); (try simp only [List.set_cons_succ]); (try simp only [List.set_cons_zero]))
              refine wpAnyH_ready (rs := [7]) (by kernel_rfl) (by simp) ?_
              refine AllReadyH.cons rfl (fun K hK => ?_) AllReadyH.nil
              refine step_apps rfl (.tmp 61) (.tmp 63) rfl M sc g24 p c25 (l.take p) rfl tl oC ⟨gL, 0, none⟩ 1 1 [x] rfl rfl (all_at (c := 1) oL (fun t u h => h)) (by simp <;> omega) (by simp <;> omega) ?_
              intro g27 c28 w29 oN kN dN
              have hC := (OwnU.lt (g := g24) oC rfl).1
              have nLC : gL ≠ g27 := by have := (OwnU.lt (g := gL) oL rfl).2; omega
              have oL := OwnU.keep oL kN (fun z hz => by simp [Value.ownBlock] at hz; omega)
              have kc := kc.trans (kN.mono (T := fun j => M ≤ j) (fun j hj => by omega))
              have sc : M ≤ w29.heap.size := Nat.le_trans sc kN.size
              clear oC kN dN hC
              have oC := oN
              clear oN
              refine hK.out _ _ trivial (fun hHeld => ?_)
              clear hK K
              ((try simp only [List.getElem_toArray]); (try simp only [List.getElem_cons_succ]); (try simp only [List.getElem_cons_zero]); (try simp only [Act.put]); (try simp only [List.setIfInBounds_toArray]); (try simp only [List.set_cons_succ]); (try simp only [List.set_cons_zero]))
              refine wpAnyH_ready (rs := [11]) (by kernel_rfl) (by simp) ?_
              refine AllReadyH.cons rfl (fun K hK => ?_) AllReadyH.nil
              refine step_apps rfl (.tmp 64) (.tmp 67) rfl M sc g27 (p + 1) c28 (l.take p ++ [x]) rfl tN oC ad (l.length - p) (c - p) (l.drop p) rfl dl (dw _ kc) (by simp <;> omega) (by simp <;> omega) ?_
              intro g30 c31 w32 oN kN dN
              have hC := (OwnU.lt (g := g27) oC rfl).1
              rw [hN1] at oN ⊢
              have nLC : gL ≠ g30 := by have := (OwnU.lt (g := gL) oL rfl).2; omega
              have oL := OwnU.keep oL kN (fun z hz => by simp [Value.ownBlock] at hz; omega)
              have kc := kc.trans (kN.mono (T := fun j => M ≤ j) (fun j hj => by omega))
              have sc : M ≤ w32.heap.size := Nat.le_trans sc kN.size
              clear oC kN dN hC
              have oC := oN
              clear oN
              refine hK.out _ _ trivial (fun hHeld => ?_)
              clear hK K
              ((try simp only [List.getElem_toArray]); (try simp only [List.getElem_cons_succ]); (try simp only [List.getElem_cons_zero]); (try simp only [Act.put]); (try simp only [List.setIfInBounds_toArray]); (try simp only [List.set_cons_succ]); (try simp only [List.set_cons_zero]))
              refine wpAnyH_take (i := 12) (v := ?qvoa10) rfl (by kernel_rfl) (by kernel_rfl) (by kernel_rfl) (fun _ _ _ h => h) (Or.inl ⟨by rfl, ?qyoa10⟩) (by assumption) ?qroa10; case qyoa10 => ((intro w hSw; (try dsimp only at hSw); go_simp); try (with_reducible rfl))
              ((try simp only [List.getElem_toArray]); (try simp only [List.getElem_cons_succ]); (try simp only [List.getElem_cons_zero]); (try simp only [Act.put]); (try simp only [List.setIfInBounds_toArray]); (try simp only [List.set_cons_succ]); (try simp only [List.set_cons_zero]))
              refine wpAnyH_done (by kernel_rfl) ?_ _
              have B := B.anew (oC.lower (by have := B.r.b.size; omega)) kc (fun j hj => by rw [eM]; exact hj) (fun j hj => by rw [eM]; exact (OwnU.lt oC hj).1)
              rw [← he] at B
              clear oC oL nLC kc sc
              go_wp2_with fail
              go_meet
              case rel => exact ⟨_, _, B, by omega, lu'⟩
        · have q0 : (kd == 0) = false := by simpa using k0
          by_cases hx : p < l.length ∧ l.getD p 0 = x
          · obtain ⟨il, ix⟩ := hx
            have hn : decide (x ∈ l) = true := decide_eq_true ((mem_pos x B.r.fl).2 (by rw [ep]; exact ⟨il, ix⟩))
            have he : l.erase x = l.take p ++ l.drop (p + 1) := by
              have := erase_pos x (l := l) (by rw [ep]; exact il) (by rw [ep]; exact ix)
              rw [ep] at this
              exact this
            rcases B.a.shape with ⟨ev, el⟩ | ⟨g1, c1, ev, gB, gz, hc⟩
            · rw [el] at il; simp at il
            cases ev
            have cj := OwnU.cell B.a p il
            rw [ix] at cj
            have lu' : ∀ y ∈ l.erase x, U64 y := fun y hy => lu y (List.mem_of_mem_erase hy)
            have le' : (l.erase x).length ≤ k := by rw [List.length_erase]; split <;> omega
            clear ix ep pat hA0 hA1
            go_wp2_with fail
            refine (mk_leave B.r (by omega) x ux true hn).mono ?_
            rintro e y3 ⟨rfl, S3, C3, k3⟩
            have gz := Nat.lt_of_lt_of_le gz k3.1.size
            have B := B.step C3 k3
            clear C3 k3 cj
            have ho2 := B.a
            go_wp2_with fail
            have sj : IntKind.i64.wrap ((p : Int) + 1) = (p : Int) + 1 := IntWalk.i64_in _ (by omega)
            have r0 : (0 : Int) ≤ (p : Int) := by omega
            have sj2 : (0 : Int) ≤ (p : Int) + 1 := by omega
            have sj3 : ((p : Int) + 1).toNat = p + 1 := by omega
            have sj4 : p + 1 ≤ c := by omega
            have sj5 : p ≤ c := by omega
            have sj6 : p + 1 ≤ l.length := by omega
            have sj7 : p ≤ l.length := by omega
            have sj9 : (p : Int) + 1 ≤ (l.length : Int) := by omega
            obtain ⟨ad, ead, had⟩ : ∃ ad : Addr, (if c = p + 1 then some ({ block := g1, off := 0 } : Addr) else some { block := g1, off := p + 1 }) = some ad ∧ (¬ c = p + 1 → ad = ⟨g1, p + 1, none⟩) := by
              by_cases hc : c = p + 1
              · exact ⟨⟨g1, 0, none⟩, by rw [if_pos hc], fun h => absurd hc h⟩
              · exact ⟨⟨g1, p + 1, none⟩, by rw [if_neg hc], fun _ => rfl⟩
            have kc : Keep (fun j => y3.heap.size ≤ j) y3 y3.drew := (Keep.refl _ _).drew
            refine wp_region_held_drew (S := (fun _ => True)) (by kernel_rfl) trivial (fun hHeld => ?_)
            generalize y3.drew = Z at kc ⊢
            obtain ⟨M, eM⟩ : ∃ M, y3.heap.size = M := ⟨_, rfl⟩
            rw [eM] at kc gz
            have sc : M ≤ Z.heap.size := by rw [← eM]; exact kc.size
            have tw : ∀ (W : World), Keep (fun j => M ≤ j) y3 W → ∀ t, t < (l.take p).length → W.cell? ((⟨g1, 0, none⟩ : Addr).add t) = some (.int .u64 ((l.take p).getD t 0)) := fun W kw => take_at ho2 (fun t u h => kw.cell h (by show ¬ M ≤ g1; omega)) p
            have dw : ∀ (W : World), Keep (fun j => M ≤ j) y3 W → ∀ t, t < (l.drop (p + 1)).length → W.cell? (ad.add t) = some (.int .u64 ((l.drop (p + 1)).getD t 0)) := fun W kw => drop_at ho2 (fun t u h => kw.cell h (by show ¬ M ≤ g1; omega)) (p + 1) had (by omega)
            have tl : (l.take p).length = p := by rw [List.length_take]; omega
            have dl : (l.drop (p + 1)).length = l.length - (p + 1) := by rw [List.length_drop]
            obtain ⟨N1, hN1⟩ : ∃ N1, p + (l.length - (p + 1)) = N1 := ⟨_, rfl⟩
            have tN : (l.take p ++ l.drop (p + 1)).length = N1 := by rw [List.length_append, tl, dl]; exact hN1
            refine wpAnyH_take (i := 1) (v := ?qvsa1) rfl (by kernel_rfl) (by kernel_rfl) (by kernel_rfl) (fun _ _ _ h => h) (Or.inl ⟨by rfl, ?qysa1⟩) (by assumption) ?qrsa1; case qysa1 => ((intro w hSw; (try dsimp only at hSw); go_simp); try (with_reducible rfl))
            ((try simp only [List.getElem_toArray]); (try simp only [List.getElem_cons_succ]); (try simp only [List.getElem_cons_zero]); (try simp only [Act.put]); (try simp only [List.setIfInBounds_toArray]); (try simp only [List.set_cons_succ]); (try simp only [List.set_cons_zero]))
            refine wpAnyH_take (i := 2) (v := ?qvsa2) rfl (by kernel_rfl) (by kernel_rfl) (by kernel_rfl) (fun _ _ _ h => h) (Or.inl ⟨by rfl, ?qysa2⟩) (by assumption) ?qrsa2; case qysa2 => ((intro w hSw; (try dsimp only at hSw); go_simp); try (with_reducible rfl))
            ((try simp only [List.getElem_toArray]); (try simp only [List.getElem_cons_succ]); (try simp only [List.getElem_cons_zero]); (try simp only [Act.put]); (try simp only [List.setIfInBounds_toArray]); (try simp only [List.set_cons_succ]); (try simp only [List.set_cons_zero]))
            refine wpAnyH_take (i := 3) (v := ?qvsa3) rfl (by kernel_rfl) (by kernel_rfl) (by kernel_rfl) (fun _ _ _ h => h) (Or.inl ⟨by rfl, ?qysa3⟩) (by assumption) ?qrsa3; case qysa3 => ((intro w hSw; (try dsimp only at hSw); go_simp); try (with_reducible rfl))
            ((try simp only [List.getElem_toArray]); (try simp only [List.getElem_cons_succ]); (try simp only [List.getElem_cons_zero]); (try simp only [Act.put]); (try simp only [List.setIfInBounds_toArray]); (try simp only [List.set_cons_succ]); (try simp only [List.set_cons_zero]))
            refine wpAnyH_take (i := 5) (v := ?qvsa5) rfl (by kernel_rfl) (by kernel_rfl) (by kernel_rfl) (fun _ _ _ h => h) (Or.inl ⟨by rfl, ?qysa5⟩) (by assumption) ?qrsa5; case qysa5 => ((intro w hSw; (try dsimp only at hSw); go_simp); try (with_reducible rfl))
            ((try simp only [List.getElem_toArray]); (try simp only [List.getElem_cons_succ]); (try simp only [List.getElem_cons_zero]); (try simp only [Act.put]); (try simp only [List.setIfInBounds_toArray]); (try simp only [List.set_cons_succ]); (try simp only [List.set_cons_zero]))
            refine wpAnyH_take (i := 6) (v := ?qvsa6) rfl (by kernel_rfl) (by kernel_rfl) (by kernel_rfl) (fun _ _ _ h => h) (Or.inl ⟨by rfl, ?qysa6⟩) (by assumption) ?qrsa6; case qysa6 => ((intro w hSw; (try dsimp only at hSw); go_simp); try (with_reducible rfl))
            ((try simp only [List.getElem_toArray]); (try simp only [List.getElem_cons_succ]); (try simp only [List.getElem_cons_zero]); (try simp only [Act.put]); (try simp only [List.setIfInBounds_toArray]); (try simp only [List.set_cons_succ]); (try simp only [List.set_cons_zero]))
            refine wpAnyH_take (i := 7) (v := ?qvsa7) rfl (by kernel_rfl) (by kernel_rfl) (by kernel_rfl) (fun _ _ _ h => h) (Or.inl ⟨by rfl, ?qysa7⟩) (by assumption) ?qrsa7; case qysa7 => ((intro w hSw; (try dsimp only at hSw); go_simp); try (with_reducible rfl))
            ((try simp only [List.getElem_toArray]); (try simp only [List.getElem_cons_succ]); (try simp only [List.getElem_cons_zero]); (try simp only [Act.put]); (try simp only [List.setIfInBounds_toArray]); (try simp only [List.set_cons_succ]); (try simp only [List.set_cons_zero]))
            refine wpAnyH_take (i := 8) (v := ?qvsa8) rfl (by kernel_rfl) (by kernel_rfl) (by kernel_rfl) (fun _ _ _ h => h) (Or.inl ⟨by rfl, ?qysa8⟩) (by assumption) ?qrsa8; case qysa8 => ((intro w hSw; (try dsimp only at hSw); go_simp); try (with_reducible rfl))
            ((try simp only [List.getElem_toArray]); (try simp only [List.getElem_cons_succ]); (try simp only [List.getElem_cons_zero]); (try simp only [Act.put]); (try simp only [List.setIfInBounds_toArray]); (try simp only [List.set_cons_succ]); (try simp only [List.set_cons_zero]))
            refine wpAnyH_ready (rs := [0]) (by kernel_rfl) (by simp) ?_
            refine AllReadyH.cons rfl (fun K hK => ?_) AllReadyH.nil
            go_simp
            refine hK.out _ _ trivial (fun hHeld => ?_)
            clear hK K
            obtain ⟨Y, eX, oC, kE, lE⟩ := emp_own Z sc
            rw [eX]
            clear eX
            obtain ⟨gC, hgC⟩ : ∃ g, Z.heap.size = g := ⟨_, rfl⟩
            rw [hgC] at oC ⊢
            have kc := kc.trans (kE.mono (T := fun j => M ≤ j) (fun _ h => h.elim))
            have sc : M ≤ Y.heap.size := by omega
            ((try simp only [List.getElem_toArray]); (try simp only [List.getElem_cons_succ]); (try simp only [List.getElem_cons_zero]); (try simp only [Act.put]); (try simp only [List.setIfInBounds_toArray]); (try simp only [List.set_cons_succ]); (try simp only [List.set_cons_zero]))
            refine wpAnyH_ready (rs := [4]) (by kernel_rfl) (by simp) ?_
            refine AllReadyH.cons rfl (fun K hK => ?_) AllReadyH.nil
            refine step_apps rfl (.tmp 87) (.tmp 90) rfl M sc gC 0 0 [] rfl rfl oC ⟨g1, 0, none⟩ p c (l.take p) rfl tl (tw _ kc) (by simp) (by omega) ?_
            intro g6 c6 w6 oN kN dN
            have hC := (OwnU.lt (g := gC) oC rfl).1
            rw [List.nil_append] at oN
            rw [Nat.zero_add] at oN ⊢
            have kc := kc.trans (kN.mono (T := fun j => M ≤ j) (fun j hj => by omega))
            have sc : M ≤ w6.heap.size := Nat.le_trans sc kN.size
            clear oC kN dN hC
            have oC := oN
            clear oN
            refine hK.out _ _ trivial (fun hHeld => ?_)
            clear hK K
            ((try simp only [List.getElem_toArray]); (try simp only [List.getElem_cons_succ]); (try simp only [List.getElem_cons_zero]); (try simp only [Act.put]); (try simp only [List.setIfInBounds_toArray]); (try simp only [List.set_cons_succ]); (try simp only [List.set_cons_zero]))
            refine wpAnyH_ready (rs := [9]) (by kernel_rfl) (by simp) ?_
            refine AllReadyH.cons rfl (fun K hK => ?_) AllReadyH.nil
            refine step_apps rfl (.tmp 91) (.tmp 95) rfl M sc g6 p c6 (l.take p) rfl tl oC ad (l.length - (p + 1)) (c - (p + 1)) (l.drop (p + 1)) rfl dl (dw _ kc) (by omega) (by omega) ?_
            intro g11 c11 w7 oN kN dN
            have hC := (OwnU.lt (g := g6) oC rfl).1
            rw [hN1] at oN ⊢
            have kc := kc.trans (kN.mono (T := fun j => M ≤ j) (fun j hj => by omega))
            have sc : M ≤ w7.heap.size := Nat.le_trans sc kN.size
            clear oC kN dN hC
            refine hK.out _ _ trivial (fun hHeld => ?_)
            clear hK K
            ((try simp only [List.getElem_toArray]); (try simp only [List.getElem_cons_succ]); (try simp only [List.getElem_cons_zero]); (try simp only [Act.put]); (try simp only [List.setIfInBounds_toArray]); (try simp only [List.set_cons_succ]); (try simp only [List.set_cons_zero]))
            refine wpAnyH_take (i := 10) (v := ?qvsa10) rfl (by kernel_rfl) (by kernel_rfl) (by kernel_rfl) (fun _ _ _ h => h) (Or.inl ⟨by rfl, ?qysa10⟩) (by assumption) ?qrsa10; case qysa10 => ((intro w hSw; (try dsimp only at hSw); go_simp); try (with_reducible rfl))
            ((try simp only [List.getElem_toArray]); (try simp only [List.getElem_cons_succ]); (try simp only [List.getElem_cons_zero]); (try simp only [Act.put]); (try simp only [List.setIfInBounds_toArray]); (try simp only [List.set_cons_succ]); (try simp only [List.set_cons_zero]))
            refine wpAnyH_done (by kernel_rfl) ?_ _
            have B := B.anew (oN.lower (by have := B.r.b.size; omega)) kc (fun j hj => by rw [eM]; exact hj) (fun j hj => by rw [eM]; exact (OwnU.lt oN hj).1)
            rw [← he] at B
            clear tw dw oN
            go_wp2_with fail
            go_meet
            case rel => exact ⟨_, _, B, by omega, lu'⟩
          · obtain ⟨hn, he⟩ : decide (x ∈ l) = false ∧ l.erase x = l := by
              have : x ∉ l := fun h => hx (by have := (mem_pos x B.r.fl).1 h; rw [ep] at this; exact this)
              exact ⟨decide_eq_false this, List.erase_of_not_mem this⟩
            by_cases pz : p < l.length
            · cases A with
              | none => exact absurd (hA0 rfl) (by intro e; rw [e] at pz; simp at pz)
              | some ad =>
                obtain ⟨g, rfl⟩ := hA1 _ rfl
                have cj := OwnU.cell B.a p pz
                have hne : l.getD p 0 ≠ x := fun e => hx ⟨pz, e⟩
                obtain ⟨y, ey⟩ : ∃ y, l.getD p 0 = y := ⟨_, rfl⟩
                rw [ey] at cj hne
                have dy : (y == x) = false := by simpa using hne
                clear ey pat hA0 hA1 hx ep hne
                go_wp2_with fail
                refine (mk_leave B.r (by omega) x ux false hn).mono ?_
                rintro e y3 ⟨rfl, S3, C3, k3⟩
                rw [he] at C3
                have B := B.step C3 k3
                clear C3 k3
                go_wp2_with fail
                go_meet
                case rel => exact ⟨S3, l, B, by omega, lu⟩
            · clear pat hA0 hA1 hx ep
              go_wp2_with fail
              refine (mk_leave B.r (by omega) x ux false hn).mono ?_
              rintro e y3 ⟨rfl, S3, C3, k3⟩
              rw [he] at C3
              have B := B.step C3 k3
              clear C3 k3
              go_wp2_with fail
              go_meet
              case rel => exact ⟨S3, l, B, by omega, lu⟩
      case rest =>
      obtain ⟨S5, l5, B5, ll5, lu5⟩ := hcut
      clear B hA0 hA1 pat ep pl lu ll
      obtain ⟨A5, c5, rfl, hB0, hB1⟩ := OwnU.out B5.a
      obtain ⟨lo, elo⟩ : ∃ lo, lowM l5 a1 = lo := ⟨_, rfl⟩
      go_upto_if 100 with fail
      go_cut [11] from 101 to 124 (fun v wx => v = .int .u64 lo ∧ MkL w wx m S5 l5 (.slice A5 l5.length c5) l5)
      case first =>
        rcases Nat.eq_zero_or_pos l5.length with z5 | z5
        · have e5 : l5 = [] := List.length_eq_zero_iff.1 z5
          subst e5
          have elo : a1 = lo := elo
          subst elo
          go_wp2_with fail
          go_meet
          case rel => exact ⟨rfl, B5⟩
        · cases A5 with
          | none => exact absurd (hB0 rfl) (by intro e; rw [e] at z5; simp at z5)
          | some ad =>
            obtain ⟨g, rfl⟩ := hB1 _ rfl
            have cj := OwnU.cell B5.a 0 z5
            obtain ⟨y, ey⟩ : ∃ y, l5.getD 0 0 = y := ⟨_, rfl⟩
            have e1 : (if y < a1 then y else a1) = lo := by
              rw [← elo, ← ey]
              cases l5 with
              | nil => simp at z5
              | cons y' t => rfl
            rw [ey] at cj
            have e2 : (if a1 < y then a1 else y) = lo := by rw [← e1]; split <;> split <;> omega
            clear ey elo hB0 hB1
            go_wp2_with fail
            go_meet
            case rel => exact ⟨by first | rfl | (congr 1), B5⟩
      case rest =>
      clear B5
      obtain ⟨rfl, B⟩ := hcut
      have eb : (lo != lo) = false := by simp
      go_wp2_with fail
      refine (mk_low B.r (by omega) a1 u1 lo elo).mono ?_
      rintro e z1 ⟨rfl, S6, C6, k6⟩
      have B := B.step C6 k6
      clear C6 k6 elo
      go_wp2_with fail
      refine (mk_len B.r (by omega) _ rfl).mono ?_
      rintro e z2 ⟨rfl, S7, C7, k7⟩
      have B := B.step C7 k7
      clear C7 k7
      go_wp2_with fail
      refine (mk_all B.r (by omega)).mono ?_
      rintro e z3 ⟨v8, S8, rfl, o8, d8, C8, k8⟩
      have B := B.step C8 k8
      clear C8 k8 d8
      go_wp2_with fail
      refine (same_own o8 B.a (by omega)).mono ?_
      rintro e z4 ⟨rfl, dd, rfl⟩
      have B := B.quiet (drewN_keep _ _ dd)
      clear o8
      go_wp2_with fail
      go_roundg (len0 - (k + 1))
      case measure => omega
      case rel => exact ⟨k + 1, by omega, S8, l5, by omega, by omega, by go_num, B, ll5, lu5⟩
    · rcases (by omega : (k = 80 ∧ k < len0) ∨ k = len0) with ⟨rfl, hl⟩ | rfl
      all_goals
        go_wp2_with fail
        go_ret
        exact ⟨rfl, B.r.b⟩
theorem own : ownKnob Try.prog.godebug = none := by kernel_rfl
theorem laidOut : laidOutB Try.prog = true := by kernel_rfl
set_option maxRecDepth 100000 in
theorem lifted (os : Os) (started : os.Started) (H : Type) (enc : TypeId × Value → H) :
    ReturnsInHanded {} Try.checked os 5 .any (Rows.markPlaysSpec.pre6 enc Try.prog Try.f5 Rows.markPlaysRow.domain false) (Rows.markPlaysSpec.post enc Try.prog Try.f5 false true false false) := by
  refine returnsInHanded_of_change (C := Try.checked) own started (by kernel_rfl) Try.func5
    (ChangeSpec.witness6 (enc := enc) (C := Try.checked) false ⟨#[], #[.slice none 0 0, .int .u64 0], []⟩ 8 (by kernel_rfl) (by kernel_rfl) (by kernel_rfl) (by kernel_rfl)) ?_
  intro W base args ds gs before hval0 hW hcnd _
  have hval : ∀ (j : Nat) t v, Try.f5.params[j]? = some t → args[j]? = some v → Value.okWide Try.prog W .any base t v := hval0
  have hW' := hW
  obtain ⟨p, q, hA0, hV, rfl, hfz, hnd⟩ := hW
  have hA : DataW.TrodAll enc Try.prog W 0 (fun _ => true) true Try.f5.params.toList args.toList ds p := hA0
  rw [Try.params5] at hA hval
  obtain ⟨v0, vs0, d0, ds0, p0, q0, hargs, rfl, rfl, h0, r0⟩ := trodAll_cons hA
  obtain ⟨v1, vs1, d1, ds1, p1, q1, rfl, rfl, rfl, h1, r1⟩ := trodAll_cons r0
  obtain ⟨rfl, rfl, rfl⟩ := trodAll_nil r1
  obtain rfl : args = #[v0, v1] := by cases args; simp_all
  obtain ⟨rfl, rfl⟩ := trodVars_none hV
  obtain ⟨a0, len0, cap0, rfl⟩ := okWide_slice Try.underlying35 (hval 0 35 v0 rfl rfl)
  have k0 := h0
  have lt0 : ∀ x ∈ p0, x.block < W.heap.size := by obtain ⟨m, hm⟩ := k0; exact DataW.trod_lt m _ _ _ hm
  obtain ⟨z0, w0⟩ : ∃ f, IsOps W a0 len0 cap0 f := is_ops h0
  obtain ⟨a1, rfl, rfl, rfl, w1⟩ := open_int Try.underlying26 (hval 1 26 v1 rfl rfl) h1
  clear hA0 hval0
  refine (walk a0 len0 cap0 z0 a1 W w0 w1).mono fun e W' ⟨he, bel⟩ => ?_
  subst he
  exact ⟨_, rfl, _, _, _, [], _, [], hW', trodAll_mk1 (shut_bool Try.underlying4 _), (trodAll_cons_mk (Below.trod laidOut (by kernel_rfl) (of_decide_eq_true (by kernel_rfl)) k0 bel lt0) (trodAll_cons_mk (shut_int Try.underlying26 w1) trodAll_mk0)), rfl, bel.frame _, fun h => by cases h⟩
theorem over : Rows.markPlaysRow.holds Try.pinned (OpenSpec.ofChange Rows.markPlaysSpec) :=
  OpenClaim.holds_of_wide 5 Try.f5 rfl rfl rfl rfl rfl rfl rfl ⟨rfl, rfl, rfl, rfl, rfl⟩ rfl rfl rfl rfl rfl (by kernel_rfl) Try.func5 (by kernel_rfl)
    (of_decide_eq_true (by kernel_rfl)) (by unfold Func.isWrapper; first | (rw [if_pos (by decide +kernel)]; kernel_rfl) | (rw [if_neg (by decide +kernel)]; exact ⟨rfl, rfl⟩))
    (fun os started H enc _ => lifted os started H enc)
theorem proved : Rows.MarkPlaysSaid := over
end Go.Proofs.Ytbbinfdgmfmaeaa.markPlays
