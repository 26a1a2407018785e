/- Proved here: vinculumlaw18.OutcomeOnce returns true and leaves its arguments as they were, for any two slices of ints; no further condition. -/
import Derived.Test.YtamahfpfminhoaaOcD
import Derived.Test.YtamahfpfminhoaaRow
import Derived.ChangeOld
import Derived.BigQuiet
import Derived.Deep.RegionHeld3
import Derived.Deep.QuietTactic
import Derived.Deep.LoopGhost
import Derived.Deep.CutRange
import Derived.Deep.CutBlock
namespace Go.Proofs.Ytamahfpfminhoaa.outcomeOnce
open Go.ChangeShapes Go.WideShapes Go.ChangeAt Go.RowKit
set_option linter.unusedVariables false
def Rel (w : World) (o n0 n1 k : Nat) (v6 v7 v8 iv : Value) (wr : World) : Prop :=
  ∃ (S : Nat → Prop) (s : OcI), k ≤ n0 ∧ k ≤ n1 ∧ k ≤ 50 ∧ iv = .int .i64 k ∧ v6 = .int .i64 s.st ∧ v7 = .int .i64 s.rs ∧ v8 = .bool s.told ∧ s.n = k ∧ Oc w wr o S s
set_option maxRecDepth 100000 in
set_option maxHeartbeats 8000000 in
theorem walk (a0 : Option Addr) (n0 c0 : Nat) (z0 : List Int) (a1 : Option Addr) (n1 c1 : Nat) (z1 : List Int) (w : World) (w0 : IsRow .i64 w a0 n0 c0 z0) (w1 : IsRow .i64 w a1 n1 c1 z1) :
    Calls Try.prog 4 #[.slice a0 n0 c0, .slice a1 n1 c1] w fun e w' => e = .returned (.bool true) ∧ Below w.heap.size w w' := by
  have lc0 := w0.cell
  have lc1 := w1.cell
  have m0 := w0.cap
  have m1 := w1.cap
  have x0 := w0.max
  have x1 := w1.max
  have i0 : ∀ j, -9223372036854775808 ≤ z0.getD j 0 ∧ z0.getD j 0 ≤ 9223372036854775807 := fun j => by have := range_i64 w0.wf j; rwa [List.getD_eq_getElem?_getD]
  have i1 : ∀ j, -9223372036854775808 ≤ z1.getD j 0 ∧ z1.getD j 0 ≤ 9223372036854775807 := fun j => by have := range_i64 w1.wf j; rwa [List.getD_eq_getElem?_getD]
  clear w0 w1
  go_enter Try.func4, Try.ntmps4
  go_wp2_with fail
  refine (oc_new w).mono ?_
  rintro e y1 ⟨o, S1, rfl, C1⟩
  go_wp2
  go_loopg [6, 7, 8, 9] 50 (fun mm v6 v7 v8 i wr => ∃ k : Nat, mm + k = 50 ∧ Rel w o n0 n1 k v6 v7 v8 i wr)
  case atStart => exact ⟨0, by omega, S1, _, by omega, by omega, by omega, rfl, rfl, rfl, rfl, rfl, C1⟩
  case round =>
    obtain ⟨k, hgk, S, ⟨st, rs, tl, sn⟩, k0, k1, k50, rfl, rfl, rfl, rfl, hsn, B⟩ := hrel
    dsimp only at hsn
    subst hsn
    clear C1
    by_cases hlt : sn < n0 ∧ sn < n1 ∧ sn < 50
    · obtain ⟨hl0, hl1, h50⟩ := hlt
      obtain ⟨b, off, rfl, hb, hc⟩ := lc0 (by omega)
      obtain ⟨b1, off1, rfl, hb1, hc1⟩ := lc1 (by omega)
      have e0 := hc sn (by omega)
      have e1 := hc1 sn (by omega)
      have ua := i0 sn
      have ur := i1 sn
      obtain ⟨a, ea⟩ : ∃ a, z0.getD sn 0 = a := ⟨_, rfl⟩
      obtain ⟨r, er⟩ : ∃ r, z1.getD sn 0 = r := ⟨_, rfl⟩
      rw [ea] at e0 ua
      rw [er] at e1 ur
      have d0 := (B.b.cell (p := ⟨b, off + sn, none⟩) hb).trans e0
      have d1 := (B.b.cell (p := ⟨b1, off1 + sn, none⟩) hb1).trans e1
      have wk : IntKind.i64.wrap ((sn : Int) + 1) = (sn : Int) + 1 := IntWalk.i64_in _ (by omega)
      have dk : decide ((sn : Int) < 50) = true := decide_eq_true (by omega)
      obtain ⟨g, s', hs, hg⟩ : ∃ g s', (OcI.mk st rs tl sn).tell a r = (g, s') ∧ ((g = true ∧ tl = false ∧ (a = 3 ∨ a = 4) ∧ s' = ⟨a, r, true, sn + 1⟩) ∨ (g = false ∧ (tl = true ∨ (tl = false ∧ a ≠ 3 ∧ a ≠ 4)) ∧ s' = ⟨st, rs, tl, sn + 1⟩)) := by
        unfold OcI.tell
        by_cases h : tl = false ∧ (a = 3 ∨ a = 4)
        · rw [if_pos h]
          exact ⟨_, _, rfl, .inl ⟨rfl, h.1, h.2, rfl⟩⟩
        · rw [if_neg h]
          refine ⟨_, _, rfl, .inr ⟨rfl, ?_, rfl⟩⟩
          cases tl
          · exact .inr ⟨rfl, fun e => h ⟨rfl, .inl e⟩, fun e => h ⟨rfl, .inr e⟩⟩
          · exact .inl rfl
      clear ea er hc hc1 lc0 lc1 i0 i1
      go_upto_region 8 with fail
      go_cut [10] from 33 to 48 (fun v wx => wr = wx ∧ v = .bool g)
      case first =>
        clear d1
        rcases hg with ⟨rfl, rfl, h3 | h3, _⟩ | ⟨rfl, rfl | ⟨rfl, h3, h4⟩, _⟩
        · subst h3
          go_wp2_with fail
          go_meet
          case rel => exact ⟨rfl, rfl⟩
        · subst h3
          go_wp2_with fail
          go_meet
          case rel => exact ⟨rfl, rfl⟩
        · go_wp2_with fail
          go_meet
          case rel => exact ⟨rfl, rfl⟩
        · have q3 : (a == 3) = false := by simpa using h3
          have q4 : (a == 4) = false := by simpa using h4
          go_wp2_with fail
          go_meet
          case rel => exact ⟨rfl, rfl⟩
      case rest =>
      obtain ⟨rfl, rfl⟩ := hcut
      have qg : (g != g) = false := by simp
      go_upto_region 9 with fail
      go_cut [60] from 49 to 59 (fun v wx => v = .bool false ∧ ∃ S2, Oc w wx o S2 s')
      case first =>
        have B := B.quiet (Keep.refl (fun _ => False) wr).drew
        go_wp2_with fail
        refine wp_region_held_drew (S := (fun w' => w'.cell? ⟨b, off + sn, none⟩ = some (.int .i64 a) ∧ w'.cell? ⟨b1, off1 + sn, none⟩ = some (.int .i64 r))) (by kernel_rfl) ⟨d0, d1⟩ (fun hHeld => ?_)
        refine wpAnyH_take (i := 0) (v := ?qvu0) rfl (by kernel_rfl) (by kernel_rfl) (by kernel_rfl) (fun _ _ _ h => h) (Or.inl ⟨by rfl, ?qyu0⟩) (by assumption) ?qru0; case qyu0 => ((intro w hSw; (try dsimp only at hSw); go_simp); try (with_reducible rfl))
        ((try simp only [List.getElem_toArray]); (try simp only [List.getElem_cons_succ]); (try simp only [List.getElem_cons_zero]); (try simp only [Act.put]); (try simp only [List.setIfInBounds_toArray]); (try simp only [List.set_cons_succ]); (try simp only [List.set_cons_zero]))
        refine wpAnyH_take (i := 1) (v := ?qvu1) rfl (by kernel_rfl) (by kernel_rfl) (by kernel_rfl) (fun _ _ _ h => h) (Or.inl ⟨by rfl, ?qyu1⟩) (by assumption) ?qru1; case qyu1 => ((intro w hSw; (try dsimp only at hSw); go_simp); try (with_reducible rfl))
        ((try simp only [List.getElem_toArray]); (try simp only [List.getElem_cons_succ]); (try simp only [List.getElem_cons_zero]); (try simp only [Act.put]); (try simp only [List.setIfInBounds_toArray]); (try simp only [List.set_cons_succ]); (try simp only [List.set_cons_zero]))
        refine wpAnyH_take (i := 2) (v := ?qvu2) rfl (by kernel_rfl) (by kernel_rfl) (by kernel_rfl) (fun _ _ _ h => h) (Or.inl ⟨by rfl, ?qyu2⟩) (by assumption) ?qru2; case qyu2 => ((intro w hSw; (try dsimp only at hSw); go_simp); try (with_reducible rfl))
        ((try simp only [List.getElem_toArray]); (try simp only [List.getElem_cons_succ]); (try simp only [List.getElem_cons_zero]); (try simp only [Act.put]); (try simp only [List.setIfInBounds_toArray]); (try simp only [List.set_cons_succ]); (try simp only [List.set_cons_zero]))
        refine wpAnyH_take (i := 3) (v := ?qvu3) rfl (by kernel_rfl) (by kernel_rfl) (by kernel_rfl) (fun _ _ _ h => h) (Or.inl ⟨by rfl, ?qyu3⟩) (by assumption) ?qru3; case qyu3 => ((intro w hSw; (try dsimp only at hSw); go_simp); try (with_reducible rfl))
        ((try simp only [List.getElem_toArray]); (try simp only [List.getElem_cons_succ]); (try simp only [List.getElem_cons_zero]); (try simp only [Act.put]); (try simp only [List.setIfInBounds_toArray]); (try simp only [List.set_cons_succ]); (try simp only [List.set_cons_zero]))
        refine wpAnyH_take (i := 4) (v := ?qvu4) rfl (by kernel_rfl) (by kernel_rfl) (by kernel_rfl) (fun _ _ _ h => h) (Or.inl ⟨by rfl, ?qyu4⟩) (by assumption) ?qru4; case qyu4 => ((intro w hSw; (try dsimp only at hSw); go_simp); try (with_reducible rfl))
        ((try simp only [List.getElem_toArray]); (try simp only [List.getElem_cons_succ]); (try simp only [List.getElem_cons_zero]); (try simp only [Act.put]); (try simp only [List.setIfInBounds_toArray]); (try simp only [List.set_cons_succ]); (try simp only [List.set_cons_zero]))
        refine wpAnyH_take (i := 5) (v := ?qvu5) rfl (by kernel_rfl) (by kernel_rfl) (by kernel_rfl) (fun _ _ _ h => h) (Or.inl ⟨by rfl, ?qyu5⟩) (by assumption) ?qru5; case qyu5 => ((intro w hSw; (try dsimp only at hSw); go_simp); try (with_reducible rfl))
        ((try simp only [List.getElem_toArray]); (try simp only [List.getElem_cons_succ]); (try simp only [List.getElem_cons_zero]); (try simp only [Act.put]); (try simp only [List.setIfInBounds_toArray]); (try simp only [List.set_cons_succ]); (try simp only [List.set_cons_zero]))
        refine wpAnyH_take (i := 6) (v := ?qvu6) rfl (by kernel_rfl) (by kernel_rfl) (by kernel_rfl) (fun _ _ _ h => h) (Or.inl ⟨by rfl, ?qyu6⟩) (by assumption) ?qru6; case qyu6 => ((intro w hSw; (try dsimp only at hSw); go_simp); try (with_reducible rfl))
        ((try simp only [List.getElem_toArray]); (try simp only [List.getElem_cons_succ]); (try simp only [List.getElem_cons_zero]); (try simp only [Act.put]); (try simp only [List.setIfInBounds_toArray]); (try simp only [List.set_cons_succ]); (try simp only [List.set_cons_zero]))
        refine wpAnyH_take (i := 7) (v := ?qvu7) rfl (by kernel_rfl) (by kernel_rfl) (by kernel_rfl) (fun _ _ _ h => h) (Or.inl ⟨by rfl, ?qyu7⟩) (by assumption) ?qru7; case qyu7 => ((intro w hSw; (try dsimp only at hSw); go_simp); try (with_reducible rfl))
        ((try simp only [List.getElem_toArray]); (try simp only [List.getElem_cons_succ]); (try simp only [List.getElem_cons_zero]); (try simp only [Act.put]); (try simp only [List.setIfInBounds_toArray]); (try simp only [List.set_cons_succ]); (try simp only [List.set_cons_zero]))
        refine wpAnyH_take (i := 8) (v := ?qvu8) rfl (by kernel_rfl) (by kernel_rfl) (by kernel_rfl) (fun _ _ _ h => h) (Or.inl ⟨by rfl, ?qyu8⟩) (by assumption) ?qru8; case qyu8 => ((intro w hSw; (try dsimp only at hSw); go_simp); try (with_reducible rfl))
        ((try simp only [List.getElem_toArray]); (try simp only [List.getElem_cons_succ]); (try simp only [List.getElem_cons_zero]); (try simp only [Act.put]); (try simp only [List.setIfInBounds_toArray]); (try simp only [List.set_cons_succ]); (try simp only [List.set_cons_zero]))
        refine wpAnyH_take (i := 10) (v := ?qvu9) rfl (by kernel_rfl) (by kernel_rfl) (by kernel_rfl) (fun _ _ _ h => h) (Or.inl ⟨by rfl, ?qyu9⟩) (by assumption) ?qru9; case qyu9 => ((intro w hSw; (try dsimp only at hSw); go_simp); try (with_reducible rfl))
        ((try simp only [List.getElem_toArray]); (try simp only [List.getElem_cons_succ]); (try simp only [List.getElem_cons_zero]); (try simp only [Act.put]); (try simp only [List.setIfInBounds_toArray]); (try simp only [List.set_cons_succ]); (try simp only [List.set_cons_zero]))
        refine wpAnyH_ready (rs := [9]) (by kernel_rfl) (by simp) ?_
        refine AllReadyH.cons rfl (fun K hK => ?_) AllReadyH.nil
        go_simp
        refine (oc_tell B (by show sn ≤ 1000; omega) a r ua ur _ _ hs).mono ?_
        rintro e y2 ⟨rfl, S2, C2, k2⟩
        refine hK.out _ _ ⟨(C2.b.cell (p := ⟨b, off + sn, none⟩) hb).trans e0, (C2.b.cell (p := ⟨b1, off1 + sn, none⟩) hb1).trans e1⟩ (fun hHeld => ?_)
        clear hK K
        ((try simp only [List.getElem_toArray]); (try simp only [List.getElem_cons_succ]); (try simp only [List.getElem_cons_zero]); (try simp only [Act.put]); (try simp only [List.setIfInBounds_toArray]); (try simp only [List.set_cons_succ]); (try simp only [List.set_cons_zero]))
        refine wpAnyH_take (i := 11) (v := ?qvu10) rfl (by kernel_rfl) (by kernel_rfl) (by kernel_rfl) (fun _ _ _ h => h) (Or.inl ⟨by rfl, ?qyu10⟩) (by assumption) ?qru10; case qyu10 => ((intro w hSw; (try dsimp only at hSw); go_simp); try (with_reducible rfl))
        ((try simp only [List.getElem_toArray]); (try simp only [List.getElem_cons_succ]); (try simp only [List.getElem_cons_zero]); (try simp only [Act.put]); (try simp only [List.setIfInBounds_toArray]); (try simp only [List.set_cons_succ]); (try simp only [List.set_cons_zero]))
        refine wpAnyH_done (by kernel_rfl) ?_ _
        go_wp2_with fail
        go_meet
        case rel => exact ⟨rfl, S2, C2⟩
      case rest =>
      clear B d0 d1
      obtain ⟨rfl, S2, C2⟩ := hcut
      have d0 := (C2.b.cell (p := ⟨b, off + sn, none⟩) hb).trans e0
      have d1 := (C2.b.cell (p := ⟨b1, off1 + sn, none⟩) hb1).trans e1
      clear hs qg
      go_upto_if 61 with fail
      go_cut [6, 7, 8] from 61 to 69 (fun v6 v7 v8 wx => v6 = .int .i64 s'.st ∧ v7 = .int .i64 s'.rs ∧ v8 = .bool s'.told ∧ Oc w wx o S2 s')
      case first =>
        rcases hg with ⟨rfl, _, _, rfl⟩ | ⟨rfl, _, rfl⟩
        · go_wp2_with fail
          go_quiet (fail)
          go_wp2
          go_meet
          case rel => exact ⟨rfl, rfl, rfl, C2.quiet (drewN_keep (fun _ => False) _ _)⟩
        · go_wp2_with fail
          go_meet
          case rel => exact ⟨rfl, rfl, rfl, C2⟩
      case rest =>
      have sn' : s'.n = sn + 1 := by rcases hg with ⟨_, _, _, rfl⟩ | ⟨_, _, rfl⟩ <;> rfl
      clear C2 hg d0 d1 e0 e1 ua ur
      obtain ⟨st', rs', tl', n'⟩ := s'
      dsimp only at sn'
      subst sn'
      obtain ⟨rfl, rfl, rfl, B⟩ := hcut
      have q6 : (st' != st') = false := by simp
      have q7 : (rs' != rs') = false := by simp
      have q8 : (tl' != tl') = false := by simp
      go_wp2_with fail
      refine (oc_get B).mono ?_
      rintro e y4 ⟨rfl, S4, C4, k4⟩
      clear B k4
      go_wp2_with fail
      refine (oc_count C4 ((sn : Int) + 1) (by simp) (by show sn + 1 ≤ 1000; omega)).mono ?_
      rintro e y5 ⟨rfl, S5, C5, k5⟩
      clear C4 k5
      go_wp2_with fail
      go_roundg (50 - (sn + 1))
      case measure => omega
      case rel => exact ⟨sn + 1, by omega, S5, _, by omega, by omega, by omega, by go_num, rfl, rfl, rfl, rfl, C5⟩
    · rcases (by omega : sn = n0 ∨ (sn < n0 ∧ sn = n1) ∨ (sn < n0 ∧ sn < n1 ∧ sn = 50)) with rfl | ⟨h0, rfl⟩ | ⟨h0, h1, rfl⟩
      all_goals
        go_wp2_with fail
        refine (awake18_any _).mono ?_
        rintro e y6 ⟨rfl, b6⟩
        go_wp2
        go_ret
        exact ⟨rfl, B.b.trans (b6.mono B.b.size)⟩
theorem own : ownKnob Try.prog.godebug = none := by kernel_rfl
theorem laidOut : laidOutB Try.prog = true := by kernel_rfl
set_option maxRecDepth 100000 in
theorem lifted (os : Os) (started : os.Started) (H : Type) (enc : TypeId × Value → H) :
    ReturnsInHanded {} Try.checked os 4 .any (Rows.outcomeOnceSpec.pre6 enc Try.prog Try.f4 Rows.outcomeOnceRow.domain false) (Rows.outcomeOnceSpec.post enc Try.prog Try.f4 false true false false) := by
  refine returnsInHanded_of_change (C := Try.checked) own started (by kernel_rfl) Try.func4
    (ChangeSpec.witness6 (enc := enc) (C := Try.checked) false ⟨#[], #[.slice none 0 0, .slice none 0 0], []⟩ 8 (by kernel_rfl) (by kernel_rfl) (by kernel_rfl) (by kernel_rfl)) ?_
  intro W base args ds gs before hval0 hW hcnd _
  have hval : ∀ (j : Nat) t v, Try.f4.params[j]? = some t → args[j]? = some v → Value.okWide Try.prog W .any base t v := hval0
  have hW' := hW
  obtain ⟨p, q, hA0, hV, rfl, hfz, hnd⟩ := hW
  have hA : DataW.TrodAll enc Try.prog W 0 (fun _ => true) true Try.f4.params.toList args.toList ds p := hA0
  rw [Try.params4] at hA hval
  obtain ⟨v0, vs0, d0, ds0, p0, q0, hargs, rfl, rfl, h0, r0⟩ := trodAll_cons hA
  obtain ⟨v1, vs1, d1, ds1, p1, q1, rfl, rfl, rfl, h1, r1⟩ := trodAll_cons r0
  obtain ⟨rfl, rfl, rfl⟩ := trodAll_nil r1
  obtain rfl : args = #[v0, v1] := by cases args; simp_all
  obtain ⟨rfl, rfl⟩ := trodVars_none hV
  obtain ⟨a0, len0, cap0, rfl⟩ := okWide_slice Try.underlying30 (hval 0 30 v0 rfl rfl)
  have k0 := h0
  have lt0 : ∀ x ∈ p0, x.block < W.heap.size := by obtain ⟨m, hm⟩ := k0; exact DataW.trod_lt m _ _ _ hm
  obtain ⟨z0, w0⟩ : ∃ zs, IsRow .i64 W a0 len0 cap0 zs := is_row Try.underlying30 Try.underlying3 (by kernel_rfl) h0
  obtain ⟨a1, len1, cap1, rfl⟩ := okWide_slice Try.underlying30 (hval 1 30 v1 rfl rfl)
  have k1 := h1
  have lt1 : ∀ x ∈ p1, x.block < W.heap.size := by obtain ⟨m, hm⟩ := k1; exact DataW.trod_lt m _ _ _ hm
  obtain ⟨z1, w1⟩ : ∃ zs, IsRow .i64 W a1 len1 cap1 zs := is_row Try.underlying30 Try.underlying3 (by kernel_rfl) h1
  clear hA0 hval0
  refine (walk a0 len0 cap0 z0 a1 len1 cap1 z1 W w0 w1).mono fun e W' ⟨he, bel⟩ => ?_
  subst he
  exact ⟨_, rfl, _, _, _, [], _, [], hW', trodAll_mk1 (shut_bool Try.underlying4 _), (trodAll_cons_mk (Below.trod laidOut (by kernel_rfl) (of_decide_eq_true (by kernel_rfl)) k0 bel lt0) (trodAll_cons_mk (Below.trod laidOut (by kernel_rfl) (of_decide_eq_true (by kernel_rfl)) k1 bel lt1) trodAll_mk0)), rfl, bel.frame _, fun h => by cases h⟩
theorem over : Rows.outcomeOnceRow.holds Try.pinned (OpenSpec.ofChange Rows.outcomeOnceSpec) :=
  OpenClaim.holds_of_wide 4 Try.f4 rfl rfl rfl rfl rfl rfl rfl ⟨rfl, rfl, rfl, rfl, rfl⟩ rfl rfl rfl rfl rfl (by kernel_rfl) Try.func4 (by kernel_rfl)
    (of_decide_eq_true (by kernel_rfl)) (by unfold Func.isWrapper; first | (rw [if_pos (by decide +kernel)]; kernel_rfl) | (rw [if_neg (by decide +kernel)]; exact ⟨rfl, rfl⟩))
    (fun os started H enc _ => lifted os started H enc)
theorem proved : Rows.OutcomeOnceSaid := over
end Go.Proofs.Ytamahfpfminhoaa.outcomeOnce
