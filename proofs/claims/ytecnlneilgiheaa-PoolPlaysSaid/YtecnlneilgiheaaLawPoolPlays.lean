/- Proved here: vinculumlaw3.PoolPlays returns true and leaves its arguments as they were, for every two ints and every script; no further condition. -/
import Derived.Test.YtecnlneilgiheaaAhead
import Derived.Test.YtecnlneilgiheaaOps3
import Derived.ChangeOld
import Derived.Deep.CutRange
import Derived.Deep.CutBlock
import Derived.Deep.LoopGhost
namespace Go.Proofs.Ytecnlneilgiheaa.poolPlays
open Go.ChangeShapes Go.WideShapes Go.ChangeAt Go.RowKit
set_option linter.unusedVariables false

def Rel (W : World) (len p pr b1 b2 : Nat) (k : Nat) (v i : Value) (wr : World) : Prop :=
  ∃ S s v3 zs, k ≤ len ∧ k ≤ 100 ∧ i = .int .i64 k ∧ zs.length ≤ k ∧ (∀ j, 0 ≤ zs.getD j 0 ∧ zs.getD j 0 ≤ 18446744073709551615) ∧ Ok s ∧ Both W wr p S s pr b1 b2 v3 s v zs
theorem zbN {zs : List Int} {l : Int} (h : ∀ j, 0 ≤ zs.getD j 0 ∧ zs.getD j 0 ≤ 18446744073709551615) (hl : 1 ≤ l ∧ l ≤ 8589934592) (j : Nat) : 0 ≤ (zs ++ [l]).getD j 0 ∧ (zs ++ [l]).getD j 0 ≤ 18446744073709551615 := by
  have := h j
  rw [List.getD_eq_getElem?_getD] at this ⊢
  rw [List.getElem?_append]
  split
  · exact this
  · cases hk : j - zs.length with
    | zero => simp; omega
    | succ m => simp
theorem mark_dead {s : St} (ok : Ok s) (l : Int) : s.live (markI l) = false := by
  cases h : s.live (markI l) with
  | false => rfl
  | true =>
    obtain ⟨i, hi, _, e, _⟩ := (live_iff _ _).1 h
    have b := link_b ok i hi
    rw [← e] at b
    unfold markI at b
    split at b <;> omega
set_option maxRecDepth 100000 in
set_option maxHeartbeats 16000000 in
theorem walk (a0 a1 : Int) (a2 : Option Addr) (len2 cap2 : Nat) (f : Nat → OpI) (w : World) (w0 : (Lit.int .i64 a0).wf = true) (w1 : (Lit.int .i64 a1).wf = true) (w2 : IsOps w a2 len2 cap2 f) :
    Calls Try.prog 5 #[.int .i64 a0, .int .i64 a1, .slice a2 len2 cap2] w fun e w' => e = .returned (.bool true) ∧ Below w.heap.size w w' := by
  obtain ⟨q0, q1⟩ := bounds_i64 w0
  obtain ⟨q2, q3⟩ := bounds_i64 w1
  obtain ⟨l2, l3, lc, ok2⟩ := id w2
  obtain ⟨N, hN⟩ : ∃ N : Int, (if 30 < a0 ∧ a0 ≤ 4096 then a0 % 30 + 1 else a0) = N := ⟨_, rfl⟩
  have N1 : -9223372036854775808 ≤ N := by split at hN <;> omega
  have N2 : N ≤ 9223372036854775807 := by split at hN <;> omega
  have N3 : N ≤ 30 ∨ 4096 < N := by split at hN <;> omega
  have HN := Lib.hid hN
  clear hN
  go_enter Try.func5, Try.ntmps5
  go_upto_region 1 with fail
  go_cut [23] from 18 to 26 (fun s wx => s = .bool (decide (30 < a0 ∧ a0 ≤ 4096)) ∧ w = wx)
  case first =>
    by_cases h1 : 30 < a0
    · by_cases h2 : a0 ≤ 4096
      · go_wp2_with fail
        go_meet
        case rel => exact ⟨by rw [show decide (30 < a0 ∧ a0 ≤ 4096) = true from decide_eq_true (by omega)], rfl⟩
      · go_wp2_with fail
        go_meet
        case rel => exact ⟨by rw [show decide (30 < a0 ∧ a0 ≤ 4096) = false from decide_eq_false (by omega)], rfl⟩
    · go_wp2_with fail
      go_meet
      case rel => exact ⟨by rw [show decide (30 < a0 ∧ a0 ≤ 4096) = false from decide_eq_false (by omega)], rfl⟩
  case rest =>
  obtain ⟨rfl, rfl⟩ := hcut
  go_upto_if 23 with fail
  go_cut [0] from 18 to 26 (fun s wx => s = .int .i64 N ∧ w = wx)
  case first =>
    by_cases h1 : 30 < a0 ∧ a0 ≤ 4096
    · have hn : a0 % 30 + 1 = N := by have := HN.out; rwa [if_pos h1] at this
      have h2 : decide (30 < a0 ∧ a0 ≤ 4096) = true := decide_eq_true h1
      have h3 := h1.1
      go_wp2_with fail
      go_meet
      case rel => exact ⟨rfl, rfl⟩
    · have hn : a0 = N := by have := HN.out; rwa [if_neg h1] at this
      have h2 : decide (30 < a0 ∧ a0 ≤ 4096) = false := decide_eq_false h1
      go_wp2_with fail
      go_meet
      case rel => exact ⟨by first | rfl | rw [hn], rfl⟩
  case rest =>
  obtain ⟨rfl, rfl⟩ := hcut
  clear HN q0 q1 w0
  by_cases hbad : N < 1 ∨ (¬ N < 1 ∧ 4096 < N) ∨ (¬ N < 1 ∧ ¬ 4096 < N ∧ a1 < 0) ∨ (¬ N < 1 ∧ ¬ 4096 < N ∧ ¬ a1 < 0 ∧ 65535 < a1)
  · go_wp2_with fail
    refine (pnew_no N a1 _ (by omega)).mono ?_
    rintro e x1 ⟨rfl, rfl⟩
    go_wp2_with fail
    refine (rnew_no N a1 _ (by omega)).mono ?_
    rintro e x2 ⟨rfl, rfl⟩
    clear hbad
    go_wp2_with fail
    refine (awake3_any _).mono ?_
    rintro e x3 ⟨rfl, b3⟩
    go_wp2
    go_ret
    exact ⟨rfl, b3⟩
  · obtain ⟨n, rfl⟩ : ∃ n : Nat, N = n := ⟨N.toNat, by omega⟩
    have n1 : 1 ≤ n := by omega
    have n2 : n ≤ 4096 := by omega
    have m0 : 0 ≤ a1 := by omega
    have m1 : a1 ≤ 65535 := by omega
    clear hbad N1 N2 N3
    go_wp2_with fail
    refine (pnew_ok n a1 _ n1 n2 m0 m1).mono ?_
    rintro e x1 ⟨p, S1, rfl, h1, g1, c1⟩
    go_wp2_with fail
    refine (rnew_ok n a1 _ n1 n2 m0 m1).mono ?_
    rintro e x2 ⟨pr, b1, b2, rfl, h2, gp, gb1, gb2, c2⟩
    have ok0 := ok_new n a1 n1 n2 m0 m1
    have B0 : Both w x2 p S1 (St.new n a1) pr b1 b2 (.slice none 0 0) (St.new n a1) (.slice none 0 0) [] := by
      have z1 := c1.size
      refine ⟨h1.keep (Keep.of_below c2 (fun _ => False)) (by simp), h2, World.ownsRow_nil _ _ _ _, g1, fun x hx => ?_, fun x hx y => ?_, fun g hg => by simp [Value.ownBlock] at hg, fun g hg => by simp [Value.ownBlock] at hg, c1.trans (c2.mono z1)⟩
      · rcases hx with rfl | rfl | rfl | hx
        · omega
        · omega
        · omega
        · simp [Value.ownBlock] at hx
      · have := h1.lt x hx
        rcases y with rfl | rfl | rfl | y
        · omega
        · omega
        · omega
        · simp [Value.ownBlock] at y
    clear h1 h2 g1 gp gb1 gb2 c1 c2
    go_wp2
    go_loopg [10, 11] len2 (fun m v i wr => ∃ k : Nat, m + k = len2 ∧ Rel w len2 p pr b1 b2 k v i wr)
    case atStart => exact ⟨0, rfl, S1, _, _, [], Nat.zero_le _, by omega, rfl, by simp, fun j => by simp, ok0, B0⟩
    case round =>
      obtain ⟨k, hgk, S, s, v3, zs, kl, k100, rfl, zl, zb, ok, B⟩ := hrel
      clear B0 ok0
      by_cases hlt : k < len2 ∧ k < 100
      · obtain ⟨hl, h100⟩ := hlt
        obtain ⟨b, off, rfl, hb, hc⟩ := lc (by omega)
        obtain ⟨d0, d1, d2⟩ := hc k hl
        obtain ⟨s0, s1, t0, t1, u0, u1⟩ := ok2 k hl
        obtain ⟨o, eo⟩ : ∃ o, f k = o := ⟨_, rfl⟩
        rw [eo] at d0 d1 d2 s0 s1 t0 t1 u0 u1
        obtain ⟨kd, nn, lk⟩ := o
        dsimp only at d0 d1 d2 s0 s1 t0 t1 u0 u1
        have d0 := (B.bl.cell (p := ⟨b, off + k * 3, none⟩) hb).trans d0
        have d1 := (B.bl.cell (p := ⟨b, off + k * 3 + 1, none⟩) hb).trans d1
        have d2 := (B.bl.cell (p := ⟨b, off + k * 3 + 2, none⟩) hb).trans d2
        clear eo hc lc ok2
        obtain ⟨A, c0, hv, hA0, hA1⟩ := B.ow.out
        subst hv
        have B := B.quiet (Keep.alloc (Keep.refl (fun _ => False) wr) (.cells #[.int .i64 kd, .int .i64 nn, .int .u64 lk] 42))
        obtain ⟨wA, eA⟩ : ∃ x, wr.alloc (.cells #[.int .i64 kd, .int .i64 nn, .int .u64 lk] 42) = x := ⟨_, rfl⟩
        have x0 : wA.cell? ⟨wr.heap.size, 0, none⟩ = some (.int .i64 kd) := by rw [← eA]; simp
        have x1 : wA.cell? ⟨wr.heap.size, 1, none⟩ = some (.int .i64 nn) := by rw [← eA]; simp
        have x2 : wA.cell? ⟨wr.heap.size, 2, none⟩ = some (.int .u64 lk) := by rw [← eA]; simp
        rw [eA] at B
        go_upto_region 15 with fail
        clear d0 d1 d2 eA
        go_cut [76] from 53 to 166 (fun s wx => s = .bool (decide (0 < zs.length ∧ kd ≠ 2)) ∧ wA = wx)
        case first =>
          by_cases g1 : zs.length = 0
          · go_wp2_with fail
            go_meet
            case rel => exact ⟨by rw [show decide (0 < zs.length ∧ kd ≠ 2) = false from decide_eq_false (by omega)], rfl⟩
          · have g2 : 0 < zs.length := by omega
            by_cases g3 : kd = 2
            · subst g3
              go_wp2_with fail
              go_meet
              case rel => exact ⟨by rw [show decide (0 < zs.length ∧ (2 : Int) ≠ 2) = false from decide_eq_false (by omega)], rfl⟩
            · have g4 : (kd != 2) = true := by simpa using g3
              go_wp2_with fail
              go_meet
              case rel => exact ⟨by rw [show decide (0 < zs.length ∧ kd ≠ 2) = true from decide_eq_true (by omega)], rfl⟩
        case rest =>
        obtain ⟨rfl, rfl⟩ := hcut
        go_upto_if 76 with fail
        go_cut [13] from 53 to 166 (fun s wx => (∃ l : Int, s = .int .u64 l ∧ 0 ≤ l ∧ l ≤ 18446744073709551615) ∧ wA = wx)
        case first =>
          by_cases g1 : 0 < zs.length ∧ kd ≠ 2
          · have g2 : decide (0 < zs.length ∧ kd ≠ 2) = true := decide_eq_true g1
            cases A with
            | none => exact absurd (hA0 rfl) (by intro e; subst e; simp at g1)
            | some ad =>
              obtain ⟨ga, rfl⟩ := hA1 _ rfl
              obtain ⟨m1', em1⟩ : ∃ m : Nat, nn % 65536 = m := ⟨(nn % 65536).toNat, by omega⟩
              have hm1 : bits .and .i64 nn 65535 = m1' := (i64_mask16 nn).trans em1
              obtain ⟨j, ej⟩ : ∃ j : Nat, m1' % zs.length = j := ⟨_, rfl⟩
              have hj : j < zs.length := by rw [← ej]; exact Nat.mod_lt _ g1.1
              have ek : (m1' : Int) % (zs.length : Int) = (j : Int) := by rw [← ej]; rfl
              have cj := B.ow.cell j hj
              have bj := zb j
              obtain ⟨y, ey⟩ : ∃ y, zs.getD j 0 = y := ⟨_, rfl⟩
              rw [ey] at cj bj
              have zp := g1.1
              clear em1 ej ey
              go_wp2_with fail
              go_meet
              case rel => exact ⟨⟨y, rfl, bj⟩, rfl⟩
          · have g2 : decide (0 < zs.length ∧ kd ≠ 2) = false := decide_eq_false g1
            go_wp2_with fail
            go_meet
            case rel => exact ⟨⟨lk, rfl, u0, u1⟩, rfl⟩
        case rest =>
        obtain ⟨⟨l, rfl, lb0, lb1⟩, rfl⟩ := hcut
        clear x2 x1 u0 u1 t0 t1
        go_upto_block 2 with fail
        go_cut [10] from 53 to 166 (fun v wx => ∃ S' s' v3' zs', zs'.length ≤ k + 1 ∧ (∀ j, 0 ≤ zs'.getD j 0 ∧ zs'.getD j 0 ≤ 18446744073709551615) ∧ Ok s' ∧ Both w wx p S' s' pr b1 b2 v3' s' v zs')
        case first =>
          rcases (by omega : kd = 0 ∨ kd = 1 ∨ kd = 2 ∨ ¬ (0 ≤ kd ∧ kd ≤ 2)) with rfl | rfl | rfl | hkd
          · rcases take_ahead ok with ⟨lx, s', l0, l1, ok', hP, hR⟩ | ⟨hP, hR⟩
            · go_wp2_with fail
              refine (hP _ _ _ B.hp).mono ?_
              rintro e y1 ⟨rfl, S2, h2, k2, g2⟩
              have B := B.pstep h2 k2 g2
              clear h2 k2 g2 hP
              go_wp2_with fail
              refine (hR _ _ _ _ _ B.hr).mono ?_
              rintro e y2 ⟨rfl, v4, h3, k3, g3⟩
              have B := B.rstep h3 k3 g3
              clear h3 k3 g3 hR
              go_wp2_with (with_reducible refine wp_stop 126 rfl ?_); intro _; refine wp_push rfl (.tmp 123) (.tmp 125) rfl w.heap.size B.bl.size (.slice A zs.length c0) zs rfl B.ow lx rfl (by first | (simp; done) | (simp; omega) | omega) ?_; intro g c y3 o3 k3 hg3; have B := B.push o3 k3 hg3; clear o3 k3 hg3; go_wp2_with fail
              go_meet
              case rel => exact ⟨_, s', _, zs ++ [lx], by simp; omega, zbN zb ⟨l0, l1⟩, ok', B⟩
            · go_wp2_with fail
              refine (hP _ _ _ B.hp).mono ?_
              rintro e y1 ⟨rfl, S2, h2, k2, g2⟩
              have B := B.pstep h2 k2 g2
              clear h2 k2 g2 hP
              go_wp2_with fail
              refine (hR _ _ _ _ _ B.hr).mono ?_
              rintro e y2 ⟨rfl, v4, h3, k3, g3⟩
              have B := B.rstep h3 k3 g3
              clear h3 k3 g3 hR
              go_wp2_with fail
              go_meet
              case rel => exact ⟨_, s, _, zs, by omega, zb, ok, B⟩
          · skip
            obtain ⟨r, s', r0, r1, ok', hP, hR⟩ := give_ahead ok l lb0 lb1
            go_wp2_with fail
            refine (hP _ _ _ B.hp).mono ?_
            rintro e y1 ⟨rfl, S2, h2, k2, g2⟩
            have B := B.pstep h2 k2 g2
            clear h2 k2 g2 hP
            go_wp2_with fail
            refine (hR _ _ _ _ _ B.hr).mono ?_
            rintro e y2 ⟨rfl, v4, h3, k3, g3⟩
            have B := B.rstep h3 k3 g3
            clear h3 k3 g3 hR
            go_wp2_with fail
            go_meet
            case rel => exact ⟨_, s', _, zs, by omega, zb, ok', B⟩
          · skip
            obtain ⟨r, s', r0, r1, ok', hP, hR⟩ := give_ahead ok l lb0 lb1
            go_wp2_with fail
            refine (hP _ _ _ B.hp).mono ?_
            rintro e y1 ⟨rfl, S2, h2, k2, g2⟩
            have B := B.pstep h2 k2 g2
            clear h2 k2 g2 hP
            go_wp2_with fail
            refine (hR _ _ _ _ _ B.hr).mono ?_
            rintro e y2 ⟨rfl, v4, h3, k3, g3⟩
            have B := B.rstep h3 k3 g3
            clear h3 k3 g3 hR
            go_wp2_with fail
            go_meet
            case rel => exact ⟨_, s', _, zs, by omega, zb, ok', B⟩
          · have q0 : (kd == 0) = false := by rw [beq_eq_false_iff_ne]; omega
            have q1 : (kd == 1) = false := by rw [beq_eq_false_iff_ne]; omega
            have q2 : (kd == 2) = false := by rw [beq_eq_false_iff_ne]; omega
            have hmk : s.live (markI l) = false := mark_dead ok l
            have mb := markI_bd l lb0 lb1
            obtain ⟨b, hP, hR⟩ := live_ahead ok l lb0 lb1
            go_wp2_with fail
            refine (hP _ _ _ B.hp).mono ?_
            rintro e y1 ⟨rfl, S2, h2, k2, g2⟩
            have B := B.pstep h2 k2 g2
            clear h2 k2 g2 hP
            go_wp2_with fail
            refine (hR _ _ _ _ _ B.hr).mono ?_
            rintro e y2 ⟨rfl, rfl⟩
            clear hR
            go_wp2_with fail
            refine (mark_any l lb0 lb1 _).mono ?_
            rintro e y3 ⟨rfl, rfl⟩
            go_wp2_with fail
            refine (plive_no B.hp ok (markI l) mb.1 mb.2 hmk).mono ?_
            rintro e y4 ⟨rfl, S3, h3, k3, g3⟩
            have B := B.pstep h3 k3 g3
            clear h3 k3 g3
            go_wp2_with fail
            go_meet
            case rel => exact ⟨_, s, _, zs, by omega, zb, ok, B⟩
        case rest =>
        obtain ⟨SN, sN, v5, zsN, zlN, zbn, okN, B⟩ := hcut
        go_wp2_with fail
        have BD := B.quiet (Keep.refl (fun _ => False) _).drew
        have ue := used_eq okN
        have al := allTo_le okN
        clear B
        refine wp_region_held_drew (S := (fun w' => w'.cell? ⟨pr, 5, none⟩ = some (.int .i64 sN.worn))) (by kernel_rfl) BD.hr.c5 (fun hHeld => ?_)
        refine wpAnyH_take (i := 0) (v := ?qvu0) rfl (by kernel_rfl) (by kernel_rfl) (by kernel_rfl) (fun _ _ _ h => h) (Or.inl ⟨by rfl, ?qyu0⟩) (by assumption) ?qru0; case qyu0 => ((intro w hSw; (try dsimp only at hSw); go_simp); try (with_reducible rfl))
        ((try simp only [List.getElem_toArray]); (try simp only [List.getElem_cons_succ]); (try simp only [List.getElem_cons_zero]); (try simp only [Act.put]); (try simp only [List.setIfInBounds_toArray]); (try simp only [List.set_cons_succ]); (try simp only [List.set_cons_zero]))
        refine wpAnyH_take (i := 2) (v := ?qvu1) rfl (by kernel_rfl) (by kernel_rfl) (by kernel_rfl) (fun _ _ _ h => h) (Or.inl ⟨by rfl, ?qyu1⟩) (by assumption) ?qru1; case qyu1 => ((intro w hSw; (try dsimp only at hSw); go_simp); try (with_reducible rfl))
        ((try simp only [List.getElem_toArray]); (try simp only [List.getElem_cons_succ]); (try simp only [List.getElem_cons_zero]); (try simp only [Act.put]); (try simp only [List.setIfInBounds_toArray]); (try simp only [List.set_cons_succ]); (try simp only [List.set_cons_zero]))
        refine wpAnyH_ready (rs := [1]) (by kernel_rfl) (by simp) ?_
        refine AllReadyH.cons rfl (fun K hK => ?_) AllReadyH.nil
        go_simp
        refine (pfree_any BD.hp okN).mono ?_
        rintro e z1 ⟨rfl, S6, h6, k6, g6⟩
        have BD := BD.pstep h6 k6 g6
        clear h6 k6 g6
        refine hK.out _ _ BD.hr.c5 (fun hHeld => ?_)
        clear hK K
        ((try simp only [List.getElem_toArray]); (try simp only [List.getElem_cons_succ]); (try simp only [List.getElem_cons_zero]); (try simp only [Act.put]); (try simp only [List.setIfInBounds_toArray]); (try simp only [List.set_cons_succ]); (try simp only [List.set_cons_zero]))
        refine wpAnyH_ready (rs := [3]) (by kernel_rfl) (by simp) ?_
        refine AllReadyH.cons rfl (fun K hK => ?_) AllReadyH.nil
        go_simp
        refine (rfree_any BD.hr okN).mono ?_
        rintro e z2 ⟨rfl, d, rfl⟩
        have BD := BD.quiet (drewN_keep _ _ d)
        refine hK.out _ _ BD.hr.c5 (fun hHeld => ?_)
        clear hK K
        ((try simp only [List.getElem_toArray]); (try simp only [List.getElem_cons_succ]); (try simp only [List.getElem_cons_zero]); (try simp only [Act.put]); (try simp only [List.setIfInBounds_toArray]); (try simp only [List.set_cons_succ]); (try simp only [List.set_cons_zero]))
        refine wpAnyH_take (i := 4) (v := ?qvu2) rfl (by kernel_rfl) (by kernel_rfl) (by kernel_rfl) (fun _ _ _ h => h) (Or.inl ⟨by rfl, ?qyu2⟩) (by assumption) ?qru2; case qyu2 => ((intro w hSw; (try dsimp only at hSw); go_simp); try (with_reducible rfl))
        ((try simp only [List.getElem_toArray]); (try simp only [List.getElem_cons_succ]); (try simp only [List.getElem_cons_zero]); (try simp only [Act.put]); (try simp only [List.setIfInBounds_toArray]); (try simp only [List.set_cons_succ]); (try simp only [List.set_cons_zero]))
        refine wpAnyH_take (i := 5) (v := ?qvu3) rfl (by kernel_rfl) (by kernel_rfl) (by kernel_rfl) (fun _ _ _ h => h) (Or.inl ⟨by rfl, ?qyu3⟩) (by assumption) ?qru3; case qyu3 => ((intro w hSw; (try dsimp only at hSw); go_simp); try (with_reducible rfl))
        ((try simp only [List.getElem_toArray]); (try simp only [List.getElem_cons_succ]); (try simp only [List.getElem_cons_zero]); (try simp only [Act.put]); (try simp only [List.setIfInBounds_toArray]); (try simp only [List.set_cons_succ]); (try simp only [List.set_cons_zero]))
        refine wpAnyH_take (i := 6) (v := ?qvu4) rfl (by kernel_rfl) (by kernel_rfl) (by kernel_rfl) (fun _ _ _ h => h) (Or.inl ⟨by rfl, ?qyu4⟩) (by assumption) ?qru4; case qyu4 => ((intro w hSw; (try dsimp only at hSw); go_simp); try (with_reducible rfl))
        ((try simp only [List.getElem_toArray]); (try simp only [List.getElem_cons_succ]); (try simp only [List.getElem_cons_zero]); (try simp only [Act.put]); (try simp only [List.setIfInBounds_toArray]); (try simp only [List.set_cons_succ]); (try simp only [List.set_cons_zero]))
        refine wpAnyH_take (i := 8) (v := ?qvu5) rfl (by kernel_rfl) (by kernel_rfl) (by kernel_rfl) (fun _ _ _ h => h) (Or.inl ⟨by rfl, ?qyu5⟩) (by assumption) ?qru5; case qyu5 => ((intro w hSw; (try dsimp only at hSw); go_simp); try (with_reducible rfl))
        ((try simp only [List.getElem_toArray]); (try simp only [List.getElem_cons_succ]); (try simp only [List.getElem_cons_zero]); (try simp only [Act.put]); (try simp only [List.setIfInBounds_toArray]); (try simp only [List.set_cons_succ]); (try simp only [List.set_cons_zero]))
        refine wpAnyH_ready (rs := [7]) (by kernel_rfl) (by simp) ?_
        refine AllReadyH.cons rfl (fun K hK => ?_) AllReadyH.nil
        go_simp
        refine (pu_to BD.hp okN _ ue).mono ?_
        rintro e z3 ⟨rfl, S7, h6, k6, g6⟩
        have BD := BD.pstep h6 k6 g6
        clear h6 k6 g6
        refine hK.out _ _ BD.hr.c5 (fun hHeld => ?_)
        clear hK K
        ((try simp only [List.getElem_toArray]); (try simp only [List.getElem_cons_succ]); (try simp only [List.getElem_cons_zero]); (try simp only [Act.put]); (try simp only [List.setIfInBounds_toArray]); (try simp only [List.set_cons_succ]); (try simp only [List.set_cons_zero]))
        refine wpAnyH_ready (rs := [9]) (by kernel_rfl) (by simp) ?_
        refine AllReadyH.cons rfl (fun K hK => ?_) AllReadyH.nil
        go_simp
        refine (rall_any BD.hr okN).mono ?_
        rintro e z4 ⟨va, rfl, oa, ba⟩
        obtain ⟨A1, ca, rfl, _, _⟩ := OwnU.out oa
        have BD := BD.quiet (Keep.of_below ba (fun _ => False))
        clear oa ba
        refine hK.out _ _ BD.hr.c5 (fun hHeld => ?_)
        clear hK K
        ((try simp only [List.getElem_toArray]); (try simp only [List.getElem_cons_succ]); (try simp only [List.getElem_cons_zero]); (try simp only [Act.put]); (try simp only [List.setIfInBounds_toArray]); (try simp only [List.set_cons_succ]); (try simp only [List.set_cons_zero]))
        refine wpAnyH_take (i := 10) (v := ?qvu6) rfl (by kernel_rfl) (by kernel_rfl) (by kernel_rfl) (fun _ _ _ h => h) (Or.inl ⟨by rfl, ?qyu6⟩) (by assumption) ?qru6; case qyu6 => ((intro w hSw; (try dsimp only at hSw); go_simp); try (with_reducible rfl))
        ((try simp only [List.getElem_toArray]); (try simp only [List.getElem_cons_succ]); (try simp only [List.getElem_cons_zero]); (try simp only [Act.put]); (try simp only [List.setIfInBounds_toArray]); (try simp only [List.set_cons_succ]); (try simp only [List.set_cons_zero]))
        refine wpAnyH_take (i := 11) (v := ?qvu7) rfl (by kernel_rfl) (by kernel_rfl) (by kernel_rfl) (fun _ _ _ h => h) (Or.inl ⟨by rfl, ?qyu7⟩) (by assumption) ?qru7; case qyu7 => ((intro w hSw; (try dsimp only at hSw); go_simp); try (with_reducible rfl))
        ((try simp only [List.getElem_toArray]); (try simp only [List.getElem_cons_succ]); (try simp only [List.getElem_cons_zero]); (try simp only [Act.put]); (try simp only [List.setIfInBounds_toArray]); (try simp only [List.set_cons_succ]); (try simp only [List.set_cons_zero]))
        refine wpAnyH_take (i := 12) (v := ?qvu8) rfl (by kernel_rfl) (by kernel_rfl) (by kernel_rfl) (fun _ _ _ h => h) (Or.inl ⟨by rfl, ?qyu8⟩) (by assumption) ?qru8; case qyu8 => ((intro w hSw; (try dsimp only at hSw); go_simp); try (with_reducible rfl))
        ((try simp only [List.getElem_toArray]); (try simp only [List.getElem_cons_succ]); (try simp only [List.getElem_cons_zero]); (try simp only [Act.put]); (try simp only [List.setIfInBounds_toArray]); (try simp only [List.set_cons_succ]); (try simp only [List.set_cons_zero]))
        refine wpAnyH_take (i := 13) (v := ?qvu9) rfl (by kernel_rfl) (by kernel_rfl) (by kernel_rfl) (fun _ _ _ h => h) (Or.inl ⟨by rfl, ?qyu9⟩) (by assumption) ?qru9; case qyu9 => ((intro w hSw; (try dsimp only at hSw); go_simp); try (with_reducible rfl))
        ((try simp only [List.getElem_toArray]); (try simp only [List.getElem_cons_succ]); (try simp only [List.getElem_cons_zero]); (try simp only [Act.put]); (try simp only [List.setIfInBounds_toArray]); (try simp only [List.set_cons_succ]); (try simp only [List.set_cons_zero]))
        refine wpAnyH_take (i := 14) (v := ?qvu10) rfl (by kernel_rfl) (by kernel_rfl) (by kernel_rfl) (fun _ _ _ h => h) (Or.inl ⟨by rfl, ?qyu10⟩) (by assumption) ?qru10; case qyu10 => ((intro w hSw; (try dsimp only at hSw); go_simp); try (with_reducible rfl))
        ((try simp only [List.getElem_toArray]); (try simp only [List.getElem_cons_succ]); (try simp only [List.getElem_cons_zero]); (try simp only [Act.put]); (try simp only [List.setIfInBounds_toArray]); (try simp only [List.set_cons_succ]); (try simp only [List.set_cons_zero]))
        refine wpAnyH_take (i := 16) (v := ?qvu11) rfl (by kernel_rfl) (by kernel_rfl) (by kernel_rfl) (fun _ _ _ h => h) (Or.inl ⟨by rfl, ?qyu11⟩) (by assumption) ?qru11; case qyu11 => ((intro w hSw; (try dsimp only at hSw); go_simp); try (with_reducible rfl))
        ((try simp only [List.getElem_toArray]); (try simp only [List.getElem_cons_succ]); (try simp only [List.getElem_cons_zero]); (try simp only [Act.put]); (try simp only [List.setIfInBounds_toArray]); (try simp only [List.set_cons_succ]); (try simp only [List.set_cons_zero]))
        refine wpAnyH_take (i := 17) (v := ?qvu12) rfl (by kernel_rfl) (by kernel_rfl) (by kernel_rfl) (fun _ _ _ h => h) (Or.inl ⟨by rfl, ?qyu12⟩) (by assumption) ?qru12; case qyu12 => ((intro w hSw; (try dsimp only at hSw); go_simp); try (with_reducible rfl))
        ((try simp only [List.getElem_toArray]); (try simp only [List.getElem_cons_succ]); (try simp only [List.getElem_cons_zero]); (try simp only [Act.put]); (try simp only [List.setIfInBounds_toArray]); (try simp only [List.set_cons_succ]); (try simp only [List.set_cons_zero]))
        refine wpAnyH_take (i := 18) (v := ?qvu13) rfl (by kernel_rfl) (by kernel_rfl) (by kernel_rfl) (fun _ _ _ h => h) (Or.inl ⟨by rfl, ?qyu13⟩) (by assumption) ?qru13; case qyu13 => ((intro w hSw; (try dsimp only at hSw); go_simp); try (with_reducible rfl))
        ((try simp only [List.getElem_toArray]); (try simp only [List.getElem_cons_succ]); (try simp only [List.getElem_cons_zero]); (try simp only [Act.put]); (try simp only [List.setIfInBounds_toArray]); (try simp only [List.set_cons_succ]); (try simp only [List.set_cons_zero]))
        refine wpAnyH_take (i := 19) (v := ?qvu14) rfl (by kernel_rfl) (by kernel_rfl) (by kernel_rfl) (fun _ _ _ h => h) (Or.inl ⟨by rfl, ?qyu14⟩) (by assumption) ?qru14; case qyu14 => ((intro w hSw; (try dsimp only at hSw); go_simp); try (with_reducible rfl))
        ((try simp only [List.getElem_toArray]); (try simp only [List.getElem_cons_succ]); (try simp only [List.getElem_cons_zero]); (try simp only [Act.put]); (try simp only [List.setIfInBounds_toArray]); (try simp only [List.set_cons_succ]); (try simp only [List.set_cons_zero]))
        refine wpAnyH_ready (rs := [15]) (by kernel_rfl) (by simp) ?_
        refine AllReadyH.cons rfl (fun K hK => ?_) AllReadyH.nil
        go_simp
        refine (pworn_any BD.hp okN).mono ?_
        rintro e z5 ⟨rfl, S8, h6, k6, g6⟩
        have BD := BD.pstep h6 k6 g6
        clear h6 k6 g6
        refine hK.out _ _ BD.hr.c5 (fun hHeld => ?_)
        clear hK K
        ((try simp only [List.getElem_toArray]); (try simp only [List.getElem_cons_succ]); (try simp only [List.getElem_cons_zero]); (try simp only [Act.put]); (try simp only [List.setIfInBounds_toArray]); (try simp only [List.set_cons_succ]); (try simp only [List.set_cons_zero]))
        refine wpAnyH_take (i := 20) (v := ?qvu15) rfl (by kernel_rfl) (by kernel_rfl) (by kernel_rfl) (fun _ _ _ h => h) (Or.inl ⟨by rfl, ?qyu15⟩) (by assumption) ?qru15; case qyu15 => ((intro w hSw; (try dsimp only at hSw); go_simp); try (with_reducible rfl))
        ((try simp only [List.getElem_toArray]); (try simp only [List.getElem_cons_succ]); (try simp only [List.getElem_cons_zero]); (try simp only [Act.put]); (try simp only [List.setIfInBounds_toArray]); (try simp only [List.set_cons_succ]); (try simp only [List.set_cons_zero]))
        refine wpAnyH_take (i := 21) (v := ?qvu16) rfl (by kernel_rfl) (by kernel_rfl) (by kernel_rfl) (fun _ _ _ h => h) (Or.inl ⟨by rfl, ?qyu16⟩) (by assumption) ?qru16; case qyu16 => ((intro w hSw; (try dsimp only at hSw); go_simp); try (with_reducible rfl))
        ((try simp only [List.getElem_toArray]); (try simp only [List.getElem_cons_succ]); (try simp only [List.getElem_cons_zero]); (try simp only [Act.put]); (try simp only [List.setIfInBounds_toArray]); (try simp only [List.set_cons_succ]); (try simp only [List.set_cons_zero]))
        refine wpAnyH_take (i := 22) (v := ?qvu17) rfl (by kernel_rfl) (by kernel_rfl) (by kernel_rfl) (fun _ _ _ h => h) (Or.inl ⟨by rfl, ?qyu17⟩) (by assumption) ?qru17; case qyu17 => ((intro w hSw; (try dsimp only at hSw); go_simp); try (with_reducible rfl))
        ((try simp only [List.getElem_toArray]); (try simp only [List.getElem_cons_succ]); (try simp only [List.getElem_cons_zero]); (try simp only [Act.put]); (try simp only [List.setIfInBounds_toArray]); (try simp only [List.set_cons_succ]); (try simp only [List.set_cons_zero]))
        refine wpAnyH_take (i := 23) (v := ?qvu18) rfl (by kernel_rfl) (by kernel_rfl) (by kernel_rfl) (fun _ _ _ h => h) (Or.inl ⟨by rfl, ?qyu18⟩) (by assumption) ?qru18; case qyu18 => ((intro w hSw; (try dsimp only at hSw); go_simp); try (with_reducible rfl))
        ((try simp only [List.getElem_toArray]); (try simp only [List.getElem_cons_succ]); (try simp only [List.getElem_cons_zero]); (try simp only [Act.put]); (try simp only [List.setIfInBounds_toArray]); (try simp only [List.set_cons_succ]); (try simp only [List.set_cons_zero]))
        refine wpAnyH_take (i := 25) (v := ?qvu19) rfl (by kernel_rfl) (by kernel_rfl) (by kernel_rfl) (fun _ _ _ h => h) (Or.inl ⟨by rfl, ?qyu19⟩) (by assumption) ?qru19; case qyu19 => ((intro w hSw; (try dsimp only at hSw); go_simp); try (with_reducible rfl))
        ((try simp only [List.getElem_toArray]); (try simp only [List.getElem_cons_succ]); (try simp only [List.getElem_cons_zero]); (try simp only [Act.put]); (try simp only [List.setIfInBounds_toArray]); (try simp only [List.set_cons_succ]); (try simp only [List.set_cons_zero]))
        refine wpAnyH_ready (rs := [24]) (by kernel_rfl) (by simp) ?_
        refine AllReadyH.cons rfl (fun K hK => ?_) AllReadyH.nil
        go_simp
        refine (pall_any BD.hp okN).mono ?_
        rintro e z6 ⟨vb, S9, rfl, ob, h6, k6, g6, nb⟩
        have BD := BD.pstep h6 k6 g6
        clear h6 k6 g6
        refine hK.out _ _ BD.hr.c5 (fun hHeld => ?_)
        clear hK K
        ((try simp only [List.getElem_toArray]); (try simp only [List.getElem_cons_succ]); (try simp only [List.getElem_cons_zero]); (try simp only [Act.put]); (try simp only [List.setIfInBounds_toArray]); (try simp only [List.set_cons_succ]); (try simp only [List.set_cons_zero]))
        refine wpAnyH_ready (rs := [26]) (by kernel_rfl) (by simp) ?_
        refine AllReadyH.cons rfl (fun K hK => ?_) AllReadyH.nil
        go_simp
        refine (rall_any BD.hr okN).mono ?_
        rintro e z7 ⟨vc, rfl, oc, bc⟩
        have ob := OwnU.keep ob (Keep.of_below bc (fun _ => False)) (by simp)
        have BD := BD.quiet (Keep.of_below bc (fun _ => False))
        clear bc
        refine hK.out _ _ BD.hr.c5 (fun hHeld => ?_)
        clear hK K
        ((try simp only [List.getElem_toArray]); (try simp only [List.getElem_cons_succ]); (try simp only [List.getElem_cons_zero]); (try simp only [Act.put]); (try simp only [List.setIfInBounds_toArray]); (try simp only [List.set_cons_succ]); (try simp only [List.set_cons_zero]))
        refine wpAnyH_ready (rs := [27]) (by kernel_rfl) (by simp) ?_
        refine AllReadyH.cons rfl (fun K hK => ?_) AllReadyH.nil
        go_simp
        refine (same_own ob oc (by omega)).mono ?_
        rintro e z8 ⟨rfl, d2, rfl⟩
        have BD := BD.quiet (drewN_keep _ _ d2)
        refine hK.out _ _ BD.hr.c5 (fun hHeld => ?_)
        clear hK K
        ((try simp only [List.getElem_toArray]); (try simp only [List.getElem_cons_succ]); (try simp only [List.getElem_cons_zero]); (try simp only [Act.put]); (try simp only [List.setIfInBounds_toArray]); (try simp only [List.set_cons_succ]); (try simp only [List.set_cons_zero]))
        refine wpAnyH_take (i := 28) (v := ?qvu20) rfl (by kernel_rfl) (by kernel_rfl) (by kernel_rfl) (fun _ _ _ h => h) (Or.inl ⟨by rfl, ?qyu20⟩) (by assumption) ?qru20; case qyu20 => ((intro w hSw; (try dsimp only at hSw); go_simp); try (with_reducible rfl))
        ((try simp only [List.getElem_toArray]); (try simp only [List.getElem_cons_succ]); (try simp only [List.getElem_cons_zero]); (try simp only [Act.put]); (try simp only [List.setIfInBounds_toArray]); (try simp only [List.set_cons_succ]); (try simp only [List.set_cons_zero]))
        refine wpAnyH_take (i := 29) (v := ?qvu21) rfl (by kernel_rfl) (by kernel_rfl) (by kernel_rfl) (fun _ _ _ h => h) (Or.inl ⟨by rfl, ?qyu21⟩) (by assumption) ?qru21; case qyu21 => ((intro w hSw; (try dsimp only at hSw); go_simp); try (with_reducible rfl))
        ((try simp only [List.getElem_toArray]); (try simp only [List.getElem_cons_succ]); (try simp only [List.getElem_cons_zero]); (try simp only [Act.put]); (try simp only [List.setIfInBounds_toArray]); (try simp only [List.set_cons_succ]); (try simp only [List.set_cons_zero]))
        refine wpAnyH_done (by kernel_rfl) ?_ _
        go_wp2
        go_roundg (len2 - (k + 1))
        (case measure => omega); (case rel => exact ⟨k + 1, by omega, S9, sN, _, zsN, by omega, by omega, by go_num, zlN, zbn, okN, BD⟩)
      · rcases (by omega : (k = 100 ∧ k < len2) ∨ k = len2) with ⟨rfl, hl⟩ | rfl
        all_goals
          go_wp2_with fail
          refine (awake3_any _).mono ?_
          rintro e z5 ⟨rfl, b5⟩
          go_wp2
          go_ret
          exact ⟨rfl, B.bl.trans (b5.mono B.bl.size)⟩
theorem own : ownKnob Try.prog.godebug = none := by kernel_rfl
theorem laidOut : laidOutB Try.prog = true := by kernel_rfl
set_option maxRecDepth 100000 in
theorem lifted (os : Os) (started : os.Started) (H : Type) (enc : TypeId × Value → H) :
    ReturnsInHanded {} Try.checked os 5 .any (Rows.poolPlaysSpec.pre6 enc Try.prog Try.f5 Rows.poolPlaysRow.domain false) (Rows.poolPlaysSpec.post enc Try.prog Try.f5 false true false false) := by
  refine returnsInHanded_of_change (C := Try.checked) own started (by kernel_rfl) Try.func5
    (ChangeSpec.witness6 (enc := enc) (C := Try.checked) false ⟨#[], #[.int .i64 0, .int .i64 0, .slice none 0 0], []⟩ 8 (by kernel_rfl) (by kernel_rfl) (by kernel_rfl) (by kernel_rfl)) ?_
  intro W base args ds gs before hval0 hW hcnd _
  have hval : ∀ (j : Nat) t v, Try.f5.params[j]? = some t → args[j]? = some v → Value.okWide Try.prog W .any base t v := hval0
  have hW' := hW
  obtain ⟨p, q, hA0, hV, rfl, hfz, hnd⟩ := hW
  have hA : DataW.TrodAll enc Try.prog W 0 (fun _ => true) true Try.f5.params.toList args.toList ds p := hA0
  rw [Try.params5] at hA hval
  obtain ⟨v0, vs0, d0, ds0, p0, q0, hargs, rfl, rfl, h0, r0⟩ := trodAll_cons hA
  obtain ⟨v1, vs1, d1, ds1, p1, q1, rfl, rfl, rfl, h1, r1⟩ := trodAll_cons r0
  obtain ⟨v2, vs2, d2, ds2, p2, q2, rfl, rfl, rfl, h2, r2⟩ := trodAll_cons r1
  obtain ⟨rfl, rfl, rfl⟩ := trodAll_nil r2
  obtain rfl : args = #[v0, v1, v2] := by cases args; simp_all
  obtain ⟨rfl, rfl⟩ := trodVars_none hV
  obtain ⟨a0, rfl, rfl, rfl, w0⟩ := open_int Try.underlying3 (hval 0 3 v0 rfl rfl) h0
  obtain ⟨a1, rfl, rfl, rfl, w1⟩ := open_int Try.underlying3 (hval 1 3 v1 rfl rfl) h1
  obtain ⟨a2, len2, cap2, rfl⟩ := okWide_slice Try.underlying38 (hval 2 38 v2 rfl rfl)
  have k2 := h2
  have lt2 : ∀ x ∈ p2, x.block < W.heap.size := by obtain ⟨m, hm⟩ := k2; exact DataW.trod_lt m _ _ _ hm
  obtain ⟨z2, w2⟩ : ∃ f, IsOps W a2 len2 cap2 f := is_ops h2
  clear hA0 hval0
  refine (walk a0 a1 a2 len2 cap2 z2 W w0 w1 w2).mono fun e W' ⟨he, bel⟩ => ?_
  subst he
  exact ⟨_, rfl, _, _, _, [], _, [], hW', trodAll_mk1 (shut_bool Try.underlying4 _), (trodAll_cons_mk (shut_int Try.underlying3 w0) (trodAll_cons_mk (shut_int Try.underlying3 w1) (trodAll_cons_mk (Below.trod laidOut (by kernel_rfl) (of_decide_eq_true (by kernel_rfl)) k2 bel lt2) trodAll_mk0))), rfl, bel.frame _, fun h => by cases h⟩
theorem over : Rows.poolPlaysRow.holds Try.pinned (OpenSpec.ofChange Rows.poolPlaysSpec) :=
  OpenClaim.holds_of_wide 5 Try.f5 rfl rfl rfl rfl rfl rfl rfl ⟨rfl, rfl, rfl, rfl, rfl⟩ rfl rfl rfl rfl rfl (by kernel_rfl) Try.func5 (by kernel_rfl)
    (of_decide_eq_true (by kernel_rfl)) (by unfold Func.isWrapper; first | (rw [if_pos (by decide +kernel)]; kernel_rfl) | (rw [if_neg (by decide +kernel)]; exact ⟨rfl, rfl⟩))
    (fun os started H enc _ => lifted os started H enc)
theorem proved : Rows.PoolPlaysSaid := over
#print axioms proved
end Go.Proofs.Ytecnlneilgiheaa.poolPlays
