/- Proved here: vinculumlaw2.ArenaPlays returns true and leaves its arguments as they were, for every int and every script; no further condition. -/
import Derived.Test.YtcfalcjefdgahaaOps
import Derived.BigRegion
import Derived.ChangeOld
import Derived.Deep.CutRange
namespace Go.Proofs.Ytcfalcjefdgahaa.arenaPlays
open Go.ChangeShapes Go.WideShapes Go.ChangeAt Go.RowKit
set_option linter.unusedVariables false

def Rel (len n : Nat) (p q bw : Nat) (B : Nat) (w : World) (k : Nat) (ct i : Value) (wr : World) : Prop :=
  ∃ (c : Nat) (zs : List Int), k ≤ len ∧ k ≤ 80 ∧ i = .int .i64 k ∧ ct = .int .i64 c ∧ c ≤ k ∧ zs.length = n ∧ Ar wr p q zs c ∧ RowU wr bw zs ∧ Below B w wr
theorem getD_set (zs : List Int) (j : Nat) (t : Int) (h : j < zs.length) : (zs.set j t).getD j 0 = t := by simp [List.getD_eq_getElem?_getD, h]
set_option maxRecDepth 100000 in
set_option maxHeartbeats 8000000 in
theorem walk (a0 : Int) (a1 : Option Addr) (len1 cap1 : Nat) (f : Nat → OpI) (w : World) (w0 : (Lit.int .i64 a0).wf = true) (w1 : IsOps w a1 len1 cap1 f) :
    Calls Try.prog 6 #[.int .i64 a0, .slice a1 len1 cap1] w fun e w' => e = .returned (.bool true) ∧ Below w.heap.size w w' := by
  obtain ⟨q0, q1⟩ := bounds_i64 w0
  obtain ⟨l2, l3, lc, ok⟩ := id w1
  by_cases hno : a0 < 1 ∨ 100000 < a0
  · rcases hno with hno | hno
    all_goals
      go_enter Try.func6, Try.ntmps6
      go_wp2_with fail
      refine (new_no a0 _ (by omega)).mono ?_
      rintro e x1 ⟨rfl, rfl⟩
      go_wp2_with fail
      refine (awake2_any _).mono ?_
      rintro e x2 ⟨rfl, b1⟩
      go_wp2
      go_ret
      exact ⟨rfl, b1⟩
  · have m0 : 1 ≤ a0 := by omega
    have m1 : a0 ≤ 100000 := by omega
    clear hno
    obtain ⟨n, hn⟩ : ∃ n : Nat, (if 40 < a0 then a0 % 40 + 1 else a0) = n := ⟨(if 40 < a0 then a0 % 40 + 1 else a0).toNat, by split <;> omega⟩
    have n1 : 1 ≤ n := by split at hn <;> omega
    have n2 : n ≤ 40 := by split at hn <;> omega
    have HN := Lib.hid hn
    clear hn
    obtain ⟨i0, hi, hz0, hz1, hz2⟩ := info_parts info_u64
    · go_enter Try.func6, Try.ntmps6
      go_upto_region 1 with fail
      go_cut [20] from 15 to 23 (fun s wx => s = .bool (decide (40 < a0)) ∧ w = wx)
      case first =>
        by_cases h40 : 40 < a0
        · go_wp2_with fail
          go_meet
          case rel => exact ⟨by simp [h40], rfl⟩
        · go_wp2_with fail
          go_meet
          case rel => exact ⟨by simp [h40], rfl⟩
      case rest =>
      obtain ⟨rfl, rfl⟩ := hcut
      go_upto_if 20 with fail
      go_cut [0] from 15 to 23 (fun s wx => s = .int .i64 n ∧ w = wx)
      case first =>
        by_cases h40 : 40 < a0
        · have hn : a0 % 40 + 1 = n := by have := HN.out; rwa [if_pos h40] at this
          go_wp2_with fail
          go_meet
          case rel => exact ⟨rfl, rfl⟩
        · have hn : a0 = n := by have := HN.out; rwa [if_neg h40] at this
          go_wp2_with fail
          go_meet
          case rel => exact ⟨rfl, rfl⟩
      case rest =>
      obtain ⟨rfl, rfl⟩ := hcut
      clear m0 m1 HN q0 q1 w0
      go_wp2_with fail
      refine (new_ok n _ n1 (by omega)).mono ?_
      rintro e x1 ⟨p, q, rfl, h1, hp, hq, b1⟩
      go_wp2_with fail
      refine (len_n n h1 (by simp)).mono ?_
      rintro e x2 ⟨rfl, rfl⟩
      go_wp2_with (with_reducible refine wpList_make_full _ rfl (.tmp 56) (.tmp 56) 23 rfl x1.heap.size 22 i0 _ 1 Try.underlying23 hi hz0 hz1 .i64 .i64 (n : Int) (n : Int) n rfl rfl rfl rfl (by rw [hz2]; omega) (by unfold maxLen; omega) (Nat.le_refl _) ?_)
      intro x3 g3 m3
      have r3 := rowU_made g3
      have k3 := keep_grown m3 (fun _ => False)
      have h3 := h1.keep k3 (by simp) (by simp)
      have b3 := b1.trans (k3.below (B := w.heap.size) b1.size (by simp))
      have e3 := b1.size
      have p3 := h1.lt
      have q3 := h1.ws.lt
      clear g3 h1 b1 hi hz0 hz1 hz2 k3 m3 i0
      go_wp2
      go_loopw [8, 9] (fun ct i wr => ∃ k : Nat, Rel len1 n p q x1.heap.size w.heap.size w k ct i wr) (fun _ i _ => len1 - (intOf i).toNat)
      case atStart => exact ⟨0, 0, List.replicate n 0, Nat.zero_le _, by omega, rfl, rfl, Nat.le_refl _, by simp, h3, r3, b3⟩
      case round =>
        obtain ⟨k, c, zs, kl, k8, rfl, rfl, ck, zl, ar, rr, br⟩ := hrel
        clear h3 r3 b3
        have rl := rr.lt
        subst zl
        by_cases hlt : k < len1 ∧ k < 80
        · obtain ⟨hl, h80⟩ := hlt
          obtain ⟨b, off, rfl, hb, hc⟩ := lc (by omega)
          obtain ⟨d0, d1, d2, d3⟩ := hc k hl
          obtain ⟨s0, s1, t0, t1, u0, u1, v0, v1⟩ := ok k hl
          obtain ⟨o, eo⟩ : ∃ o, f k = o := ⟨_, rfl⟩
          rw [eo] at d0 d1 d2 d3 s0 s1 t0 t1 u0 u1 v0 v1
          obtain ⟨kd, I, od, nw⟩ := o
          dsimp only at d0 d1 d2 d3 s0 s1 t0 t1 u0 u1 v0 v1
          have d0 := (br.cell (p := ⟨b, off + k * 4, none⟩) hb).trans d0
          have d1 := (br.cell (p := ⟨b, off + k * 4 + 1, none⟩) hb).trans d1
          have d2 := (br.cell (p := ⟨b, off + k * 4 + 2, none⟩) hb).trans d2
          have d3 := (br.cell (p := ⟨b, off + k * 4 + 3, none⟩) hb).trans d3
          clear eo hc lc ok
          by_cases hin : 0 ≤ I ∧ I < zs.length
          · obtain ⟨j, rfl⟩ : ∃ j : Nat, I = j := ⟨I.toNat, by omega⟩
            have hj : j < zs.length := by omega
            have cj := rr.cell j hj
            obtain ⟨y, ey⟩ : ∃ y, zs.getD j 0 = y := ⟨_, rfl⟩
            rw [ey] at cj
            have EY := Lib.hid ey
            clear ey hin
            rcases (by omega : kd = 0 ∨ kd = 1 ∨ kd = 2 ∨ kd = 3 ∨ kd < 0 ∨ 4 ≤ kd) with rfl | rfl | rfl | rfl | hk | hk
            · as_aux_lemma =>
              have k9 := Keep.alloc (Keep.refl (fun _ => False) wr) (.cells #[.int .i64 0, .int .i64 j, .int .u64 od, .int .u64 nw] 42); have a9 := ar.keep k9 (by simp) (by simp); have r9 := rr.keep k9 (by simp); have b9 := br.trans (k9.below br.size (by simp)); have f1e : (wr.alloc (.cells #[.int .i64 0, .int .i64 j, .int .u64 od, .int .u64 nw] 42)).cell? ⟨wr.heap.size, 1, none⟩ = some (.int .i64 j) := (by simp); have f2e : (wr.alloc (.cells #[.int .i64 0, .int .i64 j, .int .u64 od, .int .u64 nw] 42)).cell? ⟨wr.heap.size, 2, none⟩ = some (.int .u64 od) := (by simp); have f3e : (wr.alloc (.cells #[.int .i64 0, .int .i64 j, .int .u64 od, .int .u64 nw] 42)).cell? ⟨wr.heap.size, 3, none⟩ = some (.int .u64 nw) := (by simp); have pl := ar.lt; have ql := ar.ws.lt
              go_wp2_with fail
              refine (load_to j y (c + 1 : Nat) a9 hj (by omega) (by omega) EY.out (by omega)).mono ?_
              rintro e y1 ⟨rfl, a5, k1⟩
              have r5 := r9.keep k1 (by unfold Two; omega)
              have b5 := b9.trans (k1.below b9.size (two_ge hp hq))
              go_wp2_with fail; refine (count_any p q _ _ _ a5).mono ?_; rintro e z2 ⟨rfl, rfl⟩; go_wp2_with fail; refine (words_n zs.length a5 (by simp)).mono ?_; rintro e z3 ⟨bv, rfl, rv, hv, bbv⟩; have a6 := a5.keep (Keep.of_below bbv (fun _ => False)) (by simp) (by simp); have r6 := r5.keep (Keep.of_below bbv (fun _ => False)) (by simp); have b6 := b5.trans (bbv.mono b5.size); go_wp2_with fail; refine (same_n zs.length rv r6 (by simp) (by omega)).mono ?_; rintro e z4 ⟨rfl, d, rfl⟩; go_wp2; go_roundw; (case rel => exact ⟨k + 1, c + 1, zs, by omega, by omega, by go_num, by go_num, by omega, by simp, a6.keep (drewN_keep (fun _ => False) _ d) (by simp) (by simp), r6.keep (drewN_keep (fun _ => False) _ d) (by simp), below_drewN b6 d⟩); (case measure => simp [intOf]; omega)
            · as_aux_lemma =>
              have k9 := Keep.alloc (Keep.refl (fun _ => False) wr) (.cells #[.int .i64 1, .int .i64 j, .int .u64 od, .int .u64 nw] 42); have a9 := ar.keep k9 (by simp) (by simp); have r9 := rr.keep k9 (by simp); have b9 := br.trans (k9.below br.size (by simp)); have f1e : (wr.alloc (.cells #[.int .i64 1, .int .i64 j, .int .u64 od, .int .u64 nw] 42)).cell? ⟨wr.heap.size, 1, none⟩ = some (.int .i64 j) := (by simp); have f2e : (wr.alloc (.cells #[.int .i64 1, .int .i64 j, .int .u64 od, .int .u64 nw] 42)).cell? ⟨wr.heap.size, 2, none⟩ = some (.int .u64 od) := (by simp); have f3e : (wr.alloc (.cells #[.int .i64 1, .int .i64 j, .int .u64 od, .int .u64 nw] 42)).cell? ⟨wr.heap.size, 3, none⟩ = some (.int .u64 nw) := (by simp); have pl := ar.lt; have ql := ar.ws.lt
              go_wp2_with fail
              refine (store_to j nw (zs.set j nw) (c + 1 : Nat) a9 hj (by omega) (by omega) v0 v1 rfl (by omega)).mono ?_
              rintro e y1 ⟨rfl, a1, k1⟩
              have r1 := r9.keep k1 (by unfold Two; omega)
              have b1 := b9.trans (k1.below b9.size (two_ge hp hq))
              have g1 := k1.cell f1e (by unfold Two; simp; omega); have g2 := k1.cell f2e (by unfold Two; simp; omega); have g3 := k1.cell f3e (by unfold Two; simp; omega); have cj := r1.cell j hj; have fj := r1.free j; rw [EY.out] at cj; have k2 := Keep.setCell (S := fun z => z = x1.heap.size) (Keep.refl _ y1) (p := ⟨x1.heap.size, j, none⟩) rfl (.int .u64 nw); have a5 := a1.keep k2 (by omega) (by omega); have r5 := r1.set j hj nw; have b5 := b1.setCell (p := ⟨x1.heap.size, j, none⟩) (by simp; omega) (.int .u64 nw)
              go_wp2_with fail; refine (count_any p q _ _ _ a5).mono ?_; rintro e z2 ⟨rfl, rfl⟩; go_wp2_with fail; refine (words_n zs.length a5 (by simp)).mono ?_; rintro e z3 ⟨bv, rfl, rv, hv, bbv⟩; have a6 := a5.keep (Keep.of_below bbv (fun _ => False)) (by simp) (by simp); have r6 := r5.keep (Keep.of_below bbv (fun _ => False)) (by simp); have b6 := b5.trans (bbv.mono b5.size); go_wp2_with fail; refine (same_n zs.length rv r6 (by simp) (by omega)).mono ?_; rintro e z4 ⟨rfl, d, rfl⟩; go_wp2; go_roundw; (case rel => exact ⟨k + 1, c + 1, (zs.set j nw), by omega, by omega, by go_num, by go_num, by omega, by simp, a6.keep (drewN_keep (fun _ => False) _ d) (by simp) (by simp), r6.keep (drewN_keep (fun _ => False) _ d) (by simp), below_drewN b6 d⟩); (case measure => simp [intOf]; omega)
            · by_cases hyo : y = od
              · as_aux_lemma =>
                subst hyo
                have k9 := Keep.alloc (Keep.refl (fun _ => False) wr) (.cells #[.int .i64 2, .int .i64 j, .int .u64 y, .int .u64 nw] 42); have a9 := ar.keep k9 (by simp) (by simp); have r9 := rr.keep k9 (by simp); have b9 := br.trans (k9.below br.size (by simp)); have f1e : (wr.alloc (.cells #[.int .i64 2, .int .i64 j, .int .u64 y, .int .u64 nw] 42)).cell? ⟨wr.heap.size, 1, none⟩ = some (.int .i64 j) := (by simp); have f2e : (wr.alloc (.cells #[.int .i64 2, .int .i64 j, .int .u64 y, .int .u64 nw] 42)).cell? ⟨wr.heap.size, 2, none⟩ = some (.int .u64 y) := (by simp); have f3e : (wr.alloc (.cells #[.int .i64 2, .int .i64 j, .int .u64 y, .int .u64 nw] 42)).cell? ⟨wr.heap.size, 3, none⟩ = some (.int .u64 nw) := (by simp); have pl := ar.lt; have ql := ar.ws.lt
                go_wp2_with fail
                refine (cas_to j y nw (zs.set j nw) (c + 1 : Nat) a9 hj (by omega) (by omega) v0 v1 EY.out rfl (by omega)).mono ?_
                rintro e y1 ⟨rfl, a1, k1⟩
                have r1 := r9.keep k1 (by unfold Two; omega)
                have b1 := b9.trans (k1.below b9.size (two_ge hp hq))
                have g1 := k1.cell f1e (by unfold Two; simp; omega); have g2 := k1.cell f2e (by unfold Two; simp; omega); have g3 := k1.cell f3e (by unfold Two; simp; omega); have cj := r1.cell j hj; have fj := r1.free j; rw [EY.out] at cj; have k2 := Keep.setCell (S := fun z => z = x1.heap.size) (Keep.refl _ y1) (p := ⟨x1.heap.size, j, none⟩) rfl (.int .u64 nw); have a5 := a1.keep k2 (by omega) (by omega); have r5 := r1.set j hj nw; have b5 := b1.setCell (p := ⟨x1.heap.size, j, none⟩) (by simp; omega) (.int .u64 nw)
                go_wp2_with fail; refine (count_any p q _ _ _ a5).mono ?_; rintro e z2 ⟨rfl, rfl⟩; go_wp2_with fail; refine (words_n zs.length a5 (by simp)).mono ?_; rintro e z3 ⟨bv, rfl, rv, hv, bbv⟩; have a6 := a5.keep (Keep.of_below bbv (fun _ => False)) (by simp) (by simp); have r6 := r5.keep (Keep.of_below bbv (fun _ => False)) (by simp); have b6 := b5.trans (bbv.mono b5.size); go_wp2_with fail; refine (same_n zs.length rv r6 (by simp) (by omega)).mono ?_; rintro e z4 ⟨rfl, d, rfl⟩; go_wp2; go_roundw; (case rel => exact ⟨k + 1, c + 1, (zs.set j nw), by omega, by omega, by go_num, by go_num, by omega, by simp, a6.keep (drewN_keep (fun _ => False) _ d) (by simp) (by simp), r6.keep (drewN_keep (fun _ => False) _ d) (by simp), below_drewN b6 d⟩); (case measure => simp [intOf]; omega)
              · as_aux_lemma =>
                have hyo' : (y == od) = false := by simpa using hyo
                have k9 := Keep.alloc (Keep.refl (fun _ => False) wr) (.cells #[.int .i64 2, .int .i64 j, .int .u64 od, .int .u64 nw] 42); have a9 := ar.keep k9 (by simp) (by simp); have r9 := rr.keep k9 (by simp); have b9 := br.trans (k9.below br.size (by simp)); have f1e : (wr.alloc (.cells #[.int .i64 2, .int .i64 j, .int .u64 od, .int .u64 nw] 42)).cell? ⟨wr.heap.size, 1, none⟩ = some (.int .i64 j) := (by simp); have f2e : (wr.alloc (.cells #[.int .i64 2, .int .i64 j, .int .u64 od, .int .u64 nw] 42)).cell? ⟨wr.heap.size, 2, none⟩ = some (.int .u64 od) := (by simp); have f3e : (wr.alloc (.cells #[.int .i64 2, .int .i64 j, .int .u64 od, .int .u64 nw] 42)).cell? ⟨wr.heap.size, 3, none⟩ = some (.int .u64 nw) := (by simp); have pl := ar.lt; have ql := ar.ws.lt
                go_wp2_with fail
                refine (cas_not j od nw (c + 1 : Nat) a9 hj (by omega) (by omega) (by rw [EY.out]; exact hyo) (by omega)).mono ?_
                rintro e y1 ⟨rfl, a5, k1⟩
                have r5 := r9.keep k1 (by unfold Two; omega)
                have b5 := b9.trans (k1.below b9.size (two_ge hp hq))
                have g2 := k1.cell f2e (by unfold Two; simp; omega)
                go_wp2_with fail; refine (count_any p q _ _ _ a5).mono ?_; rintro e z2 ⟨rfl, rfl⟩; go_wp2_with fail; refine (words_n zs.length a5 (by simp)).mono ?_; rintro e z3 ⟨bv, rfl, rv, hv, bbv⟩; have a6 := a5.keep (Keep.of_below bbv (fun _ => False)) (by simp) (by simp); have r6 := r5.keep (Keep.of_below bbv (fun _ => False)) (by simp); have b6 := b5.trans (bbv.mono b5.size); go_wp2_with fail; refine (same_n zs.length rv r6 (by simp) (by omega)).mono ?_; rintro e z4 ⟨rfl, d, rfl⟩; go_wp2; go_roundw; (case rel => exact ⟨k + 1, c + 1, zs, by omega, by omega, by go_num, by go_num, by omega, by simp, a6.keep (drewN_keep (fun _ => False) _ d) (by simp) (by simp), r6.keep (drewN_keep (fun _ => False) _ d) (by simp), below_drewN b6 d⟩); (case measure => simp [intOf]; omega)
            · as_aux_lemma =>
              have k9 := Keep.alloc (Keep.refl (fun _ => False) wr) (.cells #[.int .i64 3, .int .i64 j, .int .u64 od, .int .u64 nw] 42); have a9 := ar.keep k9 (by simp) (by simp); have r9 := rr.keep k9 (by simp); have b9 := br.trans (k9.below br.size (by simp)); have f1e : (wr.alloc (.cells #[.int .i64 3, .int .i64 j, .int .u64 od, .int .u64 nw] 42)).cell? ⟨wr.heap.size, 1, none⟩ = some (.int .i64 j) := (by simp); have f2e : (wr.alloc (.cells #[.int .i64 3, .int .i64 j, .int .u64 od, .int .u64 nw] 42)).cell? ⟨wr.heap.size, 2, none⟩ = some (.int .u64 od) := (by simp); have f3e : (wr.alloc (.cells #[.int .i64 3, .int .i64 j, .int .u64 od, .int .u64 nw] 42)).cell? ⟨wr.heap.size, 3, none⟩ = some (.int .u64 nw) := (by simp); have pl := ar.lt; have ql := ar.ws.lt
              obtain ⟨t, et⟩ : ∃ t, addU y nw = t := ⟨_, rfl⟩
              have wt : IntKind.u64.wrap (y + nw) = t := (wrapU y nw).trans et
              have ET := Lib.hid et
              clear et
              have ct := r9.cell j hj
              rw [EY.out] at ct
              have ft := r9.free j
              have jl : (j : Int) < zs.length := by omega
              go_wp2_with fail
              go_region
              have kS := ((Keep.setCell (S := fun z => z = x1.heap.size) (Keep.refl _ wr) (p := ⟨x1.heap.size, j, none⟩) rfl (.int .u64 t)).alloc (.cells #[.int .i64 3, .int .i64 j, .int .u64 od, .int .u64 nw] 42)).drew
              have a7 := ar.keep kS (by omega) (by omega)
              have r7 := ((rr.set j hj t).keep (Keep.alloc (Keep.refl (fun _ => False) _) (.cells #[.int .i64 3, .int .i64 j, .int .u64 od, .int .u64 nw] 42)) (by simp)).keep (Keep.refl (fun _ => False) _).drew (by simp)
              have b7 := br.trans (kS.below (B := w.heap.size) br.size (by omega))
              have c7 := r7.cell j (by simpa using hj)
              rw [getD_set zs j t hj] at c7
              clear a9 r9 b9 f1e f2e f3e kS ct ft wt k9
              go_wp2_with fail
              refine (add_to j nw t (zs.set j t) (c + 1 : Nat) a7 hj (by omega) (by omega) (by rw [EY.out]; exact ET.out) rfl (by omega)).mono ?_
              rintro e y1 ⟨rfl, a5, k1⟩
              have r5 := r7.keep k1 (by unfold Two; omega)
              have b5 := b7.trans (k1.below b7.size (two_ge hp hq))
              go_wp2_with fail; refine (count_any p q _ _ _ a5).mono ?_; rintro e z2 ⟨rfl, rfl⟩; go_wp2_with fail; refine (words_n zs.length a5 (by simp)).mono ?_; rintro e z3 ⟨bv, rfl, rv, hv, bbv⟩; have a6 := a5.keep (Keep.of_below bbv (fun _ => False)) (by simp) (by simp); have r6 := r5.keep (Keep.of_below bbv (fun _ => False)) (by simp); have b6 := b5.trans (bbv.mono b5.size); go_wp2_with fail; refine (same_n zs.length rv r6 (by simp) (by omega)).mono ?_; rintro e z4 ⟨rfl, d, rfl⟩; go_wp2; go_roundw; (case rel => exact ⟨k + 1, c + 1, (zs.set j t), by omega, by omega, by go_num, by go_num, by omega, by simp, a6.keep (drewN_keep (fun _ => False) _ d) (by simp) (by simp), r6.keep (drewN_keep (fun _ => False) _ d) (by simp), below_drewN b6 d⟩); (case measure => simp [intOf]; omega)
            · as_aux_lemma =>
              have k9 := Keep.alloc (Keep.refl (fun _ => False) wr) (.cells #[.int .i64 kd, .int .i64 j, .int .u64 od, .int .u64 nw] 42); have a9 := ar.keep k9 (by simp) (by simp); have r9 := rr.keep k9 (by simp); have b9 := br.trans (k9.below br.size (by simp)); have f1e : (wr.alloc (.cells #[.int .i64 kd, .int .i64 j, .int .u64 od, .int .u64 nw] 42)).cell? ⟨wr.heap.size, 1, none⟩ = some (.int .i64 j) := (by simp); have f2e : (wr.alloc (.cells #[.int .i64 kd, .int .i64 j, .int .u64 od, .int .u64 nw] 42)).cell? ⟨wr.heap.size, 2, none⟩ = some (.int .u64 od) := (by simp); have f3e : (wr.alloc (.cells #[.int .i64 kd, .int .i64 j, .int .u64 od, .int .u64 nw] 42)).cell? ⟨wr.heap.size, 3, none⟩ = some (.int .u64 nw) := (by simp); have pl := ar.lt; have ql := ar.ws.lt
              have hk0 : (kd == 0) = false := by rw [beq_eq_false_iff_ne]; omega
              have hk1 : (kd == 1) = false := by rw [beq_eq_false_iff_ne]; omega
              have hk2 : (kd == 2) = false := by rw [beq_eq_false_iff_ne]; omega
              have hk3 : (kd == 3) = false := by rw [beq_eq_false_iff_ne]; omega
              go_wp2_with fail; refine (copy_any p q _ _ _ a9).mono ?_; rintro e y1 ⟨p2, q2, rfl, h2, hp2, hq2, bc⟩; have a1 := a9.keep (Keep.of_below bc (fun _ => False)) (by simp) (by simp); have r1 := r9.keep (Keep.of_below bc (fun _ => False)) (by simp); have b1 := b9.trans (bc.mono b9.size); have s9 := b9.size; have pl := a9.lt; have ql := a9.ws.lt; have rl := r9.lt; clear bc; go_wp2_with fail; refine (count_any p2 q2 _ _ _ h2).mono ?_; rintro e y2 ⟨rfl, rfl⟩; go_wp2_with fail; refine (words_n zs.length h2 rfl).mono ?_; rintro e y3 ⟨bv, rfl, rv, hv, bbv⟩; have a2 := a1.keep (Keep.of_below bbv (fun _ => False)) (by simp) (by simp); have h3 := h2.keep (Keep.of_below bbv (fun _ => False)) (by simp) (by simp); have r2 := r1.keep (Keep.of_below bbv (fun _ => False)) (by simp); have b2 := b1.trans (bbv.mono b1.size); clear bbv; go_wp2_with fail; refine (same_n zs.length rv r2 rfl (by omega)).mono ?_; rintro e y4 ⟨rfl, d, rfl⟩; have a3 := a2.keep (drewN_keep (fun _ => False) _ d) (by simp) (by simp); have h4 := h3.keep (drewN_keep (fun _ => False) _ d) (by simp) (by simp); have r3 := r2.keep (drewN_keep (fun _ => False) _ d) (by simp); have b3 := below_drewN b2 d; go_wp2_with fail; refine (store_to 0 77 _ _ h4 (by omega) (by omega) (by omega) (by omega) (by omega) rfl rfl).mono ?_; rintro e y5 ⟨rfl, h5, k5⟩; go_wp2_with fail; refine (add_to 0 1 _ _ _ h5 (by simp; omega) (by omega) (by omega) rfl rfl rfl).mono ?_; rintro e y6 ⟨rfl, h6, k6⟩; have kk := k5.trans k6; have a5 := a3.keep kk (by unfold Two; omega) (by unfold Two; omega); have r5 := r3.keep kk (by unfold Two; omega); have b5 := b3.trans (kk.below b3.size (two_ge (by omega) (by omega))); clear h2 h3 h4 h5 h6 k5 k6 kk; go_wp2_with fail; refine (count_any p q _ _ _ a5).mono ?_; rintro e z2 ⟨rfl, rfl⟩; go_wp2_with fail; refine (words_n zs.length a5 (by simp)).mono ?_; rintro e z3 ⟨bv, rfl, rv, hv, bbv⟩; have a6 := a5.keep (Keep.of_below bbv (fun _ => False)) (by simp) (by simp); have r6 := r5.keep (Keep.of_below bbv (fun _ => False)) (by simp); have b6 := b5.trans (bbv.mono b5.size); go_wp2_with fail; refine (same_n zs.length rv r6 (by simp) (by omega)).mono ?_; rintro e z4 ⟨rfl, d, rfl⟩; go_wp2; go_roundw; (case rel => exact ⟨k + 1, c, zs, by omega, by omega, by go_num, by go_num, by omega, by simp, a6.keep (drewN_keep (fun _ => False) _ d) (by simp) (by simp), r6.keep (drewN_keep (fun _ => False) _ d) (by simp), below_drewN b6 d⟩); (case measure => simp [intOf]; omega)
            · as_aux_lemma =>
              have k9 := Keep.alloc (Keep.refl (fun _ => False) wr) (.cells #[.int .i64 kd, .int .i64 j, .int .u64 od, .int .u64 nw] 42); have a9 := ar.keep k9 (by simp) (by simp); have r9 := rr.keep k9 (by simp); have b9 := br.trans (k9.below br.size (by simp)); have f1e : (wr.alloc (.cells #[.int .i64 kd, .int .i64 j, .int .u64 od, .int .u64 nw] 42)).cell? ⟨wr.heap.size, 1, none⟩ = some (.int .i64 j) := (by simp); have f2e : (wr.alloc (.cells #[.int .i64 kd, .int .i64 j, .int .u64 od, .int .u64 nw] 42)).cell? ⟨wr.heap.size, 2, none⟩ = some (.int .u64 od) := (by simp); have f3e : (wr.alloc (.cells #[.int .i64 kd, .int .i64 j, .int .u64 od, .int .u64 nw] 42)).cell? ⟨wr.heap.size, 3, none⟩ = some (.int .u64 nw) := (by simp); have pl := ar.lt; have ql := ar.ws.lt
              have hk0 : (kd == 0) = false := by rw [beq_eq_false_iff_ne]; omega
              have hk1 : (kd == 1) = false := by rw [beq_eq_false_iff_ne]; omega
              have hk2 : (kd == 2) = false := by rw [beq_eq_false_iff_ne]; omega
              have hk3 : (kd == 3) = false := by rw [beq_eq_false_iff_ne]; omega
              go_wp2_with fail; refine (copy_any p q _ _ _ a9).mono ?_; rintro e y1 ⟨p2, q2, rfl, h2, hp2, hq2, bc⟩; have a1 := a9.keep (Keep.of_below bc (fun _ => False)) (by simp) (by simp); have r1 := r9.keep (Keep.of_below bc (fun _ => False)) (by simp); have b1 := b9.trans (bc.mono b9.size); have s9 := b9.size; have pl := a9.lt; have ql := a9.ws.lt; have rl := r9.lt; clear bc; go_wp2_with fail; refine (count_any p2 q2 _ _ _ h2).mono ?_; rintro e y2 ⟨rfl, rfl⟩; go_wp2_with fail; refine (words_n zs.length h2 rfl).mono ?_; rintro e y3 ⟨bv, rfl, rv, hv, bbv⟩; have a2 := a1.keep (Keep.of_below bbv (fun _ => False)) (by simp) (by simp); have h3 := h2.keep (Keep.of_below bbv (fun _ => False)) (by simp) (by simp); have r2 := r1.keep (Keep.of_below bbv (fun _ => False)) (by simp); have b2 := b1.trans (bbv.mono b1.size); clear bbv; go_wp2_with fail; refine (same_n zs.length rv r2 rfl (by omega)).mono ?_; rintro e y4 ⟨rfl, d, rfl⟩; have a3 := a2.keep (drewN_keep (fun _ => False) _ d) (by simp) (by simp); have h4 := h3.keep (drewN_keep (fun _ => False) _ d) (by simp) (by simp); have r3 := r2.keep (drewN_keep (fun _ => False) _ d) (by simp); have b3 := below_drewN b2 d; go_wp2_with fail; refine (store_to 0 77 _ _ h4 (by omega) (by omega) (by omega) (by omega) (by omega) rfl rfl).mono ?_; rintro e y5 ⟨rfl, h5, k5⟩; go_wp2_with fail; refine (add_to 0 1 _ _ _ h5 (by simp; omega) (by omega) (by omega) rfl rfl rfl).mono ?_; rintro e y6 ⟨rfl, h6, k6⟩; have kk := k5.trans k6; have a5 := a3.keep kk (by unfold Two; omega) (by unfold Two; omega); have r5 := r3.keep kk (by unfold Two; omega); have b5 := b3.trans (kk.below b3.size (two_ge (by omega) (by omega))); clear h2 h3 h4 h5 h6 k5 k6 kk; go_wp2_with fail; refine (count_any p q _ _ _ a5).mono ?_; rintro e z2 ⟨rfl, rfl⟩; go_wp2_with fail; refine (words_n zs.length a5 (by simp)).mono ?_; rintro e z3 ⟨bv, rfl, rv, hv, bbv⟩; have a6 := a5.keep (Keep.of_below bbv (fun _ => False)) (by simp) (by simp); have r6 := r5.keep (Keep.of_below bbv (fun _ => False)) (by simp); have b6 := b5.trans (bbv.mono b5.size); go_wp2_with fail; refine (same_n zs.length rv r6 (by simp) (by omega)).mono ?_; rintro e z4 ⟨rfl, d, rfl⟩; go_wp2; go_roundw; (case rel => exact ⟨k + 1, c, zs, by omega, by omega, by go_num, by go_num, by omega, by simp, a6.keep (drewN_keep (fun _ => False) _ d) (by simp) (by simp), r6.keep (drewN_keep (fun _ => False) _ d) (by simp), below_drewN b6 d⟩); (case measure => simp [intOf]; omega)
          · have hio : I < 0 ∨ zs.length ≤ I := by omega
            have hno2 : ∀ (l : List Int), l.length = zs.length → I < 0 ∨ (l.length : Int) ≤ I := fun l h => by rw [h]; exact hio
            clear hin
            rcases hio with hio | hio
            all_goals
              rcases (by omega : kd = 0 ∨ kd = 1 ∨ kd = 2 ∨ kd = 3 ∨ ¬ (0 ≤ kd ∧ kd ≤ 3)) with rfl | rfl | rfl | rfl | hk
              · as_aux_lemma =>
                have k9 := Keep.alloc (Keep.refl (fun _ => False) wr) (.cells #[.int .i64 0, .int .i64 I, .int .u64 od, .int .u64 nw] 42); have a9 := ar.keep k9 (by simp) (by simp); have r9 := rr.keep k9 (by simp); have b9 := br.trans (k9.below br.size (by simp)); have f1e : (wr.alloc (.cells #[.int .i64 0, .int .i64 I, .int .u64 od, .int .u64 nw] 42)).cell? ⟨wr.heap.size, 1, none⟩ = some (.int .i64 I) := (by simp); have f2e : (wr.alloc (.cells #[.int .i64 0, .int .i64 I, .int .u64 od, .int .u64 nw] 42)).cell? ⟨wr.heap.size, 2, none⟩ = some (.int .u64 od) := (by simp); have f3e : (wr.alloc (.cells #[.int .i64 0, .int .i64 I, .int .u64 od, .int .u64 nw] 42)).cell? ⟨wr.heap.size, 3, none⟩ = some (.int .u64 nw) := (by simp); have pl := ar.lt; have ql := ar.ws.lt
                go_wp2_with fail
                refine (load_no p q _ _ I _ a9 (by omega)).mono ?_
                rintro e y1 ⟨rfl, rfl⟩
                have a5 := a9
                have r5 := r9
                have b5 := b9
                go_wp2_with fail; refine (count_any p q _ _ _ a5).mono ?_; rintro e z2 ⟨rfl, rfl⟩; go_wp2_with fail; refine (words_n zs.length a5 (by simp)).mono ?_; rintro e z3 ⟨bv, rfl, rv, hv, bbv⟩; have a6 := a5.keep (Keep.of_below bbv (fun _ => False)) (by simp) (by simp); have r6 := r5.keep (Keep.of_below bbv (fun _ => False)) (by simp); have b6 := b5.trans (bbv.mono b5.size); go_wp2_with fail; refine (same_n zs.length rv r6 (by simp) (by omega)).mono ?_; rintro e z4 ⟨rfl, d, rfl⟩; go_wp2; go_roundw; (case rel => exact ⟨k + 1, c, zs, by omega, by omega, by go_num, by go_num, by omega, by simp, a6.keep (drewN_keep (fun _ => False) _ d) (by simp) (by simp), r6.keep (drewN_keep (fun _ => False) _ d) (by simp), below_drewN b6 d⟩); (case measure => simp [intOf]; omega)
              · as_aux_lemma =>
                have k9 := Keep.alloc (Keep.refl (fun _ => False) wr) (.cells #[.int .i64 1, .int .i64 I, .int .u64 od, .int .u64 nw] 42); have a9 := ar.keep k9 (by simp) (by simp); have r9 := rr.keep k9 (by simp); have b9 := br.trans (k9.below br.size (by simp)); have f1e : (wr.alloc (.cells #[.int .i64 1, .int .i64 I, .int .u64 od, .int .u64 nw] 42)).cell? ⟨wr.heap.size, 1, none⟩ = some (.int .i64 I) := (by simp); have f2e : (wr.alloc (.cells #[.int .i64 1, .int .i64 I, .int .u64 od, .int .u64 nw] 42)).cell? ⟨wr.heap.size, 2, none⟩ = some (.int .u64 od) := (by simp); have f3e : (wr.alloc (.cells #[.int .i64 1, .int .i64 I, .int .u64 od, .int .u64 nw] 42)).cell? ⟨wr.heap.size, 3, none⟩ = some (.int .u64 nw) := (by simp); have pl := ar.lt; have ql := ar.ws.lt
                go_wp2_with fail
                refine (store_no p q _ _ I _ _ a9 (by omega)).mono ?_
                rintro e y1 ⟨rfl, rfl⟩
                have a5 := a9
                have r5 := r9
                have b5 := b9
                go_wp2_with fail; refine (count_any p q _ _ _ a5).mono ?_; rintro e z2 ⟨rfl, rfl⟩; go_wp2_with fail; refine (words_n zs.length a5 (by simp)).mono ?_; rintro e z3 ⟨bv, rfl, rv, hv, bbv⟩; have a6 := a5.keep (Keep.of_below bbv (fun _ => False)) (by simp) (by simp); have r6 := r5.keep (Keep.of_below bbv (fun _ => False)) (by simp); have b6 := b5.trans (bbv.mono b5.size); go_wp2_with fail; refine (same_n zs.length rv r6 (by simp) (by omega)).mono ?_; rintro e z4 ⟨rfl, d, rfl⟩; go_wp2; go_roundw; (case rel => exact ⟨k + 1, c, zs, by omega, by omega, by go_num, by go_num, by omega, by simp, a6.keep (drewN_keep (fun _ => False) _ d) (by simp) (by simp), r6.keep (drewN_keep (fun _ => False) _ d) (by simp), below_drewN b6 d⟩); (case measure => simp [intOf]; omega)
              · as_aux_lemma =>
                have k9 := Keep.alloc (Keep.refl (fun _ => False) wr) (.cells #[.int .i64 2, .int .i64 I, .int .u64 od, .int .u64 nw] 42); have a9 := ar.keep k9 (by simp) (by simp); have r9 := rr.keep k9 (by simp); have b9 := br.trans (k9.below br.size (by simp)); have f1e : (wr.alloc (.cells #[.int .i64 2, .int .i64 I, .int .u64 od, .int .u64 nw] 42)).cell? ⟨wr.heap.size, 1, none⟩ = some (.int .i64 I) := (by simp); have f2e : (wr.alloc (.cells #[.int .i64 2, .int .i64 I, .int .u64 od, .int .u64 nw] 42)).cell? ⟨wr.heap.size, 2, none⟩ = some (.int .u64 od) := (by simp); have f3e : (wr.alloc (.cells #[.int .i64 2, .int .i64 I, .int .u64 od, .int .u64 nw] 42)).cell? ⟨wr.heap.size, 3, none⟩ = some (.int .u64 nw) := (by simp); have pl := ar.lt; have ql := ar.ws.lt
                go_wp2_with fail
                refine (cas_no p q _ _ I _ _ _ a9 (by omega)).mono ?_
                rintro e y1 ⟨rfl, rfl⟩
                have a5 := a9
                have r5 := r9
                have b5 := b9
                go_wp2_with fail; refine (count_any p q _ _ _ a5).mono ?_; rintro e z2 ⟨rfl, rfl⟩; go_wp2_with fail; refine (words_n zs.length a5 (by simp)).mono ?_; rintro e z3 ⟨bv, rfl, rv, hv, bbv⟩; have a6 := a5.keep (Keep.of_below bbv (fun _ => False)) (by simp) (by simp); have r6 := r5.keep (Keep.of_below bbv (fun _ => False)) (by simp); have b6 := b5.trans (bbv.mono b5.size); go_wp2_with fail; refine (same_n zs.length rv r6 (by simp) (by omega)).mono ?_; rintro e z4 ⟨rfl, d, rfl⟩; go_wp2; go_roundw; (case rel => exact ⟨k + 1, c, zs, by omega, by omega, by go_num, by go_num, by omega, by simp, a6.keep (drewN_keep (fun _ => False) _ d) (by simp) (by simp), r6.keep (drewN_keep (fun _ => False) _ d) (by simp), below_drewN b6 d⟩); (case measure => simp [intOf]; omega)
              · as_aux_lemma =>
                have k9 := Keep.alloc (Keep.refl (fun _ => False) wr) (.cells #[.int .i64 3, .int .i64 I, .int .u64 od, .int .u64 nw] 42); have a9 := ar.keep k9 (by simp) (by simp); have r9 := rr.keep k9 (by simp); have b9 := br.trans (k9.below br.size (by simp)); have f1e : (wr.alloc (.cells #[.int .i64 3, .int .i64 I, .int .u64 od, .int .u64 nw] 42)).cell? ⟨wr.heap.size, 1, none⟩ = some (.int .i64 I) := (by simp); have f2e : (wr.alloc (.cells #[.int .i64 3, .int .i64 I, .int .u64 od, .int .u64 nw] 42)).cell? ⟨wr.heap.size, 2, none⟩ = some (.int .u64 od) := (by simp); have f3e : (wr.alloc (.cells #[.int .i64 3, .int .i64 I, .int .u64 od, .int .u64 nw] 42)).cell? ⟨wr.heap.size, 3, none⟩ = some (.int .u64 nw) := (by simp); have pl := ar.lt; have ql := ar.ws.lt
                go_wp2_with fail
                refine (add_no p q _ _ I _ _ a9 (by omega)).mono ?_
                rintro e y1 ⟨rfl, rfl⟩
                have a5 := a9
                have r5 := r9
                have b5 := b9
                go_wp2_with fail; refine (count_any p q _ _ _ a5).mono ?_; rintro e z2 ⟨rfl, rfl⟩; go_wp2_with fail; refine (words_n zs.length a5 (by simp)).mono ?_; rintro e z3 ⟨bv, rfl, rv, hv, bbv⟩; have a6 := a5.keep (Keep.of_below bbv (fun _ => False)) (by simp) (by simp); have r6 := r5.keep (Keep.of_below bbv (fun _ => False)) (by simp); have b6 := b5.trans (bbv.mono b5.size); go_wp2_with fail; refine (same_n zs.length rv r6 (by simp) (by omega)).mono ?_; rintro e z4 ⟨rfl, d, rfl⟩; go_wp2; go_roundw; (case rel => exact ⟨k + 1, c, zs, by omega, by omega, by go_num, by go_num, by omega, by simp, a6.keep (drewN_keep (fun _ => False) _ d) (by simp) (by simp), r6.keep (drewN_keep (fun _ => False) _ d) (by simp), below_drewN b6 d⟩); (case measure => simp [intOf]; omega)
              · as_aux_lemma =>
                have k9 := Keep.alloc (Keep.refl (fun _ => False) wr) (.cells #[.int .i64 kd, .int .i64 I, .int .u64 od, .int .u64 nw] 42); have a9 := ar.keep k9 (by simp) (by simp); have r9 := rr.keep k9 (by simp); have b9 := br.trans (k9.below br.size (by simp)); have f1e : (wr.alloc (.cells #[.int .i64 kd, .int .i64 I, .int .u64 od, .int .u64 nw] 42)).cell? ⟨wr.heap.size, 1, none⟩ = some (.int .i64 I) := (by simp); have f2e : (wr.alloc (.cells #[.int .i64 kd, .int .i64 I, .int .u64 od, .int .u64 nw] 42)).cell? ⟨wr.heap.size, 2, none⟩ = some (.int .u64 od) := (by simp); have f3e : (wr.alloc (.cells #[.int .i64 kd, .int .i64 I, .int .u64 od, .int .u64 nw] 42)).cell? ⟨wr.heap.size, 3, none⟩ = some (.int .u64 nw) := (by simp); have pl := ar.lt; have ql := ar.ws.lt
                have hk0 : (kd == 0) = false := by rw [beq_eq_false_iff_ne]; omega
                have hk1 : (kd == 1) = false := by rw [beq_eq_false_iff_ne]; omega
                have hk2 : (kd == 2) = false := by rw [beq_eq_false_iff_ne]; omega
                have hk3 : (kd == 3) = false := by rw [beq_eq_false_iff_ne]; omega
                go_wp2_with fail; refine (copy_any p q _ _ _ a9).mono ?_; rintro e y1 ⟨p2, q2, rfl, h2, hp2, hq2, bc⟩; have a1 := a9.keep (Keep.of_below bc (fun _ => False)) (by simp) (by simp); have r1 := r9.keep (Keep.of_below bc (fun _ => False)) (by simp); have b1 := b9.trans (bc.mono b9.size); have s9 := b9.size; have pl := a9.lt; have ql := a9.ws.lt; have rl := r9.lt; clear bc; go_wp2_with fail; refine (count_any p2 q2 _ _ _ h2).mono ?_; rintro e y2 ⟨rfl, rfl⟩; go_wp2_with fail; refine (words_n zs.length h2 rfl).mono ?_; rintro e y3 ⟨bv, rfl, rv, hv, bbv⟩; have a2 := a1.keep (Keep.of_below bbv (fun _ => False)) (by simp) (by simp); have h3 := h2.keep (Keep.of_below bbv (fun _ => False)) (by simp) (by simp); have r2 := r1.keep (Keep.of_below bbv (fun _ => False)) (by simp); have b2 := b1.trans (bbv.mono b1.size); clear bbv; go_wp2_with fail; refine (same_n zs.length rv r2 rfl (by omega)).mono ?_; rintro e y4 ⟨rfl, d, rfl⟩; have a3 := a2.keep (drewN_keep (fun _ => False) _ d) (by simp) (by simp); have h4 := h3.keep (drewN_keep (fun _ => False) _ d) (by simp) (by simp); have r3 := r2.keep (drewN_keep (fun _ => False) _ d) (by simp); have b3 := below_drewN b2 d; go_wp2_with fail; refine (store_to 0 77 _ _ h4 (by omega) (by omega) (by omega) (by omega) (by omega) rfl rfl).mono ?_; rintro e y5 ⟨rfl, h5, k5⟩; go_wp2_with fail; refine (add_to 0 1 _ _ _ h5 (by simp; omega) (by omega) (by omega) rfl rfl rfl).mono ?_; rintro e y6 ⟨rfl, h6, k6⟩; have kk := k5.trans k6; have a5 := a3.keep kk (by unfold Two; omega) (by unfold Two; omega); have r5 := r3.keep kk (by unfold Two; omega); have b5 := b3.trans (kk.below b3.size (two_ge (by omega) (by omega))); clear h2 h3 h4 h5 h6 k5 k6 kk; go_wp2_with fail; refine (count_any p q _ _ _ a5).mono ?_; rintro e z2 ⟨rfl, rfl⟩; go_wp2_with fail; refine (words_n zs.length a5 (by simp)).mono ?_; rintro e z3 ⟨bv, rfl, rv, hv, bbv⟩; have a6 := a5.keep (Keep.of_below bbv (fun _ => False)) (by simp) (by simp); have r6 := r5.keep (Keep.of_below bbv (fun _ => False)) (by simp); have b6 := b5.trans (bbv.mono b5.size); go_wp2_with fail; refine (same_n zs.length rv r6 (by simp) (by omega)).mono ?_; rintro e z4 ⟨rfl, d, rfl⟩; go_wp2; go_roundw; (case rel => exact ⟨k + 1, c, zs, by omega, by omega, by go_num, by go_num, by omega, by simp, a6.keep (drewN_keep (fun _ => False) _ d) (by simp) (by simp), r6.keep (drewN_keep (fun _ => False) _ d) (by simp), below_drewN b6 d⟩); (case measure => simp [intOf]; omega)
        · rcases (by omega : (k = 80 ∧ k < len1) ∨ k = len1) with ⟨rfl, hl⟩ | rfl
          all_goals
            go_wp2_with fail
            refine (awake2_any _).mono ?_
            rintro e z5 ⟨rfl, b5⟩
            go_wp2
            go_ret
            exact ⟨rfl, br.trans (b5.mono br.size)⟩
theorem own : ownKnob Try.prog.godebug = none := by kernel_rfl
theorem laidOut : laidOutB Try.prog = true := by kernel_rfl
set_option maxRecDepth 100000 in
theorem lifted (os : Os) (started : os.Started) (H : Type) (enc : TypeId × Value → H) :
    ReturnsInHanded {} Try.checked os 6 .any (Rows.arenaPlaysSpec.pre6 enc Try.prog Try.f6 Rows.arenaPlaysRow.domain false) (Rows.arenaPlaysSpec.post enc Try.prog Try.f6 false true false false) := by
  refine returnsInHanded_of_change (C := Try.checked) own started (by kernel_rfl) Try.func6
    (ChangeSpec.witness6 (enc := enc) (C := Try.checked) false ⟨#[], #[.int .i64 0, .slice none 0 0], []⟩ 8 (by kernel_rfl) (by kernel_rfl) (by kernel_rfl) (by kernel_rfl)) ?_
  intro W base args ds gs before hval0 hW hcnd _
  have hval : ∀ (j : Nat) t v, Try.f6.params[j]? = some t → args[j]? = some v → Value.okWide Try.prog W .any base t v := hval0
  have hW' := hW
  obtain ⟨p, q, hA0, hV, rfl, hfz, hnd⟩ := hW
  have hA : DataW.TrodAll enc Try.prog W 0 (fun _ => true) true Try.f6.params.toList args.toList ds p := hA0
  rw [Try.params6] at hA hval
  obtain ⟨v0, vs0, d0, ds0, p0, q0, hargs, rfl, rfl, h0, r0⟩ := trodAll_cons hA
  obtain ⟨v1, vs1, d1, ds1, p1, q1, rfl, rfl, rfl, h1, r1⟩ := trodAll_cons r0
  obtain ⟨rfl, rfl, rfl⟩ := trodAll_nil r1
  obtain rfl : args = #[v0, v1] := by cases args; simp_all
  obtain ⟨rfl, rfl⟩ := trodVars_none hV
  obtain ⟨a0, rfl, rfl, rfl, w0⟩ := open_int Try.underlying3 (hval 0 3 v0 rfl rfl) h0
  obtain ⟨a1, len1, cap1, rfl⟩ := okWide_slice Try.underlying40 (hval 1 40 v1 rfl rfl)
  have k1 := h1
  have lt1 : ∀ x ∈ p1, x.block < W.heap.size := by obtain ⟨m, hm⟩ := k1; exact DataW.trod_lt m _ _ _ hm
  obtain ⟨z1, w1⟩ : ∃ f, IsOps W a1 len1 cap1 f := is_ops h1
  clear hA0 hval0
  refine (walk a0 a1 len1 cap1 z1 W w0 w1).mono fun e W' ⟨he, bel⟩ => ?_
  subst he
  exact ⟨_, rfl, _, _, _, [], _, [], hW', trodAll_mk1 (shut_bool Try.underlying4 _), (trodAll_cons_mk (shut_int Try.underlying3 w0) (trodAll_cons_mk (Below.trod laidOut (by kernel_rfl) (of_decide_eq_true (by kernel_rfl)) k1 bel lt1) trodAll_mk0)), rfl, bel.frame _, fun h => by cases h⟩
theorem over : Rows.arenaPlaysRow.holds Try.pinned (OpenSpec.ofChange Rows.arenaPlaysSpec) :=
  OpenClaim.holds_of_wide 6 Try.f6 rfl rfl rfl rfl rfl rfl rfl ⟨rfl, rfl, rfl, rfl, rfl⟩ rfl rfl rfl rfl rfl (by kernel_rfl) Try.func6 (by kernel_rfl)
    (of_decide_eq_true (by kernel_rfl)) (by unfold Func.isWrapper; first | (rw [if_pos (by decide +kernel)]; kernel_rfl) | (rw [if_neg (by decide +kernel)]; exact ⟨rfl, rfl⟩))
    (fun os started H enc _ => lifted os started H enc)
theorem proved : Rows.ArenaPlaysSaid := over
#print axioms proved
end Go.Proofs.Ytcfalcjefdgahaa.arenaPlays
