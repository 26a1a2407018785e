/- Proved here: vinculumlaw2.ArenaLent returns true and leaves its arguments as they were, for every slice of words and every place; no further condition. -/
import Derived.Test.YtcfalcjefdgahaaRow
import Derived.Test.YtcfalcjefdgahaaBits
import Derived.Deep.RegionHeld3
namespace Go.Proofs.Ytcfalcjefdgahaa.arenaLent
open Go.ChangeShapes Go.WideShapes Go.ChangeAt Go.RowKit
set_option linter.unusedVariables false

def Rel (xs : List Int) (p q : Nat) (B : Nat) (w : World) (k : Nat) (i : Value) (wr : World) : Prop :=
  k ≤ xs.length ∧ i = .int .i64 k ∧ Ar wr p q (upto xs k) k ∧ Below B w wr
theorem awake_keep {w w' : World} {a : Addr} {v : Value} (h : Below w.heap.size w w') (hc : w.cell? a = some v) : w'.cell? a = some v := (h.cell (lt_of_cell hc)).trans hc
set_option maxHeartbeats 4000000 in
theorem walk (a0 : Option Addr) (len0 cap0 : Nat) (z0 : List Int) (a1 : Int) (w : World) (w0 : IsRow .u64 w a0 len0 cap0 z0) (w1 : (Lit.int .i64 a1).wf = true) :
    Calls Try.prog 4 #[.slice a0 len0 cap0, .int .i64 a1] w fun e w' => e = .returned (.bool true) ∧ Below w.heap.size w w' := by
  obtain ⟨q0, q1⟩ := bounds_i64 w1
  obtain ⟨l1, l2, l3, lc, lw⟩ := id w0
  have hu := w0.u64
  subst l1
  obtain ⟨n, hn⟩ : ∃ n : Nat, (if (30 : Int) < (z0.length : Int) then (30 : Int) else (z0.length : Int)) = (n : Int) := ⟨min z0.length 30, by split <;> omega⟩
  have n1 : n ≤ z0.length := by split at hn <;> omega
  have n2 : n ≤ 30 := by split at hn <;> omega
  by_cases h0 : z0.length = 0
  · have hn0 : n = 0 := by omega
    subst hn0
    go_enter Try.func4, Try.ntmps4
    go_wp2_with fail
    refine (awake2_any _).mono ?_
    rintro e x1 ⟨rfl, b1⟩
    go_wp2
    go_ret
    exact ⟨rfl, b1⟩
  · have h1 : 1 ≤ n := by split at hn <;> omega
    obtain ⟨b, off, rfl, hb, hc⟩ := lc (by omega)
    obtain ⟨xs, hxl, hx⟩ : ∃ xs : List Int, xs.length = n ∧ ∀ j, j < n → z0.getD j 0 = xs.getD j 0 := ⟨z0.take n, by simp; omega, fun j hj => by simp [List.getD_eq_getElem?_getD, hj]⟩
    have hc : ∀ j, j < n → w.cell? ⟨b, off + j, none⟩ = some (.int .u64 (xs.getD j 0)) := fun j hj => by rw [hc j (by omega), hx j hj]
    have hu : ∀ j, j < n → 0 ≤ xs.getD j 0 ∧ xs.getD j 0 ≤ 18446744073709551615 := fun j hj => by rw [← hx j hj]; exact hu j
    clear lc hx lw
    obtain ⟨m, em⟩ : ∃ m : Nat, a1 % 256 = m := ⟨(a1 % 256).toNat, by omega⟩
    have hm : bits .and .i64 a1 255 = m := (i64_mask a1 8 (by decide)).trans em
    clear em
    obtain ⟨k, ek⟩ : ∃ k : Nat, m % n = k := ⟨_, rfl⟩
    have hk : k < n := by rw [← ek]; exact Nat.mod_lt _ (by omega)
    have ek1 : (m : Int) % (n : Int) = (k : Int) := by rw [← ek]; rfl
    clear ek
    go_enter Try.func4, Try.ntmps4
    go_wp2_with fail
    refine (new_ok n _ h1 (by omega)).mono ?_
    rintro e x1 ⟨p, q, rfl, g1, hp, hq, b1⟩
    have hnb : ¬ Two p q b := by unfold Two; omega
    have g2 : Ar x1 p q (upto xs 0) 0 := by rw [upto_zero, hxl]; exact g1
    clear g1
    go_wp2
    subst hxl
    go_loopw [8] (fun i wr => ∃ k : Nat, Rel xs p q w.heap.size w k i wr) (fun i _ => xs.length - (intOf i).toNat)
    case atStart => exact ⟨0, Nat.zero_le _, rfl, g2, b1⟩
    case round =>
      obtain ⟨j, kl, rfl, ar, br⟩ := hrel
      clear g2 b1
      by_cases hl : j < xs.length
      · have hc2 := (br.cell (p := ⟨b, off + j, none⟩) hb).trans (hc j hl)
        have hy := hu j hl
        have us := upto_set xs j hl
        obtain ⟨y, ey⟩ : ∃ y, xs.getD j 0 = y := ⟨_, rfl⟩
        rw [ey] at hc2 hy us
        clear ey hc hu
        have US := Lib.hid us
        clear us
        go_wp2_with fail
        refine (store_to j y _ (j + 1 : Nat) ar (by rw [upto_len xs j kl]; exact hl) (by omega) (by omega) hy.1 hy.2 US.out (by omega)).mono ?_
        rintro e y2 ⟨rfl, h2, k2⟩
        go_wp2
        go_roundw
        case rel => exact ⟨j + 1, by omega, by go_num, h2, br.trans (k2.below br.size (two_ge hp hq))⟩
        case measure => simp [intOf]; omega
      · obtain rfl : j = xs.length := by omega
        rw [upto_all] at ar
        have bp := ar.lt
        have bq := ar.ws.lt
        have bs := br.size
        go_wp2_with fail
        refine (words_any p q xs _ _ ar).mono ?_
        rintro e y1 ⟨bw, rfl, rw1, hw1, bw1⟩
        have bl := rw1.lt
        have bs1 := bw1.size
        have ar := ar.keep (Keep.of_below bw1 (fun _ => False)) (by simp) (by simp)
        have br := br.trans (bw1.mono br.size)
        go_wp2_with fail
        refine (copy_any p q xs _ _ ar).mono ?_
        rintro e y2 ⟨p2, q2, rfl, h2, hp2, hq2, b2⟩
        have ar := ar.keep (Keep.of_below b2 (fun _ => False)) (by simp) (by simp)
        have rw2 := rw1.keep (Keep.of_below b2 (fun _ => False)) (by simp)
        have br := br.trans (b2.mono br.size)
        have wc := rw2.cell k hk
        have wf := rw2.free k
        have hy := hu k hk
        have hck := (br.cell (p := ⟨b, off + k, none⟩) hb).trans (hc k hk)
        have hrow : ∀ j, j < xs.length → y2.cell? ⟨b, off + j, none⟩ = some (.int .u64 (xs.getD j 0)) := fun j hj => (br.cell (p := ⟨b, off + j, none⟩) hb).trans (hc j hj)
        have HR := Lib.hid hrow
        obtain ⟨y, ey⟩ : ∃ y, xs.getD k 0 = y := ⟨_, rfl⟩
        rw [ey] at wc hy hck
        obtain ⟨t, et⟩ : ∃ t, addU y 5 = t := ⟨_, rfl⟩
        have ET : addU (xs.getD k 0) 5 = t := by rw [ey]; exact et
        have wr5 : IntKind.u64.wrap (y + 5) = t := (wrapU y 5).trans et
        have wr6 : IntKind.i64.wrap ((xs.length : Int) + 1) = (xs.length : Int) + 1 := IntWalk.i64_in _ (by omega)
        have ET := Lib.hid ET
        clear ey hc hu hrow et bw1 b2 rw1
        have ks := Keep.setCell (S := fun z => z = bw) (Keep.refl (fun z => z = bw) y2) (p := ⟨bw, k, none⟩) rfl (.int .u64 (IntKind.u64.wrap (y + 1)))
        have a9 := ar.keep ks (by omega) (by omega)
        have hs := h2.keep ks (by omega) (by omega)
        have hcs := ks.cell hck (by simp; omega)
        go_wp2_with fail
        refine (add_to k 5 t (xs.set k t) ((xs.length : Int) + 1) hs hk (by omega) (by omega) ET.out rfl rfl).mono ?_
        rintro e y3 ⟨rfl, ac, k3⟩
        have kd := (k3.mono (T := Two p2 q2) (fun _ h => h)).drew
        have ac := ac.keep (Keep.refl (fun _ => False) y3).drew (by simp) (by simp)
        have ar := a9.keep kd (by unfold Two; omega) (by unfold Two; omega)
        have hcs := kd.cell hcs (by unfold Two; simp; omega)
        have kk := ((ks.mono (T := fun z => z = bw ∨ Two p2 q2 z) (fun _ h => Or.inl h)).trans (kd.mono (fun _ h => Or.inr h)))
        have hrow : ∀ j, j < xs.length → y3.drew.cell? ⟨b, off + j, none⟩ = some (.int .u64 (xs.getD j 0)) := fun j hj => kk.cell (HR.out j hj) (by unfold Two; simp; omega)
        have HR := Lib.hid hrow
        have br := br.trans (kk.below br.size (fun z h => by rcases h with h | h | h <;> omega))
        clear hrow kk kd k3 ks a9 hs h2 hck wc wf rw2
        have hxc : xs.length ≤ cap0 := by omega
        have hxk : k < z0.length := by omega
        have nb : b < y3.drew.heap.size := Nat.lt_of_lt_of_le hb br.size
        go_wp2_with fail
        refine wp_region_held_drew (S := (fun w' => w'.cell? ⟨b, off + k, none⟩ = some (.int .u64 y))) (by kernel_rfl) hcs (fun hHeld => ?_)
        refine wpAnyH_take (i := 0) (v := ?qvu0) rfl (by kernel_rfl) (by kernel_rfl) (by kernel_rfl) (fun _ _ _ h => h) (Or.inl ⟨by rfl, ?qyu0⟩) (by assumption) ?qru0; case qyu0 => ((intro w hSw; (try dsimp only at hSw); go_simp); try (with_reducible rfl))
        ((try simp only [List.getElem_toArray]); (try simp only [List.getElem_cons_succ]); (try simp only [List.getElem_cons_zero]); (try simp only [Act.put]); (try simp only [List.setIfInBounds_toArray]); (try simp only [List.set_cons_succ]); (try simp only [List.set_cons_zero]))
        refine wpAnyH_take (i := 2) (v := ?qvu1) rfl (by kernel_rfl) (by kernel_rfl) (by kernel_rfl) (fun _ _ _ h => h) (Or.inl ⟨by rfl, ?qyu1⟩) (by assumption) ?qru1; case qyu1 => ((intro w hSw; (try dsimp only at hSw); go_simp); try (with_reducible rfl))
        ((try simp only [List.getElem_toArray]); (try simp only [List.getElem_cons_succ]); (try simp only [List.getElem_cons_zero]); (try simp only [Act.put]); (try simp only [List.setIfInBounds_toArray]); (try simp only [List.set_cons_succ]); (try simp only [List.set_cons_zero]))
        refine wpAnyH_take (i := 3) (v := ?qvu2) rfl (by kernel_rfl) (by kernel_rfl) (by kernel_rfl) (fun _ _ _ h => h) (Or.inl ⟨by rfl, ?qyu2⟩) (by assumption) ?qru2; case qyu2 => ((intro w hSw; (try dsimp only at hSw); go_simp); try (with_reducible rfl))
        ((try simp only [List.getElem_toArray]); (try simp only [List.getElem_cons_succ]); (try simp only [List.getElem_cons_zero]); (try simp only [Act.put]); (try simp only [List.setIfInBounds_toArray]); (try simp only [List.set_cons_succ]); (try simp only [List.set_cons_zero]))
        refine wpAnyH_take (i := 4) (v := ?qvu3) rfl (by kernel_rfl) (by kernel_rfl) (by kernel_rfl) (fun _ _ _ h => h) (Or.inl ⟨by rfl, ?qyu3⟩) (by assumption) ?qru3; case qyu3 => ((intro w hSw; (try dsimp only at hSw); go_simp); try (with_reducible rfl))
        ((try simp only [List.getElem_toArray]); (try simp only [List.getElem_cons_succ]); (try simp only [List.getElem_cons_zero]); (try simp only [Act.put]); (try simp only [List.setIfInBounds_toArray]); (try simp only [List.set_cons_succ]); (try simp only [List.set_cons_zero]))
        refine wpAnyH_ready (rs := [1]) (by kernel_rfl) (by simp) ?_
        refine AllReadyH.cons rfl (fun K hK => ?_) AllReadyH.nil
        go_simp
        refine (words_any p q xs _ _ ar).mono ?_
        rintro e v1 ⟨bv, rfl, rv, hv, bbv⟩
        have ar := ar.keep (Keep.of_below bbv (fun _ => False)) (by simp) (by simp)
        have ac := ac.keep (Keep.of_below bbv (fun _ => False)) (by simp) (by simp)
        have hrow : ∀ j, j < xs.length → v1.cell? ⟨b, off + j, none⟩ = some (.int .u64 (xs.getD j 0)) := fun j hj => (bbv.cell (p := ⟨b, off + j, none⟩) nb).trans (HR.out j hj)
        have HR := Lib.hid hrow
        clear hrow
        have br := br.trans (bbv.mono br.size)
        refine hK.out _ _ ((bbv.cell (p := ⟨b, off + k, none⟩) nb).trans hHeld) (fun hHeld => ?_)
        clear hK K
        ((try simp only [List.getElem_toArray]); (try simp only [List.getElem_cons_succ]); (try simp only [List.getElem_cons_zero]); (try simp only [Act.put]); (try simp only [List.setIfInBounds_toArray]); (try simp only [List.set_cons_succ]); (try simp only [List.set_cons_zero]))
        refine wpAnyH_ready (rs := [5]) (by kernel_rfl) (by simp) ?_
        refine AllReadyH.cons rfl (fun K hK => ?_) AllReadyH.nil
        go_simp
        refine (same_yes bv b 0 off _ _ xs _ (by omega) (fun i hi => by rw [Nat.zero_add]; exact rv.cell i hi) HR.out).mono ?_
        rintro e v2 ⟨rfl, d, rfl⟩
        have ar := ar.keep (drewN_keep (fun _ => False) _ d) (by simp) (by simp)
        have ac := ac.keep (drewN_keep (fun _ => False) _ d) (by simp) (by simp)
        have br := below_drewN br d
        refine hK.out _ _ hHeld (fun hHeld => ?_)
        clear hK K
        ((try simp only [List.getElem_toArray]); (try simp only [List.getElem_cons_succ]); (try simp only [List.getElem_cons_zero]); (try simp only [Act.put]); (try simp only [List.setIfInBounds_toArray]); (try simp only [List.set_cons_succ]); (try simp only [List.set_cons_zero]))
        refine wpAnyH_take (i := 6) (v := ?qvu4) rfl (by kernel_rfl) (by kernel_rfl) (by kernel_rfl) (fun _ _ _ h => h) (Or.inl ⟨by rfl, ?qyu4⟩) (by assumption) ?qru4; case qyu4 => ((intro w hSw; (try dsimp only at hSw); go_simp); try (with_reducible rfl))
        ((try simp only [List.getElem_toArray]); (try simp only [List.getElem_cons_succ]); (try simp only [List.getElem_cons_zero]); (try simp only [Act.put]); (try simp only [List.setIfInBounds_toArray]); (try simp only [List.set_cons_succ]); (try simp only [List.set_cons_zero]))
        refine wpAnyH_take (i := 7) (v := ?qvu5) rfl (by kernel_rfl) (by kernel_rfl) (by kernel_rfl) (fun _ _ _ h => h) (Or.inl ⟨by rfl, ?qyu5⟩) (by assumption) ?qru5; case qyu5 => ((intro w hSw; (try dsimp only at hSw); go_simp); try (with_reducible rfl))
        ((try simp only [List.getElem_toArray]); (try simp only [List.getElem_cons_succ]); (try simp only [List.getElem_cons_zero]); (try simp only [Act.put]); (try simp only [List.setIfInBounds_toArray]); (try simp only [List.set_cons_succ]); (try simp only [List.set_cons_zero]))
        refine wpAnyH_take (i := 9) (v := ?qvu6) rfl (by kernel_rfl) (by kernel_rfl) (by kernel_rfl) (fun _ _ _ h => h) (Or.inl ⟨by rfl, ?qyu6⟩) (by assumption) ?qru6; case qyu6 => ((intro w hSw; (try dsimp only at hSw); go_simp); try (with_reducible rfl))
        ((try simp only [List.getElem_toArray]); (try simp only [List.getElem_cons_succ]); (try simp only [List.getElem_cons_zero]); (try simp only [Act.put]); (try simp only [List.setIfInBounds_toArray]); (try simp only [List.set_cons_succ]); (try simp only [List.set_cons_zero]))
        refine wpAnyH_ready (rs := [8]) (by kernel_rfl) (by simp) ?_
        refine AllReadyH.cons rfl (fun K hK => ?_) AllReadyH.nil
        go_simp
        refine (count_any p q xs _ _ ar).mono ?_
        rintro e v3 ⟨rfl, rfl⟩
        refine hK.out _ _ hHeld (fun hHeld => ?_)
        clear hK K
        ((try simp only [List.getElem_toArray]); (try simp only [List.getElem_cons_succ]); (try simp only [List.getElem_cons_zero]); (try simp only [Act.put]); (try simp only [List.setIfInBounds_toArray]); (try simp only [List.set_cons_succ]); (try simp only [List.set_cons_zero]))
        refine wpAnyH_take (i := 10) (v := ?qvu7) rfl (by kernel_rfl) (by kernel_rfl) (by kernel_rfl) (fun _ _ _ h => h) (Or.inl ⟨by rfl, ?qyu7⟩) (by assumption) ?qru7; case qyu7 => ((intro w hSw; (try dsimp only at hSw); go_simp); try (with_reducible rfl))
        ((try simp only [List.getElem_toArray]); (try simp only [List.getElem_cons_succ]); (try simp only [List.getElem_cons_zero]); (try simp only [Act.put]); (try simp only [List.setIfInBounds_toArray]); (try simp only [List.set_cons_succ]); (try simp only [List.set_cons_zero]))
        refine wpAnyH_take (i := 11) (v := ?qvu8) rfl (by kernel_rfl) (by kernel_rfl) (by kernel_rfl) (fun _ _ _ h => h) (Or.inl ⟨by rfl, ?qyu8⟩) (by assumption) ?qru8; case qyu8 => ((intro w hSw; (try dsimp only at hSw); go_simp); try (with_reducible rfl))
        ((try simp only [List.getElem_toArray]); (try simp only [List.getElem_cons_succ]); (try simp only [List.getElem_cons_zero]); (try simp only [Act.put]); (try simp only [List.setIfInBounds_toArray]); (try simp only [List.set_cons_succ]); (try simp only [List.set_cons_zero]))
        refine wpAnyH_take (i := 12) (v := ?qvu9) rfl (by kernel_rfl) (by kernel_rfl) (by kernel_rfl) (fun _ _ _ h => h) (Or.inl ⟨by rfl, ?qyu9⟩) (by assumption) ?qru9; case qyu9 => ((intro w hSw; (try dsimp only at hSw); go_simp); try (with_reducible rfl))
        ((try simp only [List.getElem_toArray]); (try simp only [List.getElem_cons_succ]); (try simp only [List.getElem_cons_zero]); (try simp only [Act.put]); (try simp only [List.setIfInBounds_toArray]); (try simp only [List.set_cons_succ]); (try simp only [List.set_cons_zero]))
        refine wpAnyH_take (i := 13) (v := ?qvu10) rfl (by kernel_rfl) (by kernel_rfl) (by kernel_rfl) (fun _ _ _ h => h) (Or.inl ⟨by rfl, ?qyu10⟩) (by assumption) ?qru10; case qyu10 => ((intro w hSw; (try dsimp only at hSw); go_simp); try (with_reducible rfl))
        ((try simp only [List.getElem_toArray]); (try simp only [List.getElem_cons_succ]); (try simp only [List.getElem_cons_zero]); (try simp only [Act.put]); (try simp only [List.setIfInBounds_toArray]); (try simp only [List.set_cons_succ]); (try simp only [List.set_cons_zero]))
        refine wpAnyH_take (i := 15) (v := ?qvu11) rfl (by kernel_rfl) (by kernel_rfl) (by kernel_rfl) (fun _ _ _ h => h) (Or.inl ⟨by rfl, ?qyu11⟩) (by assumption) ?qru11; case qyu11 => ((intro w hSw; (try dsimp only at hSw); go_simp); try (with_reducible rfl))
        ((try simp only [List.getElem_toArray]); (try simp only [List.getElem_cons_succ]); (try simp only [List.getElem_cons_zero]); (try simp only [Act.put]); (try simp only [List.setIfInBounds_toArray]); (try simp only [List.set_cons_succ]); (try simp only [List.set_cons_zero]))
        refine wpAnyH_take (i := 16) (v := ?qvu12) rfl (by kernel_rfl) (by kernel_rfl) (by kernel_rfl) (fun _ _ _ h => h) (Or.inl ⟨by rfl, ?qyu12⟩) (by assumption) ?qru12; case qyu12 => ((intro w hSw; (try dsimp only at hSw); go_simp); try (with_reducible rfl))
        ((try simp only [List.getElem_toArray]); (try simp only [List.getElem_cons_succ]); (try simp only [List.getElem_cons_zero]); (try simp only [Act.put]); (try simp only [List.setIfInBounds_toArray]); (try simp only [List.set_cons_succ]); (try simp only [List.set_cons_zero]))
        refine wpAnyH_ready (rs := [14]) (by kernel_rfl) (by simp) ?_
        refine AllReadyH.cons rfl (fun K hK => ?_) AllReadyH.nil
        go_simp
        refine (count_any p2 q2 _ _ _ ac).mono ?_
        rintro e v4 ⟨rfl, rfl⟩
        refine hK.out _ _ hHeld (fun hHeld => ?_)
        clear hK K
        ((try simp only [List.getElem_toArray]); (try simp only [List.getElem_cons_succ]); (try simp only [List.getElem_cons_zero]); (try simp only [Act.put]); (try simp only [List.setIfInBounds_toArray]); (try simp only [List.set_cons_succ]); (try simp only [List.set_cons_zero]))
        refine wpAnyH_take (i := 17) (v := ?qvu13) rfl (by kernel_rfl) (by kernel_rfl) (by kernel_rfl) (fun _ _ _ h => h) (Or.inl ⟨by rfl, ?qyu13⟩) (by assumption) ?qru13; case qyu13 => ((intro w hSw; (try dsimp only at hSw); go_simp); try (with_reducible rfl))
        ((try simp only [List.getElem_toArray]); (try simp only [List.getElem_cons_succ]); (try simp only [List.getElem_cons_zero]); (try simp only [Act.put]); (try simp only [List.setIfInBounds_toArray]); (try simp only [List.set_cons_succ]); (try simp only [List.set_cons_zero]))
        refine wpAnyH_take (i := 18) (v := ?qvu14) rfl (by kernel_rfl) (by kernel_rfl) (by kernel_rfl) (fun _ _ _ h => h) (Or.inl ⟨by rfl, ?qyu14⟩) (by assumption) ?qru14; case qyu14 => ((intro w hSw; (try dsimp only at hSw); go_simp); try (with_reducible rfl))
        ((try simp only [List.getElem_toArray]); (try simp only [List.getElem_cons_succ]); (try simp only [List.getElem_cons_zero]); (try simp only [Act.put]); (try simp only [List.setIfInBounds_toArray]); (try simp only [List.set_cons_succ]); (try simp only [List.set_cons_zero]))
        refine wpAnyH_take (i := 19) (v := ?qvu15) rfl (by kernel_rfl) (by kernel_rfl) (by kernel_rfl) (fun _ _ _ h => h) (Or.inl ⟨by rfl, ?qyu15⟩) (by assumption) ?qru15; case qyu15 => ((intro w hSw; (try dsimp only at hSw); go_simp); try (with_reducible rfl))
        ((try simp only [List.getElem_toArray]); (try simp only [List.getElem_cons_succ]); (try simp only [List.getElem_cons_zero]); (try simp only [Act.put]); (try simp only [List.setIfInBounds_toArray]); (try simp only [List.set_cons_succ]); (try simp only [List.set_cons_zero]))
        refine wpAnyH_take (i := 20) (v := ?qvu16) rfl (by kernel_rfl) (by kernel_rfl) (by kernel_rfl) (fun _ _ _ h => h) (Or.inl ⟨by rfl, ?qyu16⟩) (by assumption) ?qru16; case qyu16 => ((intro w hSw; (try dsimp only at hSw); go_simp); try (with_reducible rfl))
        ((try simp only [List.getElem_toArray]); (try simp only [List.getElem_cons_succ]); (try simp only [List.getElem_cons_zero]); (try simp only [Act.put]); (try simp only [List.setIfInBounds_toArray]); (try simp only [List.set_cons_succ]); (try simp only [List.set_cons_zero]))
        refine wpAnyH_take (i := 21) (v := ?qvu17) rfl (by kernel_rfl) (by kernel_rfl) (by kernel_rfl) (fun _ _ _ h => h) (Or.inl ⟨by rfl, ?qyu17⟩) (by assumption) ?qru17; case qyu17 => ((intro w hSw; (try dsimp only at hSw); go_simp); try (with_reducible rfl))
        ((try simp only [List.getElem_toArray]); (try simp only [List.getElem_cons_succ]); (try simp only [List.getElem_cons_zero]); (try simp only [Act.put]); (try simp only [List.setIfInBounds_toArray]); (try simp only [List.set_cons_succ]); (try simp only [List.set_cons_zero]))
        refine wpAnyH_take (i := 23) (v := ?qvu18) rfl (by kernel_rfl) (by kernel_rfl) (by kernel_rfl) (fun _ _ _ h => h) (Or.inl ⟨by rfl, ?qyu18⟩) (by assumption) ?qru18; case qyu18 => ((intro w hSw; (try dsimp only at hSw); go_simp); try (with_reducible rfl))
        ((try simp only [List.getElem_toArray]); (try simp only [List.getElem_cons_succ]); (try simp only [List.getElem_cons_zero]); (try simp only [Act.put]); (try simp only [List.setIfInBounds_toArray]); (try simp only [List.set_cons_succ]); (try simp only [List.set_cons_zero]))
        refine wpAnyH_take (i := 24) (v := ?qvu19) rfl (by kernel_rfl) (by kernel_rfl) (by kernel_rfl) (fun _ _ _ h => h) (Or.inl ⟨by rfl, ?qyu19⟩) (by assumption) ?qru19; case qyu19 => ((intro w hSw; (try dsimp only at hSw); go_simp); try (with_reducible rfl))
        ((try simp only [List.getElem_toArray]); (try simp only [List.getElem_cons_succ]); (try simp only [List.getElem_cons_zero]); (try simp only [Act.put]); (try simp only [List.setIfInBounds_toArray]); (try simp only [List.set_cons_succ]); (try simp only [List.set_cons_zero]))
        refine wpAnyH_take (i := 25) (v := ?qvu20) rfl (by kernel_rfl) (by kernel_rfl) (by kernel_rfl) (fun _ _ _ h => h) (Or.inl ⟨by rfl, ?qyu20⟩) (by assumption) ?qru20; case qyu20 => ((intro w hSw; (try dsimp only at hSw); go_simp); try (with_reducible rfl))
        ((try simp only [List.getElem_toArray]); (try simp only [List.getElem_cons_succ]); (try simp only [List.getElem_cons_zero]); (try simp only [Act.put]); (try simp only [List.setIfInBounds_toArray]); (try simp only [List.set_cons_succ]); (try simp only [List.set_cons_zero]))
        refine wpAnyH_take (i := 26) (v := ?qvu21) rfl (by kernel_rfl) (by kernel_rfl) (by kernel_rfl) (fun _ _ _ h => h) (Or.inl ⟨by rfl, ?qyu21⟩) (by assumption) ?qru21; case qyu21 => ((intro w hSw; (try dsimp only at hSw); go_simp); try (with_reducible rfl))
        ((try simp only [List.getElem_toArray]); (try simp only [List.getElem_cons_succ]); (try simp only [List.getElem_cons_zero]); (try simp only [Act.put]); (try simp only [List.setIfInBounds_toArray]); (try simp only [List.set_cons_succ]); (try simp only [List.set_cons_zero]))
        refine wpAnyH_take (i := 27) (v := ?qvu22) rfl (by kernel_rfl) (by kernel_rfl) (by kernel_rfl) (fun _ _ _ h => h) (Or.inl ⟨by rfl, ?qyu22⟩) (by assumption) ?qru22; case qyu22 => ((intro w hSw; (try dsimp only at hSw); go_simp); try (with_reducible rfl))
        ((try simp only [List.getElem_toArray]); (try simp only [List.getElem_cons_succ]); (try simp only [List.getElem_cons_zero]); (try simp only [Act.put]); (try simp only [List.setIfInBounds_toArray]); (try simp only [List.set_cons_succ]); (try simp only [List.set_cons_zero]))
        refine wpAnyH_ready (rs := [22]) (by kernel_rfl) (by simp) ?_
        refine AllReadyH.cons rfl (fun K hK => ?_) AllReadyH.nil
        go_simp
        refine (load_to k t _ ac (by simpa using hk) (by omega) (by omega) (by simp [hk]) rfl).mono ?_
        rintro e v5 ⟨rfl, ac, k5⟩
        have br := br.trans (k5.below br.size (two_ge (by omega) (by omega)))
        refine hK.out _ _ (k5.cell hHeld (by unfold Two; simp; omega)) (fun hHeld => ?_)
        clear hK K
        ((try simp only [List.getElem_toArray]); (try simp only [List.getElem_cons_succ]); (try simp only [List.getElem_cons_zero]); (try simp only [Act.put]); (try simp only [List.setIfInBounds_toArray]); (try simp only [List.set_cons_succ]); (try simp only [List.set_cons_zero]))
        refine wpAnyH_take (i := 28) (v := ?qvu23) rfl (by kernel_rfl) (by kernel_rfl) (by kernel_rfl) (fun _ _ _ h => h) (Or.inl ⟨by rfl, ?qyu23⟩) (by assumption) ?qru23; case qyu23 => ((intro w hSw; (try dsimp only at hSw); go_simp); try (with_reducible rfl))
        ((try simp only [List.getElem_toArray]); (try simp only [List.getElem_cons_succ]); (try simp only [List.getElem_cons_zero]); (try simp only [Act.put]); (try simp only [List.setIfInBounds_toArray]); (try simp only [List.set_cons_succ]); (try simp only [List.set_cons_zero]))
        refine wpAnyH_take (i := 29) (v := ?qvu24) rfl (by kernel_rfl) (by kernel_rfl) (by kernel_rfl) (fun _ _ _ h => h) (Or.inl ⟨by rfl, ?qyu24⟩) (by assumption) ?qru24; case qyu24 => ((intro w hSw; (try dsimp only at hSw); go_simp); try (with_reducible rfl))
        ((try simp only [List.getElem_toArray]); (try simp only [List.getElem_cons_succ]); (try simp only [List.getElem_cons_zero]); (try simp only [Act.put]); (try simp only [List.setIfInBounds_toArray]); (try simp only [List.set_cons_succ]); (try simp only [List.set_cons_zero]))
        refine wpAnyH_take (i := 30) (v := ?qvu25) rfl (by kernel_rfl) (by kernel_rfl) (by kernel_rfl) (fun _ _ _ h => h) (Or.inl ⟨by rfl, ?qyu25⟩) (by assumption) ?qru25; case qyu25 => ((intro w hSw; (try dsimp only at hSw); go_simp); try (with_reducible rfl))
        ((try simp only [List.getElem_toArray]); (try simp only [List.getElem_cons_succ]); (try simp only [List.getElem_cons_zero]); (try simp only [Act.put]); (try simp only [List.setIfInBounds_toArray]); (try simp only [List.set_cons_succ]); (try simp only [List.set_cons_zero]))
        refine wpAnyH_ready (rs := [31]) (by kernel_rfl) (by simp) ?_
        refine AllReadyH.cons rfl (fun K hK => ?_) AllReadyH.nil
        go_simp
        refine (awake2_any _).mono ?_
        rintro e v6 ⟨rfl, b6⟩
        have br := br.trans (b6.mono br.size)
        refine hK.out _ _ (awake_keep b6 hHeld) (fun hHeld => ?_)
        clear hK K
        ((try simp only [List.getElem_toArray]); (try simp only [List.getElem_cons_succ]); (try simp only [List.getElem_cons_zero]); (try simp only [Act.put]); (try simp only [List.setIfInBounds_toArray]); (try simp only [List.set_cons_succ]); (try simp only [List.set_cons_zero]))
        refine wpAnyH_take (i := 32) (v := ?qvu26) rfl (by kernel_rfl) (by kernel_rfl) (by kernel_rfl) (fun _ _ _ h => h) (Or.inl ⟨by rfl, ?qyu26⟩) (by assumption) ?qru26; case qyu26 => ((intro w hSw; (try dsimp only at hSw); go_simp); try (with_reducible rfl))
        ((try simp only [List.getElem_toArray]); (try simp only [List.getElem_cons_succ]); (try simp only [List.getElem_cons_zero]); (try simp only [Act.put]); (try simp only [List.setIfInBounds_toArray]); (try simp only [List.set_cons_succ]); (try simp only [List.set_cons_zero]))
        refine wpAnyH_take (i := 33) (v := ?qvu27) rfl (by kernel_rfl) (by kernel_rfl) (by kernel_rfl) (fun _ _ _ h => h) (Or.inl ⟨by rfl, ?qyu27⟩) (by assumption) ?qru27; case qyu27 => ((intro w hSw; (try dsimp only at hSw); go_simp); try (with_reducible rfl))
        ((try simp only [List.getElem_toArray]); (try simp only [List.getElem_cons_succ]); (try simp only [List.getElem_cons_zero]); (try simp only [Act.put]); (try simp only [List.setIfInBounds_toArray]); (try simp only [List.set_cons_succ]); (try simp only [List.set_cons_zero]))
        refine wpAnyH_done (by kernel_rfl) ?_ _
        go_wp2
        go_ret
        exact ⟨rfl, br⟩
theorem own : ownKnob Try.prog.godebug = none := by kernel_rfl
theorem laidOut : laidOutB Try.prog = true := by kernel_rfl
set_option maxRecDepth 100000 in
theorem lifted (os : Os) (started : os.Started) (H : Type) (enc : TypeId × Value → H) :
    ReturnsInHanded {} Try.checked os 4 .any (Rows.arenaLentSpec.pre6 enc Try.prog Try.f4 Rows.arenaLentRow.domain false) (Rows.arenaLentSpec.post enc Try.prog Try.f4 false true false false) := by
  refine returnsInHanded_of_change (C := Try.checked) own started (by kernel_rfl) Try.func4
    (ChangeSpec.witness6 (enc := enc) (C := Try.checked) false ⟨#[], #[.slice none 0 0, .int .i64 0], []⟩ 8 (by kernel_rfl) (by kernel_rfl) (by kernel_rfl) (by kernel_rfl)) ?_
  intro W base args ds gs before hval0 hW hcnd _
  have hval : ∀ (j : Nat) t v, Try.f4.params[j]? = some t → args[j]? = some v → Value.okWide Try.prog W .any base t v := hval0
  have hW' := hW
  obtain ⟨p, q, hA0, hV, rfl, hfz, hnd⟩ := hW
  have hA : DataW.TrodAll enc Try.prog W 0 (fun _ => true) true Try.f4.params.toList args.toList ds p := hA0
  rw [Try.params4] at hA hval
  obtain ⟨v0, vs0, d0, ds0, p0, q0, hargs, rfl, rfl, h0, r0⟩ := trodAll_cons hA
  obtain ⟨v1, vs1, d1, ds1, p1, q1, rfl, rfl, rfl, h1, r1⟩ := trodAll_cons r0
  obtain ⟨rfl, rfl, rfl⟩ := trodAll_nil r1
  obtain rfl : args = #[v0, v1] := by cases args; simp_all
  obtain ⟨rfl, rfl⟩ := trodVars_none hV
  obtain ⟨a0, len0, cap0, rfl⟩ := okWide_slice Try.underlying23 (hval 0 23 v0 rfl rfl)
  have k0 := h0
  have lt0 : ∀ x ∈ p0, x.block < W.heap.size := by obtain ⟨m, hm⟩ := k0; exact DataW.trod_lt m _ _ _ hm
  obtain ⟨z0, w0⟩ : ∃ zs, IsRow .u64 W a0 len0 cap0 zs := is_row Try.underlying23 Try.underlying22 (by kernel_rfl) h0
  obtain ⟨a1, rfl, rfl, rfl, w1⟩ := open_int Try.underlying3 (hval 1 3 v1 rfl rfl) h1
  clear hA0 hval0
  refine (walk a0 len0 cap0 z0 a1 W w0 w1).mono fun e W' ⟨he, bel⟩ => ?_
  subst he
  exact ⟨_, rfl, _, _, _, [], _, [], hW', trodAll_mk1 (shut_bool Try.underlying4 _), (trodAll_cons_mk (Below.trod laidOut (by kernel_rfl) (of_decide_eq_true (by kernel_rfl)) k0 bel lt0) (trodAll_cons_mk (shut_int Try.underlying3 w1) trodAll_mk0)), rfl, bel.frame _, fun h => by cases h⟩
theorem over : Rows.arenaLentRow.holds Try.pinned (OpenSpec.ofChange Rows.arenaLentSpec) :=
  OpenClaim.holds_of_wide 4 Try.f4 rfl rfl rfl rfl rfl rfl rfl ⟨rfl, rfl, rfl, rfl, rfl⟩ rfl rfl rfl rfl rfl (by kernel_rfl) Try.func4 (by kernel_rfl)
    (of_decide_eq_true (by kernel_rfl)) (by unfold Func.isWrapper; first | (rw [if_pos (by decide +kernel)]; kernel_rfl) | (rw [if_neg (by decide +kernel)]; exact ⟨rfl, rfl⟩))
    (fun os started H enc _ => lifted os started H enc)
theorem proved : Rows.ArenaLentSaid := over
#print axioms proved
end Go.Proofs.Ytcfalcjefdgahaa.arenaLent
