/- Proved here: vinculumlaw8.MayFirst returns true and leaves its arguments as they were, for any three ints and any word; no further condition. -/
import Derived.Test.YtdkgngdfehllcaaMayW
import Derived.Test.YtdkgngdfehllcaaApp
import Derived.ChangeOld
import Derived.Deep.CutRange
import Derived.Deep.CutBlock
import Derived.Deep.LoopGhost
import Derived.Deep.RegionHeld3
import Derived.WalkArith
namespace Go.Proofs.Ytdkgngdfehllcaa.mayFirst
open Go.ChangeShapes Go.WideShapes Go.ChangeAt Go.RowKit
set_option linter.unusedVariables false

/-- The elder words. -/
def el (a : Int) (k : Nat) : List Int := (List.range k).map (fun (i : Nat) => a - (i : Int) % 8)
theorem el_len (a : Int) (k : Nat) : (el a k).length = k := by simp [el]
theorem el_succ (a : Int) (k : Nat) : el a (k + 1) = el a k ++ [a - (k : Int) % 8] := by simp [el, List.range_succ]
theorem el_in (a : Int) (k : Nat) : ∀ x ∈ el a k, a - 7 ≤ x ∧ x ≤ a := by
  intro x hx
  simp [el] at hx
  obtain ⟨i, _, rfl⟩ := hx
  omega
theorem el_first (L : Int → Option Tx) (a : Int) (h : a ≤ 300) (zs : List Int) (hz : ∀ x ∈ zs, x ≤ a) : firstI L zs 3 a = true := by
  unfold firstI
  rw [List.all_eq_true]
  intro x hx
  have := hz x hx
  rw [oneI_time (by unfold rdK; rw [if_pos (by omega)])]
  exact decide_eq_true this
theorem all_first (L : Int → Option Tx) (a o : Int) (h : a ≤ 300) (zs : List Int) (hz : ∀ x ∈ zs, x ≤ a) (k : Nat) (wt : Bool) (ho : oneI L 3 a o = wt) : firstI L (zs.take k ++ [o] ++ zs.drop k) 3 a = wt := by
  have h1 : firstI L (zs.take k) 3 a = true := el_first L a h _ (fun x hx => hz x (List.mem_of_mem_take hx))
  have h2 : firstI L (zs.drop k) 3 a = true := el_first L a h _ (fun x hx => hz x (List.mem_of_mem_drop hx))
  unfold firstI at *
  simp [h1, h2, ho]
theorem odd_txn (s a o : Int) (h0 : 1 ≤ o) (h1 : o ≤ 100) (hm : o ≠ 3) : oneI (fun _ => some ⟨1, s, 1, 0⟩) 3 a (4611686018427387904 + o) = (decide (s = 4) || decide (s = 5)) := by
  have k : rdK (4611686018427387904 + o) = 2 := by unfold rdK; rw [if_neg (by omega), if_neg (by omega), if_pos (by omega)]
  have n : rdN (4611686018427387904 + o) = o := by unfold rdN; rw [if_neg (by omega), if_pos (by omega)]; omega
  rw [oneI_txn k, n]
  simp [hm]
theorem odd_own (L : Int → Option Tx) (a : Int) : oneI L 3 a 4611686018427387907 = true := by
  have k : rdK 4611686018427387907 = 2 := rfl
  have n : rdN 4611686018427387907 = 3 := rfl
  rw [oneI_txn k, n]
  simp
theorem odd_late (L : Int → Option Tx) (a : Int) (h : a ≤ 300) : oneI L 3 a (a + 1) = false := by
  rw [oneI_time (by unfold rdK; rw [if_pos (by omega)])]
  exact decide_eq_false (by omega)
theorem out9 {B : Nat} {w : World} {v : Value} {zs : List Int} (h : OwnU B w v zs) : ∃ A c, v = .slice A zs.length c ∧ (A = none → zs = [] ∧ c = 0) ∧ ∀ ad, A = some ad → ∃ g, ad = ⟨g, 0, none⟩ := by
  obtain ⟨h1, h2⟩ := id h
  rcases h2 with ⟨h3, h4⟩ | ⟨g, c, cur, hv, _⟩
  · exact ⟨none, 0, by rw [h4]; exact h3, fun _ => ⟨List.length_eq_zero_iff.1 h4, rfl⟩, fun ad h => by cases h⟩
  · exact ⟨some ⟨g, 0, none⟩, c, hv, fun h => (by cases h), fun ad h => by cases h; exact ⟨g, rfl⟩⟩
def Rel (w : World) (a : Int) (n k : Nat) (v i : Value) (wr : World) : Prop := k ≤ n ∧ i = .int .i64 k ∧ OwnU w.heap.size wr v (el a k) ∧ Below w.heap.size w wr
/-- Behind the switch. -/
def RelS (w W1 : World) (G : Nat) (a : Int) (q u : Value) (wr : World) : Prop := ∃ o wt s, q = .int .u64 o ∧ u = .bool wt ∧ 0 ≤ o ∧ o ≤ 18446744073709551615 ∧ oneI (fun _ => some ⟨1, s, 1, 0⟩) 3 a o = wt ∧ wr.cell? ⟨G, 0, none⟩ = some (.int .i64 s) ∧ Keep (fun j => j = G) W1 wr
theorem one_cap {B : Nat} {w : World} {v : Value} {o : Int} (h : OwnU B w v [o]) : ∃ g c, v = .slice (some ⟨g, 0, none⟩) 1 c ∧ 1 ≤ c := by
  obtain ⟨_, h2⟩ := id h
  rcases h2 with ⟨_, h2⟩ | ⟨g, c, cur, hv, _, _, hc, _⟩
  · simp at h2
  · exact ⟨g, c, hv, hc⟩
theorem lit1 (W : World) (o : Int) : ∃ W', W.alloc (.cells #[.int .u64 o] 22) = W' ∧ W'.cell? ⟨W.heap.size, 0, none⟩ = some (.int .u64 o) ∧ Keep (fun _ => False) W W' ∧ W.heap.size < W'.heap.size :=
  ⟨_, rfl, by simp, Keep.alloc (Keep.refl _ _) _, by simp⟩
theorem emp (W : World) {B : Nat} (hB : B ≤ W.heap.size) : ∃ W', W.alloc (.cells #[] 22) = W' ∧ OwnU B W' (.slice (some ⟨W.heap.size, 0, none⟩) 0 0) [] ∧ Keep (fun _ => False) W W' ∧ W.heap.size < W'.heap.size :=
  ⟨_, rfl, own_empty hB, Keep.alloc (Keep.refl _ _) _, by simp⟩
set_option maxRecDepth 100000 in
set_option maxHeartbeats 8000000 in
theorem walk (a0 a1 a2 a3 : Int) (w : World) (w0 : (Lit.int .i64 a0).wf = true) (w1 : (Lit.int .u64 a1).wf = true) (w2 : (Lit.int .i64 a2).wf = true) (w3 : (Lit.int .i64 a3).wf = true) :
    Calls Try.prog 14 #[.int .i64 a0, .int .u64 a1, .int .i64 a2, .int .i64 a3] w fun e w' => e = .returned (.bool true) ∧ Below w.heap.size w w' := by
  obtain ⟨p0, p1⟩ := bounds_u64 w1
  have h0 := i64_mask8 a0
  have h1 := u64_mask8 a1 p0 p1
  have h2 := i64_mask8 a2
  have h3 := i64_mask2 a3
  obtain ⟨q0, eq0⟩ : ∃ q, a0 % 256 = q := ⟨_, rfl⟩
  obtain ⟨n, en⟩ : ∃ n : Nat, q0 % 11 = (n : Int) := ⟨(q0 % 11).toNat, by omega⟩
  obtain ⟨t, et⟩ : ∃ t, a1 % 256 = t := ⟨_, rfl⟩
  obtain ⟨a, ea⟩ : ∃ a, t + 10 = a := ⟨_, rfl⟩
  obtain ⟨q2, eq2⟩ : ∃ q, a2 % 256 = q := ⟨_, rfl⟩
  obtain ⟨k, ek⟩ : ∃ k : Nat, q2 % ((n : Int) + 1) = (k : Int) := ⟨(q2 % ((n : Int) + 1)).toNat, by have := Int.emod_nonneg q2 (show (n : Int) + 1 ≠ 0 by omega); omega⟩
  obtain ⟨y, ey⟩ : ∃ y, a3 % 4 = y := ⟨_, rfl⟩
  rw [eq0] at h0
  rw [et] at h1
  rw [eq2] at h2
  rw [ey] at h3
  have kn : k ≤ n := by have := Int.emod_lt_of_pos q2 (show (0 : Int) < (n : Int) + 1 by omega); omega
  have n10 : n ≤ 10 := by omega
  have ab : 10 ≤ a ∧ a ≤ 265 := by omega
  have yb : y = 0 ∨ y = 1 ∨ y = 2 ∨ y = 3 := by omega
  have e0 : q0.tmod 11 = (n : Int) := by rw [Int.tmod_eq_emod_of_nonneg (by omega)]; exact en
  have e2 : q2.tmod ((n : Int) + 1) = (k : Int) := by rw [Int.tmod_eq_emod_of_nonneg (by omega)]; exact ek
  have wt : IntKind.u64.wrap (t + 10) = a := by rw [IntWalk.u64_in _ (by omega)]; exact ea
  have wn : IntKind.i64.wrap ((n : Int) + 1) = (n : Int) + 1 := IntWalk.i64_in _ (by omega)
  have wn0 : IntKind.i64.wrap (n : Int) = (n : Int) := IntWalk.i64_in _ (by omega)
  have wk0 : IntKind.i64.wrap (k : Int) = (k : Int) := IntWalk.i64_in _ (by omega)
  clear eq0 en et ea eq2 ek ey w0 w1 w2 w3 p0 p1
  go_enter Try.func14, Try.ntmps14
  go_wp2_with fail
  go_loopw [9, 10] (fun v i wr => ∃ j : Nat, Rel w a n j v i wr) (fun _ i _ => n - (intOf i).toNat)
  case atStart => exact ⟨0, Nat.zero_le _, rfl, World.ownsRow_nil _ _ _ _, Below.refl _ _⟩
  case round =>
    obtain ⟨j, jl, rfl, ho, hb⟩ := hrel
    by_cases hlt : j < n
    · have hS := el_succ a j
      have hm := u64_mask3 (j : Int) (by omega) (by omega)
      obtain ⟨r, er⟩ : ∃ r, (j : Int) % 8 = r := ⟨_, rfl⟩
      rw [er] at hm hS
      have rb : 0 ≤ r ∧ r ≤ 7 := by omega
      have wj : IntKind.u64.wrap (j : Int) = (j : Int) := IntWalk.u64_in _ (by omega)
      have ws : IntKind.u64.wrap (a - r) = a - r := IntWalk.u64_in _ (by omega)
      have wk : IntKind.i64.wrap ((j : Int) + 1) = (j : Int) + 1 := IntWalk.i64_in _ (by omega)
      have HS := Lib.hid hS
      have len := el_len a j
      clear er hS
      go_wp2_with (with_reducible refine wp_stop 35 rfl ?_)
      intro _
      refine wp_push rfl (.tmp 28) (.tmp 34) rfl w.heap.size hb.size u9 (el a j) rfl ho (a - r) rfl (by rw [len]; omega) ?_
      intro g c w4 o4 k4 hg
      rw [len] at o4
      have bk : Below w.heap.size wr w4 := k4.below hb.size (fun x hx => (OwnU.lt ho hx).1)
      rw [len]
      go_wp2
      go_roundw
      case rel => exact ⟨j + 1, by omega, by go_num, by rw [HS.out]; exact o4, hb.trans bk⟩
      case measure => simp [intOf]; omega
    · obtain rfl : n = j := by omega
      clear h0 h1 hlt jl e0
      have len := el_len a n
      have hin := el_in a n
      obtain ⟨A, c, rfl, hA0, hA1⟩ := out9 ho
      rw [len] at ho ⊢
      go_upto_block 2 with fail
      obtain ⟨W1, eW1, cG, fG, k1⟩ : ∃ W1, wr.alloc (.cells #[.int .i64 1] 3) = W1 ∧ W1.cell? ⟨wr.heap.size, 0, none⟩ = some (.int .i64 1) ∧ W1.frozen? ⟨wr.heap.size, 0, none⟩ = false ∧ Keep (fun _ => False) wr W1 := ⟨_, rfl, by simp, by simp, Keep.alloc (Keep.refl _ _) _⟩
      rw [eW1]
      have hG : wr.heap.size < W1.heap.size := lt_of_cell cG
      clear eW1
      obtain ⟨G, eG⟩ : ∃ G, wr.heap.size = G := ⟨_, rfl⟩
      rw [eG] at cG fG hG ⊢
      go_cut [12, 13] from 36 to 45 (fun q u wx => RelS w W1 G a q u wx)
      case first =>
        rcases yb with rfl | rfl | rfl | rfl
        · have wa : IntKind.u64.wrap (a + 1) = a + 1 := IntWalk.u64_in _ (by omega)
          go_wp2_with fail
          go_meet
          case rel => exact ⟨_, _, 1, rfl, rfl, by omega, by omega, odd_late _ a (by omega), cG, Keep.refl _ _⟩
        · go_wp2_with fail
          go_meet
          case rel => exact ⟨_, _, 1, rfl, rfl, by omega, by omega, odd_txn 1 a 9 (by omega) (by omega) (by omega), cG, Keep.refl _ _⟩
        · go_wp2_with fail
          go_meet
          case rel => exact ⟨_, _, 4, rfl, rfl, by omega, by omega, odd_txn 4 a 9 (by omega) (by omega) (by omega), World.cell?_setCell_same _ _ _ cG, Keep.setCell (S := fun j => j = G) (Keep.refl _ _) (p := ⟨G, 0, none⟩) rfl _⟩
        · go_wp2_with fail
          go_meet
          case rel => exact ⟨_, _, 1, rfl, rfl, by omega, by omega, odd_own _ a, cG, Keep.refl _ _⟩
      case rest =>
      obtain ⟨o, wt', s, rfl, rfl, o0, o1, hodd, cS, kS⟩ := hcut
      clear cG fG yb h3
      have kc : Keep (fun j => j = G) wr wc := (k1.mono (fun _ h => h.elim)).trans kS
      have bc : Below w.heap.size w wc := hb.trans (kc.below hb.size (fun j hj => by rw [hj, ← eG]; exact hb.size))
      have ho : OwnU w.heap.size wc (.slice A n c) (el a n) := OwnU.keep ho kc (fun g hg => by have := (OwnU.lt ho hg).2; omega)
      clear k1 kS kc hb
      have len' := el_len a n
      have hrow : IsRow .u64 wc A n c (el a n) := by
        have := OwnU.row (A := A) (c := c) (zs := el a n) (by rw [len']; exact ho) (fun x hx => WalkArith.wf_u64 (by have := hin x hx; omega))
        rwa [len'] at this
      have hS : OneAt G s wc := cS
      have hf := el_first (fun _ => some ⟨1, s, 1, 0⟩) a (by omega) (el a n) (fun x hx => (hin x hx).2)
      go_wp2_with fail
      refine (pfirst_to (looks_first G s) hS (el a n) hrow 3 a true hf).mono ?_
      rintro e z1 ⟨rfl, b1⟩
      have hS1 := (looks_first G s).stay hS b1
      have ho1 : OwnU w.heap.size z1 (.slice A n c) (el a n) := OwnU.keep ho (Keep.of_below b1 (fun _ => False)) (by simp)
      have bz := thru bc b1
      clear hS ho hrow hf b1 bc cS hG
      have HW := Lib.hid (show ∀ x ∈ (el a n).take k ++ [o] ++ (el a n).drop k, (Lit.int .u64 x).wf = true from fun x hx => by
        rw [List.mem_append, List.mem_append, List.mem_singleton] at hx
        rcases hx with (hx | rfl) | hx
        · exact WalkArith.wf_u64 (by have := hin x (List.mem_of_mem_take hx); omega)
        · exact WalkArith.wf_u64 ⟨o0, o1⟩
        · exact WalkArith.wf_u64 (by have := hin x (List.mem_of_mem_drop hx); omega))
      have gG : G < z1.heap.size := lt_of_cell hS1
      have hall := all_first (fun _ => some ⟨1, s, 1, 0⟩) a o (by omega) (el a n) (fun x hx => (hin x hx).2) k wt' hodd
      have HA := Lib.hid hall
      clear hall
      cases A with
      | none =>
        obtain ⟨hz, rfl⟩ := hA0 rfl
        have n0 : n = 0 := by rw [← len', hz]; rfl
        subst n0
        obtain rfl : k = 0 := by omega
        have HW := Lib.hid (show ∀ x ∈ [o], (Lit.int .u64 x).wf = true from fun x hx => by obtain rfl := List.mem_singleton.1 hx; exact WalkArith.wf_u64 ⟨o0, o1⟩)
        have HA : RowKit.Hid (firstI (fun _ => some ⟨1, s, 1, 0⟩) [o] 3 a = wt') := Lib.hid (by have := HA.out; rw [hz] at this; exact this)
        clear hA1 hin len len' ho1 hA0
        go_wp2_with fail
        have kz : Keep (fun j => z1.heap.size ≤ j) z1 z1.drew := (Keep.refl _ _).drew
        refine wp_region_held_drew (S := (fun _ => True)) (by kernel_rfl) trivial (fun hHeld => ?_)
        generalize z1.drew = Z at kz ⊢
        obtain ⟨H, eH⟩ : ∃ H, z1.heap.size = H := ⟨_, rfl⟩
        rw [eH] at kz
        have sZ : H ≤ Z.heap.size := by rw [← eH]; exact kz.size
        refine wpAnyH_take (i := 1) (v := ?qve1) rfl (by kernel_rfl) (by kernel_rfl) (by kernel_rfl) (fun _ _ _ h => h) (Or.inl ⟨by rfl, ?qye1⟩) (by assumption) ?qre1; case qye1 => ((intro w hSw; (try dsimp only at hSw); go_simp); try (with_reducible rfl))
        ((try simp only [List.getElem_toArray]); (try simp only [List.getElem_cons_succ]); (try simp only [List.getElem_cons_zero]); (try simp only [Act.put]); (try simp only [List.setIfInBounds_toArray]); (try simp only [List.set_cons_succ]); (try simp only [List.set_cons_zero]))
        refine wpAnyH_take (i := 2) (v := ?qve2) rfl (by kernel_rfl) (by kernel_rfl) (by kernel_rfl) (fun _ _ _ h => h) (Or.inl ⟨by rfl, ?qye2⟩) (by assumption) ?qre2; case qye2 => ((intro w hSw; (try dsimp only at hSw); go_simp); try (with_reducible rfl))
        ((try simp only [List.getElem_toArray]); (try simp only [List.getElem_cons_succ]); (try simp only [List.getElem_cons_zero]); (try simp only [Act.put]); (try simp only [List.setIfInBounds_toArray]); (try simp only [List.set_cons_succ]); (try simp only [List.set_cons_zero]))
        refine wpAnyH_take (i := 3) (v := ?qve3) rfl (by kernel_rfl) (by kernel_rfl) (by kernel_rfl) (fun _ _ _ h => h) (Or.inl ⟨by rfl, ?qye3⟩) (by assumption) ?qre3; case qye3 => ((intro w hSw; (try dsimp only at hSw); go_simp); try (with_reducible rfl))
        ((try simp only [List.getElem_toArray]); (try simp only [List.getElem_cons_succ]); (try simp only [List.getElem_cons_zero]); (try simp only [Act.put]); (try simp only [List.setIfInBounds_toArray]); (try simp only [List.set_cons_succ]); (try simp only [List.set_cons_zero]))
        refine wpAnyH_take (i := 5) (v := ?qve5) rfl (by kernel_rfl) (by kernel_rfl) (by kernel_rfl) (fun _ _ _ h => h) (Or.inl ⟨by rfl, ?qye5⟩) (by assumption) ?qre5; case qye5 => ((intro w hSw; (try dsimp only at hSw); go_simp); try (with_reducible rfl))
        ((try simp only [List.getElem_toArray]); (try simp only [List.getElem_cons_succ]); (try simp only [List.getElem_cons_zero]); (try simp only [Act.put]); (try simp only [List.setIfInBounds_toArray]); (try simp only [List.set_cons_succ]); (try simp only [List.set_cons_zero]))
        refine wpAnyH_take (i := 8) (v := ?qve8) rfl (by kernel_rfl) (by kernel_rfl) (by kernel_rfl) (fun _ _ _ h => h) (Or.inl ⟨by rfl, ?qye8⟩) (by assumption) ?qre8; case qye8 => ((intro w hSw; (try dsimp only at hSw); go_simp); try (with_reducible rfl))
        ((try simp only [List.getElem_toArray]); (try simp only [List.getElem_cons_succ]); (try simp only [List.getElem_cons_zero]); (try simp only [Act.put]); (try simp only [List.setIfInBounds_toArray]); (try simp only [List.set_cons_succ]); (try simp only [List.set_cons_zero]))
        refine wpAnyH_take (i := 9) (v := ?qve9) rfl (by kernel_rfl) (by kernel_rfl) (by kernel_rfl) (fun _ _ _ h => h) (Or.inl ⟨by rfl, ?qye9⟩) (by assumption) ?qre9; case qye9 => ((intro w hSw; (try dsimp only at hSw); go_simp); try (with_reducible rfl))
        ((try simp only [List.getElem_toArray]); (try simp only [List.getElem_cons_succ]); (try simp only [List.getElem_cons_zero]); (try simp only [Act.put]); (try simp only [List.setIfInBounds_toArray]); (try simp only [List.set_cons_succ]); (try simp only [List.set_cons_zero]))
        refine wpAnyH_take (i := 10) (v := ?qve10) rfl (by kernel_rfl) (by kernel_rfl) (by kernel_rfl) (fun _ _ _ h => h) (Or.inl ⟨by rfl, ?qye10⟩) (by assumption) ?qre10; case qye10 => ((intro w hSw; (try dsimp only at hSw); go_simp); try (with_reducible rfl))
        ((try simp only [List.getElem_toArray]); (try simp only [List.getElem_cons_succ]); (try simp only [List.getElem_cons_zero]); (try simp only [Act.put]); (try simp only [List.setIfInBounds_toArray]); (try simp only [List.set_cons_succ]); (try simp only [List.set_cons_zero]))
        refine wpAnyH_ready (rs := [0, 6]) (by kernel_rfl) (by simp) ?_
        refine AllReadyH.cons rfl (fun K hK => ?_) (AllReadyH.cons rfl (fun K hK => ?_) AllReadyH.nil)
        · go_simp; refine hK.out _ _ trivial (fun hHeld => ?_); clear hK K; obtain ⟨Y, eX, hE, kE, lE⟩ := emp Z sZ; rw [eX]; clear eX; have ky := kz.trans (kE.mono (T := fun j => H ≤ j) (fun _ h => h.elim)); have sY : H ≤ Y.heap.size := (by omega)
          ((try simp only [List.getElem_toArray]); (try simp only [List.getElem_cons_succ]); (try simp only [List.getElem_cons_zero]); (try simp only [Act.put]); (try simp only [List.setIfInBounds_toArray]); (try simp only [List.set_cons_succ]); (try simp only [List.set_cons_zero]))
          refine wpAnyH_ready (rs := [4, 6]) (by kernel_rfl) (by simp) ?_
          refine AllReadyH.cons rfl (fun K hK => ?_) (AllReadyH.cons rfl (fun K hK => ?_) AllReadyH.nil)
          · go_simp; refine hK.out _ _ trivial (fun hHeld => ?_); clear hK K
            ((try simp only [List.getElem_toArray]); (try simp only [List.getElem_cons_succ]); (try simp only [List.getElem_cons_zero]); (try simp only [Act.put]); (try simp only [List.setIfInBounds_toArray]); (try simp only [List.set_cons_succ]); (try simp only [List.set_cons_zero]))
            refine wpAnyH_ready (rs := [6]) (by kernel_rfl) (by simp) ?_
            refine AllReadyH.cons rfl (fun K hK => ?_) AllReadyH.nil
            go_simp; refine hK.out _ _ trivial (fun hHeld => ?_); clear hK K; obtain ⟨X, eX, cO, kL, lL⟩ := lit1 Y o; rw [eX]; clear eX; have kx := ky.trans (kL.mono (T := fun j => H ≤ j) (fun _ h => h.elim)); have sX : H ≤ X.heap.size := (by omega)
            have hE := OwnU.keep hE kL (by simp)
            ((try simp only [List.getElem_toArray]); (try simp only [List.getElem_cons_succ]); (try simp only [List.getElem_cons_zero]); (try simp only [Act.put]); (try simp only [List.setIfInBounds_toArray]); (try simp only [List.set_cons_succ]); (try simp only [List.set_cons_zero]))
            refine wpAnyH_ready (rs := [7]) (by kernel_rfl) (by simp) ?_; refine AllReadyH.cons rfl (fun K hK => ?_) AllReadyH.nil; refine step_app rfl (.tmp 61) (.tmp 63) rfl H sX (.slice (some ⟨Z.heap.size, 0, none⟩) 0 0) [] rfl hE ⟨Y.heap.size, 0, none⟩ 1 1 [o] rfl rfl (fun t ht => by (obtain rfl : t = 0 := (by simpa using ht)); simpa [Addr.add] using cO) (by simp) (by simp) ?_; intro v7 w7 o7 kr; rw [List.nil_append] at o7; obtain ⟨g7, c7, rfl, l7⟩ := one_cap o7; have k7 := kx.trans (kr.mono (T := fun j => H ≤ j) (fun j hj => (OwnU.lt hE hj).1)); refine hK.out _ _ trivial (fun hHeld => ?_); clear hK K
            ((try simp only [List.getElem_toArray]); (try simp only [List.getElem_cons_succ]); (try simp only [List.getElem_cons_zero]); (try simp only [Act.put]); (try simp only [List.setIfInBounds_toArray]); (try simp only [List.set_cons_succ]); (try simp only [List.set_cons_zero]))
            refine wpAnyH_ready (rs := [11]) (by kernel_rfl) (by simp) ?_
            refine AllReadyH.cons rfl (fun K hK => ?_) AllReadyH.nil
            go_simp; refine hK.out _ _ trivial (fun hHeld => ?_); clear hK K
            ((try simp only [List.getElem_toArray]); (try simp only [List.getElem_cons_succ]); (try simp only [List.getElem_cons_zero]); (try simp only [Act.put]); (try simp only [List.setIfInBounds_toArray]); (try simp only [List.set_cons_succ]); (try simp only [List.set_cons_zero]))
            refine wpAnyH_take (i := 12) (v := ?qve12a) rfl (by kernel_rfl) (by kernel_rfl) (by kernel_rfl) (fun _ _ _ h => h) (Or.inl ⟨by rfl, ?qye12a⟩) (by assumption) ?qre12a; case qye12a => ((intro w hSw; (try dsimp only at hSw); go_simp); try (with_reducible rfl))
            ((try simp only [List.getElem_toArray]); (try simp only [List.getElem_cons_succ]); (try simp only [List.getElem_cons_zero]); (try simp only [Act.put]); (try simp only [List.setIfInBounds_toArray]); (try simp only [List.set_cons_succ]); (try simp only [List.set_cons_zero]))
            refine wpAnyH_done (by kernel_rfl) ?_ _
            have hrow := OwnU.row o7 HW.out; have hS9 : OneAt G s w7 := k7.cell hS1 (by show ¬ H ≤ G; omega); have bf := bz.trans (k7.below bz.size (fun j hj => Nat.le_trans bz.size (by rw [eH]; exact hj))); have hall := HA.out; go_wp2_with fail; refine (pfirst_to (looks_first G s) hS9 [o] hrow 3 a wt' hall).mono ?_; rintro e y1 ⟨rfl, b7⟩; go_wp2_with fail; refine (awake8_any _).mono ?_; rintro e y2 ⟨rfl, b8⟩; go_wp2; go_ret; exact ⟨rfl, thru (thru bf b7) b8⟩
          · go_simp; refine hK.out _ _ trivial (fun hHeld => ?_); clear hK K; obtain ⟨X, eX, cO, kL, lL⟩ := lit1 Y o; rw [eX]; clear eX; have kx := ky.trans (kL.mono (T := fun j => H ≤ j) (fun _ h => h.elim)); have sX : H ≤ X.heap.size := (by omega)
            have hE := OwnU.keep hE kL (by simp)
            ((try simp only [List.getElem_toArray]); (try simp only [List.getElem_cons_succ]); (try simp only [List.getElem_cons_zero]); (try simp only [Act.put]); (try simp only [List.setIfInBounds_toArray]); (try simp only [List.set_cons_succ]); (try simp only [List.set_cons_zero]))
            refine wpAnyH_ready (rs := [4]) (by kernel_rfl) (by simp) ?_
            refine AllReadyH.cons rfl (fun K hK => ?_) AllReadyH.nil
            go_simp; refine hK.out _ _ trivial (fun hHeld => ?_); clear hK K
            ((try simp only [List.getElem_toArray]); (try simp only [List.getElem_cons_succ]); (try simp only [List.getElem_cons_zero]); (try simp only [Act.put]); (try simp only [List.setIfInBounds_toArray]); (try simp only [List.set_cons_succ]); (try simp only [List.set_cons_zero]))
            refine wpAnyH_ready (rs := [7]) (by kernel_rfl) (by simp) ?_; refine AllReadyH.cons rfl (fun K hK => ?_) AllReadyH.nil; refine step_app rfl (.tmp 61) (.tmp 63) rfl H sX (.slice (some ⟨Z.heap.size, 0, none⟩) 0 0) [] rfl hE ⟨Y.heap.size, 0, none⟩ 1 1 [o] rfl rfl (fun t ht => by (obtain rfl : t = 0 := (by simpa using ht)); simpa [Addr.add] using cO) (by simp) (by simp) ?_; intro v7 w7 o7 kr; rw [List.nil_append] at o7; obtain ⟨g7, c7, rfl, l7⟩ := one_cap o7; have k7 := kx.trans (kr.mono (T := fun j => H ≤ j) (fun j hj => (OwnU.lt hE hj).1)); refine hK.out _ _ trivial (fun hHeld => ?_); clear hK K
            ((try simp only [List.getElem_toArray]); (try simp only [List.getElem_cons_succ]); (try simp only [List.getElem_cons_zero]); (try simp only [Act.put]); (try simp only [List.setIfInBounds_toArray]); (try simp only [List.set_cons_succ]); (try simp only [List.set_cons_zero]))
            refine wpAnyH_ready (rs := [11]) (by kernel_rfl) (by simp) ?_
            refine AllReadyH.cons rfl (fun K hK => ?_) AllReadyH.nil
            go_simp; refine hK.out _ _ trivial (fun hHeld => ?_); clear hK K
            ((try simp only [List.getElem_toArray]); (try simp only [List.getElem_cons_succ]); (try simp only [List.getElem_cons_zero]); (try simp only [Act.put]); (try simp only [List.setIfInBounds_toArray]); (try simp only [List.set_cons_succ]); (try simp only [List.set_cons_zero]))
            refine wpAnyH_take (i := 12) (v := ?qve12b) rfl (by kernel_rfl) (by kernel_rfl) (by kernel_rfl) (fun _ _ _ h => h) (Or.inl ⟨by rfl, ?qye12b⟩) (by assumption) ?qre12b; case qye12b => ((intro w hSw; (try dsimp only at hSw); go_simp); try (with_reducible rfl))
            ((try simp only [List.getElem_toArray]); (try simp only [List.getElem_cons_succ]); (try simp only [List.getElem_cons_zero]); (try simp only [Act.put]); (try simp only [List.setIfInBounds_toArray]); (try simp only [List.set_cons_succ]); (try simp only [List.set_cons_zero]))
            refine wpAnyH_done (by kernel_rfl) ?_ _
            have hrow := OwnU.row o7 HW.out; have hS9 : OneAt G s w7 := k7.cell hS1 (by show ¬ H ≤ G; omega); have bf := bz.trans (k7.below bz.size (fun j hj => Nat.le_trans bz.size (by rw [eH]; exact hj))); have hall := HA.out; go_wp2_with fail; refine (pfirst_to (looks_first G s) hS9 [o] hrow 3 a wt' hall).mono ?_; rintro e y1 ⟨rfl, b7⟩; go_wp2_with fail; refine (awake8_any _).mono ?_; rintro e y2 ⟨rfl, b8⟩; go_wp2; go_ret; exact ⟨rfl, thru (thru bf b7) b8⟩
        · go_simp; refine hK.out _ _ trivial (fun hHeld => ?_); clear hK K; obtain ⟨X, eX, cO, kL, lL⟩ := lit1 Z o; rw [eX]; clear eX; have kx := kz.trans (kL.mono (T := fun j => H ≤ j) (fun _ h => h.elim)); have sX : H ≤ X.heap.size := (by omega)
          ((try simp only [List.getElem_toArray]); (try simp only [List.getElem_cons_succ]); (try simp only [List.getElem_cons_zero]); (try simp only [Act.put]); (try simp only [List.setIfInBounds_toArray]); (try simp only [List.set_cons_succ]); (try simp only [List.set_cons_zero]))
          refine wpAnyH_ready (rs := [0]) (by kernel_rfl) (by simp) ?_
          refine AllReadyH.cons rfl (fun K hK => ?_) AllReadyH.nil
          go_simp; refine hK.out _ _ trivial (fun hHeld => ?_); clear hK K; obtain ⟨Y, eX, hE, kE, lE⟩ := emp X sX; rw [eX]; clear eX; have ky := kx.trans (kE.mono (T := fun j => H ≤ j) (fun _ h => h.elim)); have sY : H ≤ Y.heap.size := (by omega)
          have cO := kE.cell cO (by simp)
          ((try simp only [List.getElem_toArray]); (try simp only [List.getElem_cons_succ]); (try simp only [List.getElem_cons_zero]); (try simp only [Act.put]); (try simp only [List.setIfInBounds_toArray]); (try simp only [List.set_cons_succ]); (try simp only [List.set_cons_zero]))
          refine wpAnyH_ready (rs := [4]) (by kernel_rfl) (by simp) ?_
          refine AllReadyH.cons rfl (fun K hK => ?_) AllReadyH.nil
          go_simp; refine hK.out _ _ trivial (fun hHeld => ?_); clear hK K
          ((try simp only [List.getElem_toArray]); (try simp only [List.getElem_cons_succ]); (try simp only [List.getElem_cons_zero]); (try simp only [Act.put]); (try simp only [List.setIfInBounds_toArray]); (try simp only [List.set_cons_succ]); (try simp only [List.set_cons_zero]))
          refine wpAnyH_ready (rs := [7]) (by kernel_rfl) (by simp) ?_; refine AllReadyH.cons rfl (fun K hK => ?_) AllReadyH.nil; refine step_app rfl (.tmp 61) (.tmp 63) rfl H sY (.slice (some ⟨X.heap.size, 0, none⟩) 0 0) [] rfl hE ⟨Z.heap.size, 0, none⟩ 1 1 [o] rfl rfl (fun t ht => by (obtain rfl : t = 0 := (by simpa using ht)); simpa [Addr.add] using cO) (by simp) (by simp) ?_; intro v7 w7 o7 kr; rw [List.nil_append] at o7; obtain ⟨g7, c7, rfl, l7⟩ := one_cap o7; have k7 := ky.trans (kr.mono (T := fun j => H ≤ j) (fun j hj => (OwnU.lt hE hj).1)); refine hK.out _ _ trivial (fun hHeld => ?_); clear hK K
          ((try simp only [List.getElem_toArray]); (try simp only [List.getElem_cons_succ]); (try simp only [List.getElem_cons_zero]); (try simp only [Act.put]); (try simp only [List.setIfInBounds_toArray]); (try simp only [List.set_cons_succ]); (try simp only [List.set_cons_zero]))
          refine wpAnyH_ready (rs := [11]) (by kernel_rfl) (by simp) ?_
          refine AllReadyH.cons rfl (fun K hK => ?_) AllReadyH.nil
          go_simp; refine hK.out _ _ trivial (fun hHeld => ?_); clear hK K
          ((try simp only [List.getElem_toArray]); (try simp only [List.getElem_cons_succ]); (try simp only [List.getElem_cons_zero]); (try simp only [Act.put]); (try simp only [List.setIfInBounds_toArray]); (try simp only [List.set_cons_succ]); (try simp only [List.set_cons_zero]))
          refine wpAnyH_take (i := 12) (v := ?qve12c) rfl (by kernel_rfl) (by kernel_rfl) (by kernel_rfl) (fun _ _ _ h => h) (Or.inl ⟨by rfl, ?qye12c⟩) (by assumption) ?qre12c; case qye12c => ((intro w hSw; (try dsimp only at hSw); go_simp); try (with_reducible rfl))
          ((try simp only [List.getElem_toArray]); (try simp only [List.getElem_cons_succ]); (try simp only [List.getElem_cons_zero]); (try simp only [Act.put]); (try simp only [List.setIfInBounds_toArray]); (try simp only [List.set_cons_succ]); (try simp only [List.set_cons_zero]))
          refine wpAnyH_done (by kernel_rfl) ?_ _
          have hrow := OwnU.row o7 HW.out; have hS9 : OneAt G s w7 := k7.cell hS1 (by show ¬ H ≤ G; omega); have bf := bz.trans (k7.below bz.size (fun j hj => Nat.le_trans bz.size (by rw [eH]; exact hj))); have hall := HA.out; go_wp2_with fail; refine (pfirst_to (looks_first G s) hS9 [o] hrow 3 a wt' hall).mono ?_; rintro e y1 ⟨rfl, b7⟩; go_wp2_with fail; refine (awake8_any _).mono ?_; rintro e y2 ⟨rfl, b8⟩; go_wp2; go_ret; exact ⟨rfl, thru (thru bf b7) b8⟩
      | some ad =>
        obtain ⟨gw, rfl⟩ := hA1 _ rfl
        have hcap : n ≤ c := by
          obtain ⟨_, h2⟩ := id ho1
          rcases h2 with ⟨h2, _⟩ | ⟨g', c', cur, hv, _, hh, hc, hm, _⟩
          · simp at h2
          · simp at hv; rw [hv.2.2, ← len']; exact hc
        have gz : gw < z1.heap.size := (OwnU.lt ho1 rfl).2
        clear hA0 hA1
        have ho2 : OwnU w.heap.size z1 (.slice (some ⟨gw, 0, none⟩) (el a n).length c) (el a n) := by rw [len']; exact ho1
        obtain ⟨ad, ead, had⟩ : ∃ ad : Addr, (if c = k then some ({ block := gw, off := 0 } : Addr) else some { block := gw, off := k }) = some ad ∧ (¬ c = k → ad = ⟨gw, k, none⟩) := by
          by_cases hc : c = k
          · exact ⟨⟨gw, 0, none⟩, by rw [if_pos hc], fun h => absurd hc h⟩
          · exact ⟨⟨gw, k, none⟩, by rw [if_neg hc], fun _ => rfl⟩
        have sk2 : (0 : Int) ≤ (k : Int) := by omega
        have sk4 : k ≤ c := by omega
        have ski : (k : Int) ≤ (n : Int) := by omega
        clear ho1 len' hin
        go_wp2_with fail
        have kz : Keep (fun j => z1.heap.size ≤ j) z1 z1.drew := (Keep.refl _ _).drew
        refine wp_region_held_drew (S := (fun _ => True)) (by kernel_rfl) trivial (fun hHeld => ?_)
        generalize z1.drew = Z at kz ⊢
        obtain ⟨H, eH⟩ : ∃ H, z1.heap.size = H := ⟨_, rfl⟩
        rw [eH] at kz gz
        have sZ : H ≤ Z.heap.size := by rw [← eH]; exact kz.size
        refine wpAnyH_take (i := 1) (v := ?qvf1) rfl (by kernel_rfl) (by kernel_rfl) (by kernel_rfl) (fun _ _ _ h => h) (Or.inl ⟨by rfl, ?qyf1⟩) (by assumption) ?qrf1; case qyf1 => ((intro w hSw; (try dsimp only at hSw); go_simp); try (with_reducible rfl))
        ((try simp only [List.getElem_toArray]); (try simp only [List.getElem_cons_succ]); (try simp only [List.getElem_cons_zero]); (try simp only [Act.put]); (try simp only [List.setIfInBounds_toArray]); (try simp only [List.set_cons_succ]); (try simp only [List.set_cons_zero]))
        refine wpAnyH_take (i := 2) (v := ?qvf2) rfl (by kernel_rfl) (by kernel_rfl) (by kernel_rfl) (fun _ _ _ h => h) (Or.inl ⟨by rfl, ?qyf2⟩) (by assumption) ?qrf2; case qyf2 => ((intro w hSw; (try dsimp only at hSw); go_simp); try (with_reducible rfl))
        ((try simp only [List.getElem_toArray]); (try simp only [List.getElem_cons_succ]); (try simp only [List.getElem_cons_zero]); (try simp only [Act.put]); (try simp only [List.setIfInBounds_toArray]); (try simp only [List.set_cons_succ]); (try simp only [List.set_cons_zero]))
        refine wpAnyH_take (i := 3) (v := ?qvf3) rfl (by kernel_rfl) (by kernel_rfl) (by kernel_rfl) (fun _ _ _ h => h) (Or.inl ⟨by rfl, ?qyf3⟩) (by assumption) ?qrf3; case qyf3 => ((intro w hSw; (try dsimp only at hSw); go_simp); try (with_reducible rfl))
        ((try simp only [List.getElem_toArray]); (try simp only [List.getElem_cons_succ]); (try simp only [List.getElem_cons_zero]); (try simp only [Act.put]); (try simp only [List.setIfInBounds_toArray]); (try simp only [List.set_cons_succ]); (try simp only [List.set_cons_zero]))
        refine wpAnyH_take (i := 5) (v := ?qvf5) rfl (by kernel_rfl) (by kernel_rfl) (by kernel_rfl) (fun _ _ _ h => h) (Or.inl ⟨by rfl, ?qyf5⟩) (by assumption) ?qrf5; case qyf5 => ((intro w hSw; (try dsimp only at hSw); go_simp); try (with_reducible rfl))
        ((try simp only [List.getElem_toArray]); (try simp only [List.getElem_cons_succ]); (try simp only [List.getElem_cons_zero]); (try simp only [Act.put]); (try simp only [List.setIfInBounds_toArray]); (try simp only [List.set_cons_succ]); (try simp only [List.set_cons_zero]))
        refine wpAnyH_take (i := 8) (v := ?qvf8) rfl (by kernel_rfl) (by kernel_rfl) (by kernel_rfl) (fun _ _ _ h => h) (Or.inl ⟨by rfl, ?qyf8⟩) (by assumption) ?qrf8; case qyf8 => ((intro w hSw; (try dsimp only at hSw); go_simp); try (with_reducible rfl))
        ((try simp only [List.getElem_toArray]); (try simp only [List.getElem_cons_succ]); (try simp only [List.getElem_cons_zero]); (try simp only [Act.put]); (try simp only [List.setIfInBounds_toArray]); (try simp only [List.set_cons_succ]); (try simp only [List.set_cons_zero]))
        refine wpAnyH_take (i := 9) (v := ?qvf9) rfl (by kernel_rfl) (by kernel_rfl) (by kernel_rfl) (fun _ _ _ h => h) (Or.inl ⟨by rfl, ?qyf9⟩) (by assumption) ?qrf9; case qyf9 => ((intro w hSw; (try dsimp only at hSw); go_simp); try (with_reducible rfl))
        ((try simp only [List.getElem_toArray]); (try simp only [List.getElem_cons_succ]); (try simp only [List.getElem_cons_zero]); (try simp only [Act.put]); (try simp only [List.setIfInBounds_toArray]); (try simp only [List.set_cons_succ]); (try simp only [List.set_cons_zero]))
        refine wpAnyH_take (i := 10) (v := ?qvf10) rfl (by kernel_rfl) (by kernel_rfl) (by kernel_rfl) (fun _ _ _ h => h) (Or.inl ⟨by rfl, ?qyf10⟩) (by assumption) ?qrf10; case qyf10 => ((intro w hSw; (try dsimp only at hSw); go_simp); try (with_reducible rfl))
        ((try simp only [List.getElem_toArray]); (try simp only [List.getElem_cons_succ]); (try simp only [List.getElem_cons_zero]); (try simp only [Act.put]); (try simp only [List.setIfInBounds_toArray]); (try simp only [List.set_cons_succ]); (try simp only [List.set_cons_zero]))
        have tw : ∀ (W : World), Keep (fun j => H ≤ j) z1 W → ∀ t, t < ((el a n).take k).length → W.cell? ((⟨gw, 0, none⟩ : Addr).add t) = some (.int .u64 (((el a n).take k).getD t 0)) := fun W kw => take_at ho2 (fun t u h => kw.cell h (by show ¬ H ≤ gw; omega)) k
        have dw : ∀ (W : World), Keep (fun j => H ≤ j) z1 W → ∀ t, t < ((el a n).drop k).length → W.cell? (ad.add t) = some (.int .u64 (((el a n).drop k).getD t 0)) := fun W kw => drop_at ho2 (fun t u h => kw.cell h (by show ¬ H ≤ gw; omega)) k had (by rw [len]; exact hcap)
        have tl : ((el a n).take k).length = k := by rw [List.length_take, len]; omega
        have dl : ((el a n).drop k).length = n - k := by rw [List.length_drop, len]
        refine wpAnyH_ready (rs := [0, 6]) (by kernel_rfl) (by simp) ?_
        refine AllReadyH.cons rfl (fun K hK => ?_) (AllReadyH.cons rfl (fun K hK => ?_) AllReadyH.nil)
        · go_simp; refine hK.out _ _ trivial (fun hHeld => ?_); clear hK K; obtain ⟨Y, eX, hE, kE, lE⟩ := emp Z sZ; rw [eX]; clear eX; have ky := kz.trans (kE.mono (T := fun j => H ≤ j) (fun _ h => h.elim)); have sY : H ≤ Y.heap.size := (by omega)
          ((try simp only [List.getElem_toArray]); (try simp only [List.getElem_cons_succ]); (try simp only [List.getElem_cons_zero]); (try simp only [Act.put]); (try simp only [List.setIfInBounds_toArray]); (try simp only [List.set_cons_succ]); (try simp only [List.set_cons_zero]))
          refine wpAnyH_ready (rs := [4, 6]) (by kernel_rfl) (by simp) ?_
          refine AllReadyH.cons rfl (fun K hK => ?_) (AllReadyH.cons rfl (fun K hK => ?_) AllReadyH.nil)
          · refine step_app rfl (.tmp 57) (.tmp 60) rfl H sY (.slice (some ⟨Z.heap.size, 0, none⟩) 0 0) [] rfl hE ⟨gw, 0, none⟩ k c ((el a n).take k) rfl tl (tw _ ky) (by simp) (by omega) ?_; intro v4 w4 o4 kq; rw [List.nil_append] at o4; have k4 := ky.trans (kq.mono (T := fun j => H ≤ j) (fun j hj => (OwnU.lt hE hj).1)); have s4 : H ≤ w4.heap.size := Nat.le_trans sY kq.size; refine hK.out _ _ trivial (fun hHeld => ?_); clear hK K
            ((try simp only [List.getElem_toArray]); (try simp only [List.getElem_cons_succ]); (try simp only [List.getElem_cons_zero]); (try simp only [Act.put]); (try simp only [List.setIfInBounds_toArray]); (try simp only [List.set_cons_succ]); (try simp only [List.set_cons_zero]))
            refine wpAnyH_ready (rs := [6]) (by kernel_rfl) (by simp) ?_
            refine AllReadyH.cons rfl (fun K hK => ?_) AllReadyH.nil
            go_simp; refine hK.out _ _ trivial (fun hHeld => ?_); clear hK K; obtain ⟨X, eX, cO, kL, lL⟩ := lit1 w4 o; rw [eX]; clear eX; have kx := k4.trans (kL.mono (T := fun j => H ≤ j) (fun _ h => h.elim)); have sX : H ≤ X.heap.size := (by omega)
            have o4 := OwnU.keep o4 kL (by simp)
            ((try simp only [List.getElem_toArray]); (try simp only [List.getElem_cons_succ]); (try simp only [List.getElem_cons_zero]); (try simp only [Act.put]); (try simp only [List.setIfInBounds_toArray]); (try simp only [List.set_cons_succ]); (try simp only [List.set_cons_zero]))
            refine wpAnyH_ready (rs := [7]) (by kernel_rfl) (by simp) ?_; refine AllReadyH.cons rfl (fun K hK => ?_) AllReadyH.nil; refine step_app rfl (.tmp 61) (.tmp 63) rfl H sX v4 ((el a n).take k) rfl o4 ⟨w4.heap.size, 0, none⟩ 1 1 [o] rfl rfl (fun t ht => by (obtain rfl : t = 0 := (by simpa using ht)); simpa [Addr.add] using cO) (by omega) (by simp) ?_; intro v7 w7 o7 kr; have k7 := kx.trans (kr.mono (T := fun j => H ≤ j) (fun j hj => (OwnU.lt o4 hj).1)); have s7 : H ≤ w7.heap.size := Nat.le_trans sX kr.size; refine hK.out _ _ trivial (fun hHeld => ?_); clear hK K
            ((try simp only [List.getElem_toArray]); (try simp only [List.getElem_cons_succ]); (try simp only [List.getElem_cons_zero]); (try simp only [Act.put]); (try simp only [List.setIfInBounds_toArray]); (try simp only [List.set_cons_succ]); (try simp only [List.set_cons_zero]))
            refine wpAnyH_ready (rs := [11]) (by kernel_rfl) (by simp) ?_; refine AllReadyH.cons rfl (fun K hK => ?_) AllReadyH.nil; refine step_app rfl (.tmp 64) (.tmp 67) rfl H s7 v7 ((el a n).take k ++ [o]) rfl o7 ad (n - k) (c - k) ((el a n).drop k) rfl dl (dw _ k7) (by simp; omega) (by omega) ?_; intro v9 w9 o9 ks; have k9 := k7.trans (ks.mono (T := fun j => H ≤ j) (fun j hj => (OwnU.lt o7 hj).1)); refine hK.out _ _ trivial (fun hHeld => ?_); clear hK K
            ((try simp only [List.getElem_toArray]); (try simp only [List.getElem_cons_succ]); (try simp only [List.getElem_cons_zero]); (try simp only [Act.put]); (try simp only [List.setIfInBounds_toArray]); (try simp only [List.set_cons_succ]); (try simp only [List.set_cons_zero]))
            refine wpAnyH_take (i := 12) (v := ?qvf12a) rfl (by kernel_rfl) (by kernel_rfl) (by kernel_rfl) (fun _ _ _ h => h) (Or.inl ⟨by rfl, ?qyf12a⟩) (by assumption) ?qrf12a; case qyf12a => ((intro w hSw; (try dsimp only at hSw); go_simp); try (with_reducible rfl))
            ((try simp only [List.getElem_toArray]); (try simp only [List.getElem_cons_succ]); (try simp only [List.getElem_cons_zero]); (try simp only [Act.put]); (try simp only [List.setIfInBounds_toArray]); (try simp only [List.set_cons_succ]); (try simp only [List.set_cons_zero]))
            refine wpAnyH_done (by kernel_rfl) ?_ _
            obtain ⟨A9, c9, rfl, _⟩ := out9 o9; have wfw := HW.out; have hall := HA.out; (obtain ⟨ws, ews⟩ : ∃ ws, (el a n).take k ++ [o] ++ (el a n).drop k = ws := ⟨_, rfl⟩); rw [ews] at o9 hall wfw ⊢; have hrow := OwnU.row o9 wfw; have hS9 : OneAt G s w9 := k9.cell hS1 (by show ¬ H ≤ G; omega); have bf := bz.trans (k9.below bz.size (fun j hj => Nat.le_trans bz.size (by rw [eH]; exact hj))); clear tw dw; go_wp2_with fail; refine (pfirst_to (looks_first G s) hS9 ws hrow 3 a wt' hall).mono ?_; rintro e y1 ⟨rfl, b7⟩; go_wp2_with fail; refine (awake8_any _).mono ?_; rintro e y2 ⟨rfl, b8⟩; go_wp2; go_ret; exact ⟨rfl, thru (thru bf b7) b8⟩
          · go_simp; refine hK.out _ _ trivial (fun hHeld => ?_); clear hK K; obtain ⟨X, eX, cO, kL, lL⟩ := lit1 Y o; rw [eX]; clear eX; have kx := ky.trans (kL.mono (T := fun j => H ≤ j) (fun _ h => h.elim)); have sX : H ≤ X.heap.size := (by omega)
            have hE := OwnU.keep hE kL (by simp)
            have neq : Y.heap.size ≠ Z.heap.size := by omega
            ((try simp only [List.getElem_toArray]); (try simp only [List.getElem_cons_succ]); (try simp only [List.getElem_cons_zero]); (try simp only [Act.put]); (try simp only [List.setIfInBounds_toArray]); (try simp only [List.set_cons_succ]); (try simp only [List.set_cons_zero]))
            refine wpAnyH_ready (rs := [4]) (by kernel_rfl) (by simp) ?_
            refine AllReadyH.cons rfl (fun K hK => ?_) AllReadyH.nil
            refine step_app rfl (.tmp 57) (.tmp 60) rfl H sX (.slice (some ⟨Z.heap.size, 0, none⟩) 0 0) [] rfl hE ⟨gw, 0, none⟩ k c ((el a n).take k) rfl tl (tw _ kx) (by simp) (by omega) ?_; intro v4 w4 o4 kq; rw [List.nil_append] at o4; have k4 := kx.trans (kq.mono (T := fun j => H ≤ j) (fun j hj => (OwnU.lt hE hj).1)); have s4 : H ≤ w4.heap.size := Nat.le_trans sX kq.size; refine hK.out _ _ trivial (fun hHeld => ?_); clear hK K
            have cO := kq.cell cO (by simp [Value.ownBlock]; omega)
            ((try simp only [List.getElem_toArray]); (try simp only [List.getElem_cons_succ]); (try simp only [List.getElem_cons_zero]); (try simp only [Act.put]); (try simp only [List.setIfInBounds_toArray]); (try simp only [List.set_cons_succ]); (try simp only [List.set_cons_zero]))
            refine wpAnyH_ready (rs := [7]) (by kernel_rfl) (by simp) ?_; refine AllReadyH.cons rfl (fun K hK => ?_) AllReadyH.nil; refine step_app rfl (.tmp 61) (.tmp 63) rfl H s4 v4 ((el a n).take k) rfl o4 ⟨Y.heap.size, 0, none⟩ 1 1 [o] rfl rfl (fun t ht => by (obtain rfl : t = 0 := (by simpa using ht)); simpa [Addr.add] using cO) (by omega) (by simp) ?_; intro v7 w7 o7 kr; have k7 := k4.trans (kr.mono (T := fun j => H ≤ j) (fun j hj => (OwnU.lt o4 hj).1)); have s7 : H ≤ w7.heap.size := Nat.le_trans s4 kr.size; refine hK.out _ _ trivial (fun hHeld => ?_); clear hK K
            ((try simp only [List.getElem_toArray]); (try simp only [List.getElem_cons_succ]); (try simp only [List.getElem_cons_zero]); (try simp only [Act.put]); (try simp only [List.setIfInBounds_toArray]); (try simp only [List.set_cons_succ]); (try simp only [List.set_cons_zero]))
            refine wpAnyH_ready (rs := [11]) (by kernel_rfl) (by simp) ?_; refine AllReadyH.cons rfl (fun K hK => ?_) AllReadyH.nil; refine step_app rfl (.tmp 64) (.tmp 67) rfl H s7 v7 ((el a n).take k ++ [o]) rfl o7 ad (n - k) (c - k) ((el a n).drop k) rfl dl (dw _ k7) (by simp; omega) (by omega) ?_; intro v9 w9 o9 ks; have k9 := k7.trans (ks.mono (T := fun j => H ≤ j) (fun j hj => (OwnU.lt o7 hj).1)); refine hK.out _ _ trivial (fun hHeld => ?_); clear hK K
            ((try simp only [List.getElem_toArray]); (try simp only [List.getElem_cons_succ]); (try simp only [List.getElem_cons_zero]); (try simp only [Act.put]); (try simp only [List.setIfInBounds_toArray]); (try simp only [List.set_cons_succ]); (try simp only [List.set_cons_zero]))
            refine wpAnyH_take (i := 12) (v := ?qvf12b) rfl (by kernel_rfl) (by kernel_rfl) (by kernel_rfl) (fun _ _ _ h => h) (Or.inl ⟨by rfl, ?qyf12b⟩) (by assumption) ?qrf12b; case qyf12b => ((intro w hSw; (try dsimp only at hSw); go_simp); try (with_reducible rfl))
            ((try simp only [List.getElem_toArray]); (try simp only [List.getElem_cons_succ]); (try simp only [List.getElem_cons_zero]); (try simp only [Act.put]); (try simp only [List.setIfInBounds_toArray]); (try simp only [List.set_cons_succ]); (try simp only [List.set_cons_zero]))
            refine wpAnyH_done (by kernel_rfl) ?_ _
            obtain ⟨A9, c9, rfl, _⟩ := out9 o9; have wfw := HW.out; have hall := HA.out; (obtain ⟨ws, ews⟩ : ∃ ws, (el a n).take k ++ [o] ++ (el a n).drop k = ws := ⟨_, rfl⟩); rw [ews] at o9 hall wfw ⊢; have hrow := OwnU.row o9 wfw; have hS9 : OneAt G s w9 := k9.cell hS1 (by show ¬ H ≤ G; omega); have bf := bz.trans (k9.below bz.size (fun j hj => Nat.le_trans bz.size (by rw [eH]; exact hj))); clear tw dw; go_wp2_with fail; refine (pfirst_to (looks_first G s) hS9 ws hrow 3 a wt' hall).mono ?_; rintro e y1 ⟨rfl, b7⟩; go_wp2_with fail; refine (awake8_any _).mono ?_; rintro e y2 ⟨rfl, b8⟩; go_wp2; go_ret; exact ⟨rfl, thru (thru bf b7) b8⟩
        · go_simp; refine hK.out _ _ trivial (fun hHeld => ?_); clear hK K; obtain ⟨X, eX, cO, kL, lL⟩ := lit1 Z o; rw [eX]; clear eX; have kx := kz.trans (kL.mono (T := fun j => H ≤ j) (fun _ h => h.elim)); have sX : H ≤ X.heap.size := (by omega)
          ((try simp only [List.getElem_toArray]); (try simp only [List.getElem_cons_succ]); (try simp only [List.getElem_cons_zero]); (try simp only [Act.put]); (try simp only [List.setIfInBounds_toArray]); (try simp only [List.set_cons_succ]); (try simp only [List.set_cons_zero]))
          refine wpAnyH_ready (rs := [0]) (by kernel_rfl) (by simp) ?_
          refine AllReadyH.cons rfl (fun K hK => ?_) AllReadyH.nil
          go_simp; refine hK.out _ _ trivial (fun hHeld => ?_); clear hK K; obtain ⟨Y, eX, hE, kE, lE⟩ := emp X sX; rw [eX]; clear eX; have ky := kx.trans (kE.mono (T := fun j => H ≤ j) (fun _ h => h.elim)); have sY : H ≤ Y.heap.size := (by omega)
          have cO := kE.cell cO (by simp)
          ((try simp only [List.getElem_toArray]); (try simp only [List.getElem_cons_succ]); (try simp only [List.getElem_cons_zero]); (try simp only [Act.put]); (try simp only [List.setIfInBounds_toArray]); (try simp only [List.set_cons_succ]); (try simp only [List.set_cons_zero]))
          refine wpAnyH_ready (rs := [4]) (by kernel_rfl) (by simp) ?_
          refine AllReadyH.cons rfl (fun K hK => ?_) AllReadyH.nil
          refine step_app rfl (.tmp 57) (.tmp 60) rfl H sY (.slice (some ⟨X.heap.size, 0, none⟩) 0 0) [] rfl hE ⟨gw, 0, none⟩ k c ((el a n).take k) rfl tl (tw _ ky) (by simp) (by omega) ?_; intro v4 w4 o4 kq; rw [List.nil_append] at o4; have k4 := ky.trans (kq.mono (T := fun j => H ≤ j) (fun j hj => (OwnU.lt hE hj).1)); have s4 : H ≤ w4.heap.size := Nat.le_trans sY kq.size; refine hK.out _ _ trivial (fun hHeld => ?_); clear hK K
          have cO := kq.cell cO (by simp [Value.ownBlock]; omega)
          ((try simp only [List.getElem_toArray]); (try simp only [List.getElem_cons_succ]); (try simp only [List.getElem_cons_zero]); (try simp only [Act.put]); (try simp only [List.setIfInBounds_toArray]); (try simp only [List.set_cons_succ]); (try simp only [List.set_cons_zero]))
          refine wpAnyH_ready (rs := [7]) (by kernel_rfl) (by simp) ?_; refine AllReadyH.cons rfl (fun K hK => ?_) AllReadyH.nil; refine step_app rfl (.tmp 61) (.tmp 63) rfl H s4 v4 ((el a n).take k) rfl o4 ⟨Z.heap.size, 0, none⟩ 1 1 [o] rfl rfl (fun t ht => by (obtain rfl : t = 0 := (by simpa using ht)); simpa [Addr.add] using cO) (by omega) (by simp) ?_; intro v7 w7 o7 kr; have k7 := k4.trans (kr.mono (T := fun j => H ≤ j) (fun j hj => (OwnU.lt o4 hj).1)); have s7 : H ≤ w7.heap.size := Nat.le_trans s4 kr.size; refine hK.out _ _ trivial (fun hHeld => ?_); clear hK K
          ((try simp only [List.getElem_toArray]); (try simp only [List.getElem_cons_succ]); (try simp only [List.getElem_cons_zero]); (try simp only [Act.put]); (try simp only [List.setIfInBounds_toArray]); (try simp only [List.set_cons_succ]); (try simp only [List.set_cons_zero]))
          refine wpAnyH_ready (rs := [11]) (by kernel_rfl) (by simp) ?_; refine AllReadyH.cons rfl (fun K hK => ?_) AllReadyH.nil; refine step_app rfl (.tmp 64) (.tmp 67) rfl H s7 v7 ((el a n).take k ++ [o]) rfl o7 ad (n - k) (c - k) ((el a n).drop k) rfl dl (dw _ k7) (by simp; omega) (by omega) ?_; intro v9 w9 o9 ks; have k9 := k7.trans (ks.mono (T := fun j => H ≤ j) (fun j hj => (OwnU.lt o7 hj).1)); refine hK.out _ _ trivial (fun hHeld => ?_); clear hK K
          ((try simp only [List.getElem_toArray]); (try simp only [List.getElem_cons_succ]); (try simp only [List.getElem_cons_zero]); (try simp only [Act.put]); (try simp only [List.setIfInBounds_toArray]); (try simp only [List.set_cons_succ]); (try simp only [List.set_cons_zero]))
          refine wpAnyH_take (i := 12) (v := ?qvf12c) rfl (by kernel_rfl) (by kernel_rfl) (by kernel_rfl) (fun _ _ _ h => h) (Or.inl ⟨by rfl, ?qyf12c⟩) (by assumption) ?qrf12c; case qyf12c => ((intro w hSw; (try dsimp only at hSw); go_simp); try (with_reducible rfl))
          ((try simp only [List.getElem_toArray]); (try simp only [List.getElem_cons_succ]); (try simp only [List.getElem_cons_zero]); (try simp only [Act.put]); (try simp only [List.setIfInBounds_toArray]); (try simp only [List.set_cons_succ]); (try simp only [List.set_cons_zero]))
          refine wpAnyH_done (by kernel_rfl) ?_ _
          obtain ⟨A9, c9, rfl, _⟩ := out9 o9; have wfw := HW.out; have hall := HA.out; (obtain ⟨ws, ews⟩ : ∃ ws, (el a n).take k ++ [o] ++ (el a n).drop k = ws := ⟨_, rfl⟩); rw [ews] at o9 hall wfw ⊢; have hrow := OwnU.row o9 wfw; have hS9 : OneAt G s w9 := k9.cell hS1 (by show ¬ H ≤ G; omega); have bf := bz.trans (k9.below bz.size (fun j hj => Nat.le_trans bz.size (by rw [eH]; exact hj))); clear tw dw; go_wp2_with fail; refine (pfirst_to (looks_first G s) hS9 ws hrow 3 a wt' hall).mono ?_; rintro e y1 ⟨rfl, b7⟩; go_wp2_with fail; refine (awake8_any _).mono ?_; rintro e y2 ⟨rfl, b8⟩; go_wp2; go_ret; exact ⟨rfl, thru (thru bf b7) b8⟩
theorem own : ownKnob Try.prog.godebug = none := by kernel_rfl
theorem laidOut : laidOutB Try.prog = true := by kernel_rfl
set_option maxRecDepth 100000 in
theorem lifted (os : Os) (started : os.Started) (H : Type) (enc : TypeId × Value → H) :
    ReturnsInHanded {} Try.checked os 14 .any (Rows.mayFirstSpec.pre6 enc Try.prog Try.f14 Rows.mayFirstRow.domain false) (Rows.mayFirstSpec.post enc Try.prog Try.f14 false true false false) := by
  refine returnsInHanded_of_change (C := Try.checked) own started (by kernel_rfl) Try.func14
    (ChangeSpec.witness6 (enc := enc) (C := Try.checked) false ⟨#[], #[.int .i64 0, .int .u64 0, .int .i64 0, .int .i64 0], []⟩ 8 (by kernel_rfl) (by kernel_rfl) (by kernel_rfl) (by kernel_rfl)) ?_
  intro W base args ds gs before hval0 hW hcnd _
  have hval : ∀ (j : Nat) t v, Try.f14.params[j]? = some t → args[j]? = some v → Value.okWide Try.prog W .any base t v := hval0
  have hW' := hW
  obtain ⟨p, q, hA0, hV, rfl, hfz, hnd⟩ := hW
  have hA : DataW.TrodAll enc Try.prog W 0 (fun _ => true) true Try.f14.params.toList args.toList ds p := hA0
  rw [Try.params14] at hA hval
  obtain ⟨v0, vs0, d0, ds0, p0, q0, hargs, rfl, rfl, h0, r0⟩ := trodAll_cons hA
  obtain ⟨v1, vs1, d1, ds1, p1, q1, rfl, rfl, rfl, h1, r1⟩ := trodAll_cons r0
  obtain ⟨v2, vs2, d2, ds2, p2, q2, rfl, rfl, rfl, h2, r2⟩ := trodAll_cons r1
  obtain ⟨v3, vs3, d3, ds3, p3, q3, rfl, rfl, rfl, h3, r3⟩ := trodAll_cons r2
  obtain ⟨rfl, rfl, rfl⟩ := trodAll_nil r3
  obtain rfl : args = #[v0, v1, v2, v3] := by cases args; simp_all
  obtain ⟨rfl, rfl⟩ := trodVars_none hV
  obtain ⟨a0, rfl, rfl, rfl, w0⟩ := open_int Try.underlying3 (hval 0 3 v0 rfl rfl) h0
  obtain ⟨a1, rfl, rfl, rfl, w1⟩ := open_int Try.underlying22 (hval 1 22 v1 rfl rfl) h1
  obtain ⟨a2, rfl, rfl, rfl, w2⟩ := open_int Try.underlying3 (hval 2 3 v2 rfl rfl) h2
  obtain ⟨a3, rfl, rfl, rfl, w3⟩ := open_int Try.underlying3 (hval 3 3 v3 rfl rfl) h3
  clear hA0 hval0
  refine (walk a0 a1 a2 a3 W w0 w1 w2 w3).mono fun e W' ⟨he, bel⟩ => ?_
  subst he
  exact ⟨_, rfl, _, _, _, [], _, [], hW', trodAll_mk1 (shut_bool Try.underlying4 _), (trodAll_cons_mk (shut_int Try.underlying3 w0) (trodAll_cons_mk (shut_int Try.underlying22 w1) (trodAll_cons_mk (shut_int Try.underlying3 w2) (trodAll_cons_mk (shut_int Try.underlying3 w3) trodAll_mk0)))), rfl, bel.frame _, fun h => by cases h⟩
theorem over : Rows.mayFirstRow.holds Try.pinned (OpenSpec.ofChange Rows.mayFirstSpec) :=
  OpenClaim.holds_of_wide 14 Try.f14 rfl rfl rfl rfl rfl rfl rfl ⟨rfl, rfl, rfl, rfl, rfl⟩ rfl rfl rfl rfl rfl (by kernel_rfl) Try.func14 (by kernel_rfl)
    (of_decide_eq_true (by kernel_rfl)) (by unfold Func.isWrapper; first | (rw [if_pos (by decide +kernel)]; kernel_rfl) | (rw [if_neg (by decide +kernel)]; exact ⟨rfl, rfl⟩))
    (fun os started H enc _ => lifted os started H enc)
theorem proved : Rows.MayFirstSaid := over
end Go.Proofs.Ytdkgngdfehllcaa.mayFirst
