/- Proved here: vinculumlaw8.MayTells returns true and leaves its arguments as they were, for every kind, every number, every two slices, anyone, any time, and whatever is told of transactions; no further condition. -/
import Derived.Test.YtdkgngdfehllcaaMayD
import Derived.Test.YtdkgngdfehllcaaRefMay
import Derived.Test.YtdkgngdfehllcaaSeeW
import Derived.ChangeOld
import Derived.Deep.CutRange
import Derived.Deep.CutBlock
import Derived.Deep.LoopGhost
import Derived.Deep.RegionHeld3
import Derived.WalkArith
namespace Go.Proofs.Ytdkgngdfehllcaa.mayTells
open Go.ChangeShapes Go.WideShapes Go.ChangeAt Go.RowKit
set_option linter.unusedVariables false

theorem start (w : World) (A : Option Addr) (n c : Nat) (f : Nat → Ot) (h : IsOth w A n c f) : Below w.heap.size w (w.alloc (.cells #[.slice A n c] 32)) ∧ Told w.heap.size A n c f (w.alloc (.cells #[.slice A n c] 32)) := by
  have k := (Keep.alloc (Keep.refl (fun _ => False) w) (.cells #[.slice A n c] 32)).below (Nat.le_refl _) (by simp)
  exact ⟨k, by simp, h.below k⟩
/-- The words of so many pairs. -/
def wl (ks ns : List Int) (k : Nat) : List Int := (List.range k).map (fun i => wordI (ks.getD i 0) (ns.getD i 0))
theorem wl_len (ks ns : List Int) (k : Nat) : (wl ks ns k).length = k := by simp [wl]
theorem wl_succ (ks ns : List Int) (k : Nat) : wl ks ns (k + 1) = wl ks ns k ++ [wordI (ks.getD k 0) (ns.getD k 0)] := by simp [wl, List.range_succ]
theorem wl_wf (ks ns : List Int) (hn : ∀ j, 0 ≤ ns.getD j 0 ∧ ns.getD j 0 ≤ 18446744073709551615) (k : Nat) : ∀ x ∈ wl ks ns k, (Lit.int .u64 x).wf = true := by
  intro x hx
  simp [wl] at hx
  obtain ⟨i, _, rfl⟩ := hx
  have h := hn i
  rw [List.getD_eq_getElem?_getD] at h
  exact WalkArith.wf_u64 (wordI_b _ _ h.1 h.2)
theorem out8 {B : Nat} {w : World} {v : Value} {zs : List Int} (h : OwnU B w v zs) : ∃ A c, v = .slice A zs.length c ∧ (A = none → zs = []) ∧ ∀ ad, A = some ad → ∃ g, ad = ⟨g, 0, none⟩ := by
  obtain ⟨h1, h2⟩ := id h
  rcases h2 with ⟨h3, h4⟩ | ⟨g, c, cur, hv, _⟩
  · exact ⟨none, 0, by rw [h4]; exact h3, fun _ => List.length_eq_zero_iff.1 h4, fun ad h => by cases h⟩
  · exact ⟨some ⟨g, 0, none⟩, c, hv, fun h => (by cases h), fun ad h => by cases h; exact ⟨g, rfl⟩⟩
theorem _root_.Go.Proofs.Ytdkgngdfehllcaa.IsRow.below {k : IntKind} {w w' : World} {A : Option Addr} {n c : Nat} {zs : List Int} (h : IsRow k w A n c zs) (b : Below w.heap.size w w') : IsRow k w' A n c zs := by
  obtain ⟨h1, h2, h3, h4, h5⟩ := h
  refine ⟨h1, h2, h3, fun hp => ?_, h5⟩
  obtain ⟨g, o, e, hg, hc⟩ := h4 hp
  exact ⟨g, o, e, Nat.lt_of_lt_of_le hg b.size, fun j hj => (b.cell (p := ⟨g, o + j, none⟩) hg).trans (hc j hj)⟩
def Rel (w : World) (B : Nat) (G : Nat) (A : Option Addr) (n c : Nat) (f : Nat → Ot) (ks ns : List Int) (N k : Nat) (v i : Value) (wr : World) : Prop :=
  k ≤ N ∧ i = .int .i64 k ∧ OwnU B wr v (wl ks ns k) ∧ Below w.heap.size w wr ∧ B ≤ wr.heap.size ∧ wr.cell? ⟨G, 0, none⟩ = some (.slice A n c)
set_option maxRecDepth 100000 in
set_option maxHeartbeats 8000000 in
theorem walk (a0 a1 : Int) (A2 : Option Addr) (n2 c2 : Nat) (z2 : List Int) (A3 : Option Addr) (n3 c3 : Nat) (z3 : List Int) (a4 a5 : Int) (A : Option Addr) (n c : Nat) (f : Nat → Ot) (w : World) (w0 : (Lit.int .i64 a0).wf = true) (w1 : (Lit.int .u64 a1).wf = true) (w2 : IsRow .i64 w A2 n2 c2 z2) (w3 : IsRow .u64 w A3 n3 c3 z3) (w4 : (Lit.int .i64 a4).wf = true) (w5 : (Lit.int .u64 a5).wf = true) (w6 : IsOth w A n c f) :
    Calls Try.prog 12 #[.int .i64 a0, .int .u64 a1, .slice A2 n2 c2, .slice A3 n3 c3, .int .i64 a4, .int .u64 a5, .slice A n c] w fun e w' => e = .returned (.bool true) ∧ Below w.heap.size w w' := by
  obtain ⟨p0, p1⟩ := bounds_u64 w1
  have hcap := w6.cap
  have hmax := w6.max
  obtain ⟨hB, hT⟩ := start w A n c f w6
  have hu3 := w3.u64
  obtain ⟨l2, lp2, lm2, lc2, _⟩ := id w2
  obtain ⟨l3, lp3, lm3, lc3, _⟩ := id w3
  subst l2
  subst l3
  by_cases hn : 20 < n ∨ 20 < z2.length
  · rcases (by omega : 20 < n ∨ (¬ 20 < n ∧ 20 < z2.length)) with h1 | ⟨h1, h2⟩
    · have d1 : decide (20 < n) = true := decide_eq_true h1
      go_enter Try.func12, Try.ntmps12
      go_wp2_with fail
      refine (awake8_any _).mono ?_
      rintro e y2 ⟨rfl, b2⟩
      go_wp2
      go_ret
      exact ⟨rfl, thru hB b2⟩
    · have d1 : decide (20 < n) = false := decide_eq_false h1
      have d2 : decide (20 < z2.length) = true := decide_eq_true h2
      go_enter Try.func12, Try.ntmps12
      go_wp2_with fail
      refine (awake8_any _).mono ?_
      rintro e y2 ⟨rfl, b2⟩
      go_wp2
      go_ret
      exact ⟨rfl, thru hB b2⟩
  · have d1 : decide (20 < n) = false := decide_eq_false (by omega)
    have d2 : decide (20 < z2.length) = false := decide_eq_false (by omega)
    have hb := wordI_b a0 a1 p0 p1
    have hW1 := word7_any a0 a1 p0 p1
    obtain ⟨b, eb⟩ : ∃ b, wordI a0 a1 = b := ⟨_, rfl⟩
    rw [eb] at hb hW1
    obtain ⟨⟨p, q⟩, eW⟩ : ∃ r, writeI (lookL f n) b a4 = r := ⟨_, rfl⟩
    obtain ⟨N, hN⟩ : ∃ N : Nat, N = min z2.length z3.length := ⟨_, rfl⟩
    have N2 : N ≤ z2.length := by omega
    have N3 : N ≤ z3.length := by omega
    have N20 : N ≤ 20 := by omega
    have hor : (N = z3.length ∧ N < z2.length) ∨ N = z2.length := by omega
    clear hN eb w0 w1 w4 w5 p0 p1
    have cB : ∀ {w' : World} {b0 o : Nat} {v : Value}, b0 < w.heap.size → Below w.heap.size w w' → w.cell? ⟨b0, o, none⟩ = some v → w'.cell? ⟨b0, o, none⟩ = some v := fun {w' b0 o v} h1 h2 h3 => (h2.cell (p := ⟨b0, o, none⟩) h1).trans h3
    go_enter Try.func12, Try.ntmps12
    go_wp2_with fail
    refine (hW1 _).mono ?_
    rintro e y0 ⟨rfl, rfl⟩
    go_upto_block 0 with fail
    have hsz := hB.size
    obtain ⟨W0, eW0⟩ : ∃ W0, w.alloc (Obj.cells #[Value.slice A n c] 32) = W0 := ⟨_, rfl⟩
    have hG1 : w.heap.size + 1 ≤ W0.heap.size := by rw [← eW0]; simp
    rw [eW0] at hB hT hsz ⊢
    clear eW0
    obtain ⟨G, eG⟩ : ∃ G, w.heap.size = G := ⟨_, rfl⟩
    rw [eG] at hT hG1 ⊢
    go_cut [16, 17] from 35 to 58 (fun v i wr => Rel w (G + 1) G A n c f z2 z3 N N v i wr)
    case first =>
      go_wp2_with fail
      go_loopg [16, 17] N (fun m v i wr => ∃ k : Nat, m + k = N ∧ Rel w (G + 1) G A n c f z2 z3 N k v i wr)
      case atStart => exact ⟨0, rfl, Nat.zero_le _, rfl, World.ownsRow_nil _ _ _ _, hB, hG1, hT.v⟩
      case round =>
        obtain ⟨k, hgk, h⟩ := hrel
        obtain ⟨kl, rfl, ho, hbl, hBs, hTr⟩ := id h
        by_cases hlt : k < N
        · obtain ⟨b2, o2, rfl, hb2, hc2⟩ := lc2 (by omega)
          obtain ⟨b3, o3, rfl, hb3, hc3⟩ := lc3 (by omega)
          have hc2 := cB hb2 hbl (hc2 k (by omega))
          have hc3 := cB hb3 hbl (hc3 k (by omega))
          have hy := hu3 k
          have hS := wl_succ z2 z3 k
          obtain ⟨x, ex⟩ : ∃ x, z2.getD k 0 = x := ⟨_, rfl⟩
          obtain ⟨y, ey⟩ : ∃ y, z3.getD k 0 = y := ⟨_, rfl⟩
          rw [ex] at hc2 hS
          rw [ey] at hc3 hy hS
          have hW := word7_any x y hy.1 hy.2
          obtain ⟨t, et⟩ : ∃ t, wordI x y = t := ⟨_, rfl⟩
          rw [et] at hW hS
          have HS := Lib.hid hS
          have wk : IntKind.i64.wrap ((k : Int) + 1) = (k : Int) + 1 := IntWalk.i64_in _ (by omega)
          have k2 : k < z2.length := by omega
          have k3 : k < z3.length := by omega
          have i2 : (k : Int) < (z2.length : Int) := by omega
          have i3 : (k : Int) < (z3.length : Int) := by omega
          have d3 : decide (k < z2.length) = true := decide_eq_true k2
          have d4 : decide (k < z3.length) = true := decide_eq_true k3
          have G1 : b2 < G := by omega
          have G3 : b3 < G := by omega
          have ho' : OwnU (G + 1) wr.drew u16 (wl z2 z3 k) := OwnU.keep ho (drewN_keep (fun _ => False) wr 1) (by simp)
          have len := wl_len z2 z3 k
          clear ex ey et hS lc2 lc3 hu3 h hor cB
          go_wp2_with fail
          refine wp_region_held_drew (S := (fun w' => w'.cell? ⟨b2, o2 + k, none⟩ = some (.int .i64 x) ∧ w'.cell? ⟨b3, o3 + k, none⟩ = some (.int .u64 y))) (by kernel_rfl) ⟨hc2, hc3⟩ (fun hHeld => ?_)
          refine wpAnyH_take (i := 0) (v := ?qvu0) rfl (by kernel_rfl) (by kernel_rfl) (by kernel_rfl) (fun _ _ _ h => h) (Or.inl ⟨by rfl, ?qyu0⟩) (by assumption) ?qru0; case qyu0 => ((intro w hSw; (try dsimp only at hSw); go_simp); try (with_reducible rfl))
          ((try simp only [List.getElem_toArray]); (try simp only [List.getElem_cons_succ]); (try simp only [List.getElem_cons_zero]); (try simp only [Act.put]); (try simp only [List.setIfInBounds_toArray]); (try simp only [List.set_cons_succ]); (try simp only [List.set_cons_zero]))
          refine wpAnyH_take (i := 1) (v := ?qvu1) rfl (by kernel_rfl) (by kernel_rfl) (by kernel_rfl) (fun _ _ _ h => h) (Or.inl ⟨by rfl, ?qyu1⟩) (by assumption) ?qru1; case qyu1 => ((intro w hSw; (try dsimp only at hSw); go_simp); try (with_reducible rfl))
          ((try simp only [List.getElem_toArray]); (try simp only [List.getElem_cons_succ]); (try simp only [List.getElem_cons_zero]); (try simp only [Act.put]); (try simp only [List.setIfInBounds_toArray]); (try simp only [List.set_cons_succ]); (try simp only [List.set_cons_zero]))
          refine wpAnyH_take (i := 2) (v := ?qvu2) rfl (by kernel_rfl) (by kernel_rfl) (by kernel_rfl) (fun _ _ _ h => h) (Or.inl ⟨by rfl, ?qyu2⟩) (by assumption) ?qru2; case qyu2 => ((intro w hSw; (try dsimp only at hSw); go_simp); try (with_reducible rfl))
          ((try simp only [List.getElem_toArray]); (try simp only [List.getElem_cons_succ]); (try simp only [List.getElem_cons_zero]); (try simp only [Act.put]); (try simp only [List.setIfInBounds_toArray]); (try simp only [List.set_cons_succ]); (try simp only [List.set_cons_zero]))
          refine wpAnyH_take (i := 3) (v := ?qvu3) rfl (by kernel_rfl) (by kernel_rfl) (by kernel_rfl) (fun _ _ _ h => h) (Or.inl ⟨by rfl, ?qyu3⟩) (by assumption) ?qru3; case qyu3 => ((intro w hSw; (try dsimp only at hSw); go_simp); try (with_reducible rfl))
          ((try simp only [List.getElem_toArray]); (try simp only [List.getElem_cons_succ]); (try simp only [List.getElem_cons_zero]); (try simp only [Act.put]); (try simp only [List.setIfInBounds_toArray]); (try simp only [List.set_cons_succ]); (try simp only [List.set_cons_zero]))
          refine wpAnyH_take (i := 4) (v := ?qvu4) rfl (by kernel_rfl) (by kernel_rfl) (by kernel_rfl) (fun _ _ _ h => h) (Or.inl ⟨by rfl, ?qyu4⟩) (by assumption) ?qru4; case qyu4 => ((intro w hSw; (try dsimp only at hSw); go_simp); try (with_reducible rfl))
          ((try simp only [List.getElem_toArray]); (try simp only [List.getElem_cons_succ]); (try simp only [List.getElem_cons_zero]); (try simp only [Act.put]); (try simp only [List.setIfInBounds_toArray]); (try simp only [List.set_cons_succ]); (try simp only [List.set_cons_zero]))
          refine wpAnyH_take (i := 5) (v := ?qvu5) rfl (by kernel_rfl) (by kernel_rfl) (by kernel_rfl) (fun _ _ _ h => h) (Or.inl ⟨by rfl, ?qyu5⟩) (by assumption) ?qru5; case qyu5 => ((intro w hSw; (try dsimp only at hSw); go_simp); try (with_reducible rfl))
          ((try simp only [List.getElem_toArray]); (try simp only [List.getElem_cons_succ]); (try simp only [List.getElem_cons_zero]); (try simp only [Act.put]); (try simp only [List.setIfInBounds_toArray]); (try simp only [List.set_cons_succ]); (try simp only [List.set_cons_zero]))
          refine wpAnyH_take (i := 6) (v := ?qvu6) rfl (by kernel_rfl) (by kernel_rfl) (by kernel_rfl) (fun _ _ _ h => h) (Or.inl ⟨by rfl, ?qyu6⟩) (by assumption) ?qru6; case qyu6 => ((intro w hSw; (try dsimp only at hSw); go_simp); try (with_reducible rfl))
          ((try simp only [List.getElem_toArray]); (try simp only [List.getElem_cons_succ]); (try simp only [List.getElem_cons_zero]); (try simp only [Act.put]); (try simp only [List.setIfInBounds_toArray]); (try simp only [List.set_cons_succ]); (try simp only [List.set_cons_zero]))
          refine wpAnyH_take (i := 7) (v := ?qvu7) rfl (by kernel_rfl) (by kernel_rfl) (by kernel_rfl) (fun _ _ _ h => h) (Or.inl ⟨by rfl, ?qyu7⟩) (by assumption) ?qru7; case qyu7 => ((intro w hSw; (try dsimp only at hSw); go_simp); try (with_reducible rfl))
          ((try simp only [List.getElem_toArray]); (try simp only [List.getElem_cons_succ]); (try simp only [List.getElem_cons_zero]); (try simp only [Act.put]); (try simp only [List.setIfInBounds_toArray]); (try simp only [List.set_cons_succ]); (try simp only [List.set_cons_zero]))
          refine wpAnyH_take (i := 8) (v := ?qvu8) rfl (by kernel_rfl) (by kernel_rfl) (by kernel_rfl) (fun _ _ _ h => h) (Or.inl ⟨by rfl, ?qyu8⟩) (by assumption) ?qru8; case qyu8 => ((intro w hSw; (try dsimp only at hSw); go_simp); try (with_reducible rfl))
          ((try simp only [List.getElem_toArray]); (try simp only [List.getElem_cons_succ]); (try simp only [List.getElem_cons_zero]); (try simp only [Act.put]); (try simp only [List.setIfInBounds_toArray]); (try simp only [List.set_cons_succ]); (try simp only [List.set_cons_zero]))
          refine wpAnyH_ready (rs := [9]) (by kernel_rfl) (by simp) ?_
          refine AllReadyH.cons rfl (fun K hK => ?_) AllReadyH.nil
          go_simp
          refine (hW _).mono ?_
          rintro e w' ⟨rfl, rfl⟩
          refine hK.out _ _ hHeld (fun hHeld => ?_)
          clear hK K
          ((try simp only [List.getElem_toArray]); (try simp only [List.getElem_cons_succ]); (try simp only [List.getElem_cons_zero]); (try simp only [Act.put]); (try simp only [List.setIfInBounds_toArray]); (try simp only [List.set_cons_succ]); (try simp only [List.set_cons_zero]))
          refine wpAnyH_ready (rs := [10]) (by kernel_rfl) (by simp) ?_
          refine AllReadyH.cons rfl (fun K hK => ?_) AllReadyH.nil
          go_simp
          refine hK.out _ _ ⟨(Keep.alloc (Keep.refl (fun _ => False) _) _).cell hHeld.1 (by simp), (Keep.alloc (Keep.refl (fun _ => False) _) _).cell hHeld.2 (by simp)⟩ (fun hHeld => ?_)
          clear hK K
          ((try simp only [List.getElem_toArray]); (try simp only [List.getElem_cons_succ]); (try simp only [List.getElem_cons_zero]); (try simp only [Act.put]); (try simp only [List.setIfInBounds_toArray]); (try simp only [List.set_cons_succ]); (try simp only [List.set_cons_zero]))
          refine wpAnyH_ready (rs := [11]) (by kernel_rfl) (by simp) ?_
          refine AllReadyH.cons rfl (fun K hK => ?_) AllReadyH.nil
          refine step_push rfl (.tmp 47) (.tmp 57) rfl (G + 1) (by show G + 1 ≤ wr.heap.size; exact hBs) u16 (wl z2 z3 k) rfl ho' t rfl (by rw [len]; omega) ?_
          intro g c4 y4 o4 k4 hg4
          rw [len] at o4
          have nb : ∀ b, b < G → ¬ (u16.ownBlock = some b) := fun b hb e => by have := (OwnU.lt ho' e).1; omega
          refine hK.out _ _ ⟨(((Keep.refl (fun j => u16.ownBlock = some j) wr).drew).trans k4).cell hc2 (nb _ G1), (((Keep.refl (fun j => u16.ownBlock = some j) wr).drew).trans k4).cell hc3 (nb _ G3)⟩ (fun hHeld => ?_)
          clear hK K
          ((try simp only [List.getElem_toArray]); (try simp only [List.getElem_cons_succ]); (try simp only [List.getElem_cons_zero]); (try simp only [Act.put]); (try simp only [List.setIfInBounds_toArray]); (try simp only [List.set_cons_succ]); (try simp only [List.set_cons_zero]))
          refine wpAnyH_take (i := 12) (v := ?qvu9) rfl (by kernel_rfl) (by kernel_rfl) (by kernel_rfl) (fun _ _ _ h => h) (Or.inl ⟨by rfl, ?qyu9⟩) (by assumption) ?qru9; case qyu9 => ((intro w hSw; (try dsimp only at hSw); go_simp); try (with_reducible rfl))
          ((try simp only [List.getElem_toArray]); (try simp only [List.getElem_cons_succ]); (try simp only [List.getElem_cons_zero]); (try simp only [Act.put]); (try simp only [List.setIfInBounds_toArray]); (try simp only [List.set_cons_succ]); (try simp only [List.set_cons_zero]))
          refine wpAnyH_done (by kernel_rfl) ?_ _
          go_wp2
          go_roundg (N - (k + 1))
          (case measure => omega); (case rel => (have kk := (((Keep.refl (fun j => u16.ownBlock = some j) wr).drew).trans k4); have bk : Below (G + 1) wr y4 := kk.below hBs (fun j hj => (OwnU.lt ho' hj).1); exact ⟨k + 1, by omega, by omega, by go_num, by rw [HS.out]; exact o4, hbl.trans (bk.mono (by omega)), Nat.le_trans hBs bk.size, (bk.cell (p := ⟨G, 0, none⟩) (Nat.lt_succ_self G)).trans hTr⟩))
        · obtain rfl : N = k := by omega
          clear hgk lc2 lc3 hu3 cB
          rcases hor with ⟨e3, h2⟩ | e2
          · have d3 : decide (N < z2.length) = true := decide_eq_true h2
            have d4 : decide (N < z3.length) = false := decide_eq_false (by omega)
            clear e3
            go_wp2_with fail
            go_meet
            case rel => exact h
          · have d3 : decide (N < z2.length) = false := decide_eq_false (by omega)
            clear e2
            go_wp2_with fail
            go_meet
            case rel => exact h
    case rest =>
    obtain ⟨_, rfl, ho, hbl, hBs, c0⟩ := hcut
    have len := wl_len z2 z3 N
    have hwf := wl_wf z2 z3 hu3 N
    obtain ⟨ws, ews⟩ : ∃ ws, wl z2 z3 N = ws := ⟨_, rfl⟩
    rw [ews] at ho len hwf
    have hTc : Told G A n c f wc := ⟨c0, w6.below hbl⟩
    obtain ⟨R, eR⟩ : ∃ R, firstI (lookL f n) ws a4 a5 = R := ⟨_, rfl⟩
    obtain ⟨A5, c5, rfl, _⟩ := out8 ho
    have hrow := OwnU.row ho hwf
    rw [len] at hrow ⊢
    clear len ho hT hB hW1 lc2 lc3 cB c0
    have c0 := hTc.v
    go_wp2_with fail
    refine (pwrite_to (looks_maytells _ _ _ _ _) hTc b a4 p q eW hb.1 hb.2).mono ?_
    rintro e y1 ⟨rfl, b1⟩
    have hT1 := hTc.below b1
    have hrow1 := hrow.below b1
    clear c0
    have c0 := hT1.v
    go_wp2_with fail
    have hR := rwrite_any hT1.o b a4 hb.1 hb.2
    rw [eW] at hR
    refine hR.mono ?_
    rintro e y2 ⟨rfl, b2⟩
    have hT2 := hT1.below b2
    have hrow2 := hrow1.below b2
    have bb := thru hbl (b1.trans (b2.mono b1.size))
    clear c0 b1 b2 hT1 hrow1 hTc hrow hR
    have c0 := hT2.v
    unfold V2
    go_wp2
    refine wp_region_held_drew (S := (fun w' => w'.cell? ⟨G, 0, none⟩ = some (.slice A n c))) (by kernel_rfl) c0 (fun hHeld => ?_)
    have b3 : Below w.heap.size w y2.drew := bb.drew
    have hT3 := hT2.below (Below.refl _ _).drew
    have hrow3 := hrow2.below (Below.refl _ _).drew
    refine wpAnyH_take (i := 0) (v := ?qvu10) rfl (by kernel_rfl) (by kernel_rfl) (by kernel_rfl) (fun _ _ _ h => h) (Or.inl ⟨by rfl, ?qyu10⟩) (by assumption) ?qru10; case qyu10 => ((intro w hSw; (try dsimp only at hSw); go_simp); try (with_reducible rfl))
    ((try simp only [List.getElem_toArray]); (try simp only [List.getElem_cons_succ]); (try simp only [List.getElem_cons_zero]); (try simp only [Act.put]); (try simp only [List.setIfInBounds_toArray]); (try simp only [List.set_cons_succ]); (try simp only [List.set_cons_zero]))
    refine wpAnyH_take (i := 1) (v := ?qvu11) rfl (by kernel_rfl) (by kernel_rfl) (by kernel_rfl) (fun _ _ _ h => h) (Or.inl ⟨by rfl, ?qyu11⟩) (by assumption) ?qru11; case qyu11 => ((intro w hSw; (try dsimp only at hSw); go_simp); try (with_reducible rfl))
    ((try simp only [List.getElem_toArray]); (try simp only [List.getElem_cons_succ]); (try simp only [List.getElem_cons_zero]); (try simp only [Act.put]); (try simp only [List.setIfInBounds_toArray]); (try simp only [List.set_cons_succ]); (try simp only [List.set_cons_zero]))
    refine wpAnyH_take (i := 2) (v := ?qvu12) rfl (by kernel_rfl) (by kernel_rfl) (by kernel_rfl) (fun _ _ _ h => h) (Or.inl ⟨by rfl, ?qyu12⟩) (by assumption) ?qru12; case qyu12 => ((intro w hSw; (try dsimp only at hSw); go_simp); try (with_reducible rfl))
    ((try simp only [List.getElem_toArray]); (try simp only [List.getElem_cons_succ]); (try simp only [List.getElem_cons_zero]); (try simp only [Act.put]); (try simp only [List.setIfInBounds_toArray]); (try simp only [List.set_cons_succ]); (try simp only [List.set_cons_zero]))
    refine wpAnyH_take (i := 3) (v := ?qvu13) rfl (by kernel_rfl) (by kernel_rfl) (by kernel_rfl) (fun _ _ _ h => h) (Or.inl ⟨by rfl, ?qyu13⟩) (by assumption) ?qru13; case qyu13 => ((intro w hSw; (try dsimp only at hSw); go_simp); try (with_reducible rfl))
    ((try simp only [List.getElem_toArray]); (try simp only [List.getElem_cons_succ]); (try simp only [List.getElem_cons_zero]); (try simp only [Act.put]); (try simp only [List.setIfInBounds_toArray]); (try simp only [List.set_cons_succ]); (try simp only [List.set_cons_zero]))
    refine wpAnyH_take (i := 4) (v := ?qvu14) rfl (by kernel_rfl) (by kernel_rfl) (by kernel_rfl) (fun _ _ _ h => h) (Or.inl ⟨by rfl, ?qyu14⟩) (by assumption) ?qru14; case qyu14 => ((intro w hSw; (try dsimp only at hSw); go_simp); try (with_reducible rfl))
    ((try simp only [List.getElem_toArray]); (try simp only [List.getElem_cons_succ]); (try simp only [List.getElem_cons_zero]); (try simp only [Act.put]); (try simp only [List.setIfInBounds_toArray]); (try simp only [List.set_cons_succ]); (try simp only [List.set_cons_zero]))
    refine wpAnyH_take (i := 5) (v := ?qvu15) rfl (by kernel_rfl) (by kernel_rfl) (by kernel_rfl) (fun _ _ _ h => h) (Or.inl ⟨by rfl, ?qyu15⟩) (by assumption) ?qru15; case qyu15 => ((intro w hSw; (try dsimp only at hSw); go_simp); try (with_reducible rfl))
    ((try simp only [List.getElem_toArray]); (try simp only [List.getElem_cons_succ]); (try simp only [List.getElem_cons_zero]); (try simp only [Act.put]); (try simp only [List.setIfInBounds_toArray]); (try simp only [List.set_cons_succ]); (try simp only [List.set_cons_zero]))
    refine wpAnyH_take (i := 6) (v := ?qvu16) rfl (by kernel_rfl) (by kernel_rfl) (by kernel_rfl) (fun _ _ _ h => h) (Or.inl ⟨by rfl, ?qyu16⟩) (by assumption) ?qru16; case qyu16 => ((intro w hSw; (try dsimp only at hSw); go_simp); try (with_reducible rfl))
    ((try simp only [List.getElem_toArray]); (try simp only [List.getElem_cons_succ]); (try simp only [List.getElem_cons_zero]); (try simp only [Act.put]); (try simp only [List.setIfInBounds_toArray]); (try simp only [List.set_cons_succ]); (try simp only [List.set_cons_zero]))
    refine wpAnyH_take (i := 7) (v := ?qvu17) rfl (by kernel_rfl) (by kernel_rfl) (by kernel_rfl) (fun _ _ _ h => h) (Or.inl ⟨by rfl, ?qyu17⟩) (by assumption) ?qru17; case qyu17 => ((intro w hSw; (try dsimp only at hSw); go_simp); try (with_reducible rfl))
    ((try simp only [List.getElem_toArray]); (try simp only [List.getElem_cons_succ]); (try simp only [List.getElem_cons_zero]); (try simp only [Act.put]); (try simp only [List.setIfInBounds_toArray]); (try simp only [List.set_cons_succ]); (try simp only [List.set_cons_zero]))
    refine wpAnyH_take (i := 8) (v := ?qvu18) rfl (by kernel_rfl) (by kernel_rfl) (by kernel_rfl) (fun _ _ _ h => h) (Or.inl ⟨by rfl, ?qyu18⟩) (by assumption) ?qru18; case qyu18 => ((intro w hSw; (try dsimp only at hSw); go_simp); try (with_reducible rfl))
    ((try simp only [List.getElem_toArray]); (try simp only [List.getElem_cons_succ]); (try simp only [List.getElem_cons_zero]); (try simp only [Act.put]); (try simp only [List.setIfInBounds_toArray]); (try simp only [List.set_cons_succ]); (try simp only [List.set_cons_zero]))
    refine wpAnyH_take (i := 9) (v := ?qvu19) rfl (by kernel_rfl) (by kernel_rfl) (by kernel_rfl) (fun _ _ _ h => h) (Or.inl ⟨by rfl, ?qyu19⟩) (by assumption) ?qru19; case qyu19 => ((intro w hSw; (try dsimp only at hSw); go_simp); try (with_reducible rfl))
    ((try simp only [List.getElem_toArray]); (try simp only [List.getElem_cons_succ]); (try simp only [List.getElem_cons_zero]); (try simp only [Act.put]); (try simp only [List.setIfInBounds_toArray]); (try simp only [List.set_cons_succ]); (try simp only [List.set_cons_zero]))
    refine wpAnyH_take (i := 10) (v := ?qvu20) rfl (by kernel_rfl) (by kernel_rfl) (by kernel_rfl) (fun _ _ _ h => h) (Or.inl ⟨by rfl, ?qyu20⟩) (by assumption) ?qru20; case qyu20 => ((intro w hSw; (try dsimp only at hSw); go_simp); try (with_reducible rfl))
    ((try simp only [List.getElem_toArray]); (try simp only [List.getElem_cons_succ]); (try simp only [List.getElem_cons_zero]); (try simp only [Act.put]); (try simp only [List.setIfInBounds_toArray]); (try simp only [List.set_cons_succ]); (try simp only [List.set_cons_zero]))
    refine wpAnyH_take (i := 11) (v := ?qvu21) rfl (by kernel_rfl) (by kernel_rfl) (by kernel_rfl) (fun _ _ _ h => h) (Or.inl ⟨by rfl, ?qyu21⟩) (by assumption) ?qru21; case qyu21 => ((intro w hSw; (try dsimp only at hSw); go_simp); try (with_reducible rfl))
    ((try simp only [List.getElem_toArray]); (try simp only [List.getElem_cons_succ]); (try simp only [List.getElem_cons_zero]); (try simp only [Act.put]); (try simp only [List.setIfInBounds_toArray]); (try simp only [List.set_cons_succ]); (try simp only [List.set_cons_zero]))
    refine wpAnyH_take (i := 12) (v := ?qvu22) rfl (by kernel_rfl) (by kernel_rfl) (by kernel_rfl) (fun _ _ _ h => h) (Or.inl ⟨by rfl, ?qyu22⟩) (by assumption) ?qru22; case qyu22 => ((intro w hSw; (try dsimp only at hSw); go_simp); try (with_reducible rfl))
    ((try simp only [List.getElem_toArray]); (try simp only [List.getElem_cons_succ]); (try simp only [List.getElem_cons_zero]); (try simp only [Act.put]); (try simp only [List.setIfInBounds_toArray]); (try simp only [List.set_cons_succ]); (try simp only [List.set_cons_zero]))
    refine wpAnyH_take (i := 14) (v := ?qvu23) rfl (by kernel_rfl) (by kernel_rfl) (by kernel_rfl) (fun _ _ _ h => h) (Or.inl ⟨by rfl, ?qyu23⟩) (by assumption) ?qru23; case qyu23 => ((intro w hSw; (try dsimp only at hSw); go_simp); try (with_reducible rfl))
    ((try simp only [List.getElem_toArray]); (try simp only [List.getElem_cons_succ]); (try simp only [List.getElem_cons_zero]); (try simp only [Act.put]); (try simp only [List.setIfInBounds_toArray]); (try simp only [List.set_cons_succ]); (try simp only [List.set_cons_zero]))
    refine wpAnyH_take (i := 15) (v := ?qvu24) rfl (by kernel_rfl) (by kernel_rfl) (by kernel_rfl) (fun _ _ _ h => h) (Or.inl ⟨by rfl, ?qyu24⟩) (by assumption) ?qru24; case qyu24 => ((intro w hSw; (try dsimp only at hSw); go_simp); try (with_reducible rfl))
    ((try simp only [List.getElem_toArray]); (try simp only [List.getElem_cons_succ]); (try simp only [List.getElem_cons_zero]); (try simp only [Act.put]); (try simp only [List.setIfInBounds_toArray]); (try simp only [List.set_cons_succ]); (try simp only [List.set_cons_zero]))
    refine wpAnyH_take (i := 16) (v := ?qvu25) rfl (by kernel_rfl) (by kernel_rfl) (by kernel_rfl) (fun _ _ _ h => h) (Or.inl ⟨by rfl, ?qyu25⟩) (by assumption) ?qru25; case qyu25 => ((intro w hSw; (try dsimp only at hSw); go_simp); try (with_reducible rfl))
    ((try simp only [List.getElem_toArray]); (try simp only [List.getElem_cons_succ]); (try simp only [List.getElem_cons_zero]); (try simp only [Act.put]); (try simp only [List.setIfInBounds_toArray]); (try simp only [List.set_cons_succ]); (try simp only [List.set_cons_zero]))
    refine wpAnyH_take (i := 17) (v := ?qvu26) rfl (by kernel_rfl) (by kernel_rfl) (by kernel_rfl) (fun _ _ _ h => h) (Or.inl ⟨by rfl, ?qyu26⟩) (by assumption) ?qru26; case qyu26 => ((intro w hSw; (try dsimp only at hSw); go_simp); try (with_reducible rfl))
    ((try simp only [List.getElem_toArray]); (try simp only [List.getElem_cons_succ]); (try simp only [List.getElem_cons_zero]); (try simp only [Act.put]); (try simp only [List.setIfInBounds_toArray]); (try simp only [List.set_cons_succ]); (try simp only [List.set_cons_zero]))
    refine wpAnyH_ready (rs := [13]) (by kernel_rfl) (by simp) ?_
    refine AllReadyH.cons rfl (fun K hK => ?_) AllReadyH.nil
    go_simp
    refine (pfirst_to (looks_maytells _ _ _ _ _) hT3 ws hrow3 a4 a5 R eR).mono ?_
    rintro e y5 ⟨rfl, b5⟩
    have hT3 := hT3.below b5
    have hrow3 := hrow3.below b5
    have b3 := thru b3 b5
    clear b5
    refine hK.out _ _ hT3.v (fun hHeld => ?_)
    clear hK K
    ((try simp only [List.getElem_toArray]); (try simp only [List.getElem_cons_succ]); (try simp only [List.getElem_cons_zero]); (try simp only [Act.put]); (try simp only [List.setIfInBounds_toArray]); (try simp only [List.set_cons_succ]); (try simp only [List.set_cons_zero]))
    refine wpAnyH_ready (rs := [18]) (by kernel_rfl) (by simp) ?_
    refine AllReadyH.cons rfl (fun K hK => ?_) AllReadyH.nil
    go_simp
    have hR := rfirst_any hT3.o hrow3 a4 a5
    rw [eR] at hR
    refine hR.mono ?_
    rintro e y6 ⟨rfl, b6⟩
    have hT3 := hT3.below b6
    have b3 := thru b3 b6
    clear b6 hR
    refine hK.out _ _ hT3.v (fun hHeld => ?_)
    clear hK K
    ((try simp only [List.getElem_toArray]); (try simp only [List.getElem_cons_succ]); (try simp only [List.getElem_cons_zero]); (try simp only [Act.put]); (try simp only [List.setIfInBounds_toArray]); (try simp only [List.set_cons_succ]); (try simp only [List.set_cons_zero]))
    refine wpAnyH_take (i := 19) (v := ?qvu27) rfl (by kernel_rfl) (by kernel_rfl) (by kernel_rfl) (fun _ _ _ h => h) (Or.inl ⟨by rfl, ?qyu27⟩) (by assumption) ?qru27; case qyu27 => ((intro w hSw; (try dsimp only at hSw); go_simp); try (with_reducible rfl))
    ((try simp only [List.getElem_toArray]); (try simp only [List.getElem_cons_succ]); (try simp only [List.getElem_cons_zero]); (try simp only [Act.put]); (try simp only [List.setIfInBounds_toArray]); (try simp only [List.set_cons_succ]); (try simp only [List.set_cons_zero]))
    refine wpAnyH_take (i := 20) (v := ?qvu28) rfl (by kernel_rfl) (by kernel_rfl) (by kernel_rfl) (fun _ _ _ h => h) (Or.inl ⟨by rfl, ?qyu28⟩) (by assumption) ?qru28; case qyu28 => ((intro w hSw; (try dsimp only at hSw); go_simp); try (with_reducible rfl))
    ((try simp only [List.getElem_toArray]); (try simp only [List.getElem_cons_succ]); (try simp only [List.getElem_cons_zero]); (try simp only [Act.put]); (try simp only [List.setIfInBounds_toArray]); (try simp only [List.set_cons_succ]); (try simp only [List.set_cons_zero]))
    refine wpAnyH_take (i := 21) (v := ?qvu29) rfl (by kernel_rfl) (by kernel_rfl) (by kernel_rfl) (fun _ _ _ h => h) (Or.inl ⟨by rfl, ?qyu29⟩) (by assumption) ?qru29; case qyu29 => ((intro w hSw; (try dsimp only at hSw); go_simp); try (with_reducible rfl))
    ((try simp only [List.getElem_toArray]); (try simp only [List.getElem_cons_succ]); (try simp only [List.getElem_cons_zero]); (try simp only [Act.put]); (try simp only [List.setIfInBounds_toArray]); (try simp only [List.set_cons_succ]); (try simp only [List.set_cons_zero]))
    refine wpAnyH_ready (rs := [22]) (by kernel_rfl) (by simp) ?_
    refine AllReadyH.cons rfl (fun K hK => ?_) AllReadyH.nil
    go_simp
    refine (awake8_any _).mono ?_
    rintro e y7 ⟨rfl, b7⟩
    have hT3 := hT3.below b7
    have b3 := thru b3 b7
    clear b7
    refine hK.out _ _ hT3.v (fun hHeld => ?_)
    clear hK K
    ((try simp only [List.getElem_toArray]); (try simp only [List.getElem_cons_succ]); (try simp only [List.getElem_cons_zero]); (try simp only [Act.put]); (try simp only [List.setIfInBounds_toArray]); (try simp only [List.set_cons_succ]); (try simp only [List.set_cons_zero]))
    refine wpAnyH_take (i := 23) (v := ?qvu30) rfl (by kernel_rfl) (by kernel_rfl) (by kernel_rfl) (fun _ _ _ h => h) (Or.inl ⟨by rfl, ?qyu30⟩) (by assumption) ?qru30; case qyu30 => ((intro w hSw; (try dsimp only at hSw); go_simp); try (with_reducible rfl))
    ((try simp only [List.getElem_toArray]); (try simp only [List.getElem_cons_succ]); (try simp only [List.getElem_cons_zero]); (try simp only [Act.put]); (try simp only [List.setIfInBounds_toArray]); (try simp only [List.set_cons_succ]); (try simp only [List.set_cons_zero]))
    refine wpAnyH_take (i := 24) (v := ?qvu31) rfl (by kernel_rfl) (by kernel_rfl) (by kernel_rfl) (fun _ _ _ h => h) (Or.inl ⟨by rfl, ?qyu31⟩) (by assumption) ?qru31; case qyu31 => ((intro w hSw; (try dsimp only at hSw); go_simp); try (with_reducible rfl))
    ((try simp only [List.getElem_toArray]); (try simp only [List.getElem_cons_succ]); (try simp only [List.getElem_cons_zero]); (try simp only [Act.put]); (try simp only [List.setIfInBounds_toArray]); (try simp only [List.set_cons_succ]); (try simp only [List.set_cons_zero]))
    refine wpAnyH_done (by kernel_rfl) ?_ _
    go_wp2
    go_ret
    exact ⟨rfl, b3⟩
theorem own : ownKnob Try.prog.godebug = none := by kernel_rfl
theorem laidOut : laidOutB Try.prog = true := by kernel_rfl
set_option maxRecDepth 100000 in
theorem lifted (os : Os) (started : os.Started) (H : Type) (enc : TypeId × Value → H) :
    ReturnsInHanded {} Try.checked os 12 .any (Rows.mayTellsSpec.pre6 enc Try.prog Try.f12 Rows.mayTellsRow.domain false) (Rows.mayTellsSpec.post enc Try.prog Try.f12 false true false false) := by
  refine returnsInHanded_of_change (C := Try.checked) own started (by kernel_rfl) Try.func12
    (ChangeSpec.witness6 (enc := enc) (C := Try.checked) false ⟨#[], #[.int .i64 0, .int .u64 0, .slice none 0 0, .slice none 0 0, .int .i64 0, .int .u64 0, .slice none 0 0], []⟩ 8 (by kernel_rfl) (by kernel_rfl) (by kernel_rfl) (by kernel_rfl)) ?_
  intro W base args ds gs before hval0 hW hcnd _
  have hval : ∀ (j : Nat) t v, Try.f12.params[j]? = some t → args[j]? = some v → Value.okWide Try.prog W .any base t v := hval0
  have hW' := hW
  obtain ⟨p, q, hA0, hV, rfl, hfz, hnd⟩ := hW
  have hA : DataW.TrodAll enc Try.prog W 0 (fun _ => true) true Try.f12.params.toList args.toList ds p := hA0
  rw [Try.params12] at hA hval
  obtain ⟨v0, vs0, d0, ds0, p0, q0, hargs, rfl, rfl, h0, r0⟩ := trodAll_cons hA
  obtain ⟨v1, vs1, d1, ds1, p1, q1, rfl, rfl, rfl, h1, r1⟩ := trodAll_cons r0
  obtain ⟨v2, vs2, d2, ds2, p2, q2, rfl, rfl, rfl, h2, r2⟩ := trodAll_cons r1
  obtain ⟨v3, vs3, d3, ds3, p3, q3, rfl, rfl, rfl, h3, r3⟩ := trodAll_cons r2
  obtain ⟨v4, vs4, d4, ds4, p4, q4, rfl, rfl, rfl, h4, r4⟩ := trodAll_cons r3
  obtain ⟨v5, vs5, d5, ds5, p5, q5, rfl, rfl, rfl, h5, r5⟩ := trodAll_cons r4
  obtain ⟨v6, vs6, d6, ds6, p6, q6, rfl, rfl, rfl, h6, r6⟩ := trodAll_cons r5
  obtain ⟨rfl, rfl, rfl⟩ := trodAll_nil r6
  obtain rfl : args = #[v0, v1, v2, v3, v4, v5, v6] := by cases args; simp_all
  obtain ⟨rfl, rfl⟩ := trodVars_none hV
  obtain ⟨a0, rfl, rfl, rfl, w0⟩ := open_int Try.underlying3 (hval 0 3 v0 rfl rfl) h0
  obtain ⟨a1, rfl, rfl, rfl, w1⟩ := open_int Try.underlying22 (hval 1 22 v1 rfl rfl) h1
  obtain ⟨a2, len2, cap2, rfl⟩ := okWide_slice Try.underlying26 (hval 2 26 v2 rfl rfl)
  have k2 := h2
  have lt2 : ∀ x ∈ p2, x.block < W.heap.size := by obtain ⟨m, hm⟩ := k2; exact DataW.trod_lt m _ _ _ hm
  obtain ⟨z2, w2⟩ : ∃ zs, IsRow .i64 W a2 len2 cap2 zs := is_row Try.underlying26 Try.underlying3 (by kernel_rfl) h2
  obtain ⟨a3, len3, cap3, rfl⟩ := okWide_slice Try.underlying48 (hval 3 48 v3 rfl rfl)
  have k3 := h3
  have lt3 : ∀ x ∈ p3, x.block < W.heap.size := by obtain ⟨m, hm⟩ := k3; exact DataW.trod_lt m _ _ _ hm
  obtain ⟨z3, w3⟩ : ∃ zs, IsRow .u64 W a3 len3 cap3 zs := is_row Try.underlying48 Try.underlying22 (by kernel_rfl) h3
  obtain ⟨a4, rfl, rfl, rfl, w4⟩ := open_int Try.underlying3 (hval 4 3 v4 rfl rfl) h4
  obtain ⟨a5, rfl, rfl, rfl, w5⟩ := open_int Try.underlying22 (hval 5 22 v5 rfl rfl) h5
  obtain ⟨a6, len6, cap6, rfl⟩ := okWide_slice Try.underlying32 (hval 6 32 v6 rfl rfl)
  have k6 := h6
  have lt6 : ∀ x ∈ p6, x.block < W.heap.size := by obtain ⟨m, hm⟩ := k6; exact DataW.trod_lt m _ _ _ hm
  obtain ⟨z6, w6⟩ : ∃ f, IsOth W a6 len6 cap6 f := is_oth h6
  clear hA0 hval0
  refine (walk a0 a1 a2 len2 cap2 z2 a3 len3 cap3 z3 a4 a5 a6 len6 cap6 z6 W w0 w1 w2 w3 w4 w5 w6).mono fun e W' ⟨he, bel⟩ => ?_
  subst he
  exact ⟨_, rfl, _, _, _, [], _, [], hW', trodAll_mk1 (shut_bool Try.underlying4 _), (trodAll_cons_mk (shut_int Try.underlying3 w0) (trodAll_cons_mk (shut_int Try.underlying22 w1) (trodAll_cons_mk (Below.trod laidOut (by kernel_rfl) (of_decide_eq_true (by kernel_rfl)) k2 bel lt2) (trodAll_cons_mk (Below.trod laidOut (by kernel_rfl) (of_decide_eq_true (by kernel_rfl)) k3 bel lt3) (trodAll_cons_mk (shut_int Try.underlying3 w4) (trodAll_cons_mk (shut_int Try.underlying22 w5) (trodAll_cons_mk (Below.trod laidOut (by kernel_rfl) (of_decide_eq_true (by kernel_rfl)) k6 bel lt6) trodAll_mk0))))))), rfl, bel.frame _, fun h => by cases h⟩
theorem over : Rows.mayTellsRow.holds Try.pinned (OpenSpec.ofChange Rows.mayTellsSpec) :=
  OpenClaim.holds_of_wide 12 Try.f12 rfl rfl rfl rfl rfl rfl rfl ⟨rfl, rfl, rfl, rfl, rfl⟩ rfl rfl rfl rfl rfl (by kernel_rfl) Try.func12 (by kernel_rfl)
    (of_decide_eq_true (by kernel_rfl)) (by unfold Func.isWrapper; first | (rw [if_pos (by decide +kernel)]; kernel_rfl) | (rw [if_neg (by decide +kernel)]; exact ⟨rfl, rfl⟩))
    (fun os started H enc _ => lifted os started H enc)
theorem proved : Rows.MayTellsSaid := over
end Go.Proofs.Ytdkgngdfehllcaa.mayTells
