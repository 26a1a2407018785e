/- Package bond: carry and bind; conditions: what the Bonds are, the table of math/bits. -/
import Derived.Test.YtjobphjpfknfeaaDoorBnR
import Derived.Test.YtjobphjpfknfeaaDoorBnF
import Derived.Deep.CutRange
namespace Go.Proofs.YtjobphjpfknfeaaDoor
open Go.ChangeShapes Go.WideShapes Go.ChangeAt Go.RowKit
set_option linter.unusedVariables false
open Classical

section
variable {w w' w2 : World} {p m c o i kx ky : Nat} {v u : Value} {bs zs L : List Nat} {xs : List Pty} {A D : Nat → Prop} {B n : Nat} {bx byy : Nat}
/-- More that it waits for; more that wait for it. -/
def jbP (D : Nat → Prop) (x : Pty) : Pty := { x with be := fun z => x.be z ∨ D z }
def jaP (A : Nat → Prop) (x : Pty) : Pty := { x with ab := fun z => x.ab z ∨ A z }
def CaR (w3 : World) (p m : Nat) (vv : Value) (bs : List Nat) (f : Pty → Pty) (xs : List Pty) (L : List Nat) (q : Value) (wr : World) : Prop :=
  ∃ j : Nat, j ≤ L.length ∧ q = .int .i64 j ∧ BdC wr p m vv bs (updL f xs (L.take j)) ∧ Keep (PFt bs xs.length) w3 wr
/-- A new block of 32 words. -/
def Raw (w : World) (g : Nat) : Prop := ∃ cur, cur.size = 32 ∧ w.heap[g]? = some (.cells cur 71 (0, 0))
def TwoR (w : World) (A D : Nat → Prop) (v6 v7 : Value) (wx : World) : Prop := ∃ g6 g7, v6 = .pointer (some ⟨g6, 0, none⟩) ∧ v7 = .pointer (some ⟨g7, 0, none⟩) ∧ g6 ≠ g7 ∧ SetB wx g6 A ∧ SetB wx g7 D ∧ Keep (fun _ => False) w wx ∧ w.heap.size ≤ g6 ∧ w.heap.size ≤ g7
theorem exec_load_set {P : Nat → Prop} {b : Nat} (h : SetAt w b o P) {ev : Operand → Value} {oo : Oper} (x : Operand) (ho : oo.op = .load 71 x) (hx : ev x = .pointer (some ⟨b, o, none⟩)) : (execOp ev oo).run Tryd.prog w = .ok (.value (.agg (setArr P))) w := by
  unfold execOp
  simp only [ho, hx, Instr.loadAt, Instr.sureAddr, Sem.run_bind, Sem.run_pure, Result.andThen_ok, run_load_set h]
theorem raw_new (w : World) (cur : Array Value) (h : cur.size = 32) : Raw (w.alloc (.cells cur 71)) w.heap.size := ⟨cur, h, heap_alloc_new w _⟩
theorem Raw.keep {T : Nat → Prop} (h : Raw w i) (k : Keep T w w') (hn : ¬ T i) : Raw w' i := by
  obtain ⟨cur, h1, h2⟩ := h
  exact ⟨cur, h1, (k.block i (lt_of_block h2) hn).trans h2⟩
theorem SetB.keep {T P : Nat → Prop} (h : SetB w i P) (k : Keep T w w') (hn : ¬ T i) : SetB w' i P := (k.block i (lt_of_block h) hn).trans h
theorem Raw.lt (h : Raw w i) : i < w.heap.size := by
  obtain ⟨cur, h1, h2⟩ := h
  exact lt_of_block h2
set_option maxRecDepth 100000 in
set_option maxHeartbeats 8000000 in
theorem carry_any (h : BdC w p m v bs xs) (kx ky : Nat) (hkx : kx < xs.length) (hky : ky < xs.length) (hA : ∀ q, q < 2048 → (pty xs kx).ab q → q < xs.length) (hD : ∀ q, q < 2048 → (pty xs ky).be q → q < xs.length) (hT : TabW w) (ht : 0 < w.heap.size) (hG : ¬ PFt bs xs.length 0) :
    Calls Tryd.prog 41 #[.pointer (some ⟨p, 0, none⟩), .pointer (some ⟨bs.getD kx 0, 0, none⟩), .pointer (some ⟨bs.getD ky 0, 0, none⟩)] w fun r w' => r = .returned (.tuple #[]) ∧ BdC w' p m v bs (updL (jaP fun q => (pty xs kx).ab q ∨ q = kx) (updL (jbP fun q => (pty xs ky).be q ∨ q = ky) xs (plc (fun q => ((pty xs kx).ab q ∨ q = kx) ∧ ¬ (pty xs ky).ab q) 2048)) (plc (fun q => ((pty xs ky).be q ∨ q = ky) ∧ ¬ (pty xs kx).be q) 2048)) ∧ Keep (PFt bs xs.length) w w' := by
  have hX := h.en kx hkx
  have hY := h.en ky hky
  obtain ⟨bx, ebx⟩ : ∃ b, bs.getD kx 0 = b := ⟨_, rfl⟩
  obtain ⟨byy, eby⟩ : ∃ b, bs.getD ky 0 = b := ⟨_, rfl⟩
  have EBX := Lib.hid ebx
  have EBY := Lib.hid eby
  rw [ebx] at hX ⊢
  rw [eby] at hY ⊢
  have xl := h.short
  have hx := hX.s3
  have hy := hY.s2
  obtain ⟨A, eA⟩ : ∃ A, (pty xs kx).ab = A := ⟨_, rfl⟩
  obtain ⟨D, eD⟩ : ∃ D, (pty xs ky).be = D := ⟨_, rfl⟩
  rw [eA] at hx hA
  rw [eD] at hy hD
  have EA := Lib.hid eA
  have ED := Lib.hid eD
  have H := Lib.hid h
  have HX := Lib.hid hX
  have HY := Lib.hid hY
  clear ebx eby h hX hY eA eD
  go_enter Tryd.func41, Tryd.ntmps41
  have lbx := hx.lt
  have lby := hy.lt
  go_upto_region 0 with fail
  go_cut [6, 7] from 14 to 21 (fun v6 v7 wx => TwoR w A D v6 v7 wx)
  case first =>
    go_wp2_with fail
    have kc : Keep (fun _ => False) w w.drew := (Keep.refl _ _).drew
    refine wp_region_held_drew (S := fun w' => SetAt w' bx 70 A ∧ SetAt w' byy 38 D) (by kernel_rfl) ⟨⟨hx.cell, hx.fz⟩, ⟨hy.cell, hy.fz⟩⟩ (fun hHeld => ?_)
    generalize w.drew = Z at kc hHeld ⊢
    refine wpAnyH_take (i := 0) (v := ?qvy0) rfl (by kernel_rfl) (by kernel_rfl) (by kernel_rfl) (fun _ _ _ h => h) (Or.inl ⟨by rfl, ?qyy0⟩) (by assumption) ?qry0; case qyy0 => ((intro w hSw; (try dsimp only at hSw); go_simp); try (with_reducible rfl))
    ((try simp only [List.getElem_toArray]); (try simp only [List.getElem_cons_succ]); (try simp only [List.getElem_cons_zero]); (try simp only [Act.put]); (try simp only [List.setIfInBounds_toArray]); (try simp only [List.set_cons_succ]); (try simp only [List.set_cons_zero]))
    refine wpAnyH_take (i := 1) (v := ?qvy1) rfl (by kernel_rfl) (by kernel_rfl) (by kernel_rfl) (fun _ _ _ h => h) (Or.inl ⟨by rfl, ?qyy1⟩) (by assumption) ?qry1; case qyy1 => ((intro w hSw; (try dsimp only at hSw); go_simp); try (with_reducible rfl))
    ((try simp only [List.getElem_toArray]); (try simp only [List.getElem_cons_succ]); (try simp only [List.getElem_cons_zero]); (try simp only [Act.put]); (try simp only [List.setIfInBounds_toArray]); (try simp only [List.set_cons_succ]); (try simp only [List.set_cons_zero]))
    refine wpAnyH_take (i := 2) (v := ?qvy2) rfl (by kernel_rfl) (by kernel_rfl) (by kernel_rfl) (fun _ _ _ h => h) (Or.inl ⟨by rfl, ?qyy2⟩) (by assumption) ?qry2; case qyy2 => ((intro w hSw; (try dsimp only at hSw); go_simp); try (with_reducible rfl))
    ((try simp only [List.getElem_toArray]); (try simp only [List.getElem_cons_succ]); (try simp only [List.getElem_cons_zero]); (try simp only [Act.put]); (try simp only [List.setIfInBounds_toArray]); (try simp only [List.set_cons_succ]); (try simp only [List.set_cons_zero]))
    refine wpAnyH_take (i := 3) (v := .agg (setArr A)) rfl (by kernel_rfl) (by kernel_rfl) (by kernel_rfl) (fun _ _ _ h => h) (Or.inl ⟨by rfl, ?qy3⟩) (by assumption) ?qr3
    case qy3 =>
      intro w hSw
      exact exec_load_set hSw.1 (.tmp 16) rfl rfl
    ((try simp only [List.getElem_toArray]); (try simp only [List.getElem_cons_succ]); (try simp only [List.getElem_cons_zero]); (try simp only [Act.put]); (try simp only [List.setIfInBounds_toArray]); (try simp only [List.set_cons_succ]); (try simp only [List.set_cons_zero]))
    refine wpAnyH_take (i := 4) (v := ?qvy4) rfl (by kernel_rfl) (by kernel_rfl) (by kernel_rfl) (fun _ _ _ h => h) (Or.inl ⟨by rfl, ?qyy4⟩) (by assumption) ?qry4; case qyy4 => ((intro w hSw; (try dsimp only at hSw); go_simp); try (with_reducible rfl))
    ((try simp only [List.getElem_toArray]); (try simp only [List.getElem_cons_succ]); (try simp only [List.getElem_cons_zero]); (try simp only [Act.put]); (try simp only [List.setIfInBounds_toArray]); (try simp only [List.set_cons_succ]); (try simp only [List.set_cons_zero]))
    refine wpAnyH_take (i := 5) (v := ?qvy5) rfl (by kernel_rfl) (by kernel_rfl) (by kernel_rfl) (fun _ _ _ h => h) (Or.inl ⟨by rfl, ?qyy5⟩) (by assumption) ?qry5; case qyy5 => ((intro w hSw; (try dsimp only at hSw); go_simp); try (with_reducible rfl))
    ((try simp only [List.getElem_toArray]); (try simp only [List.getElem_cons_succ]); (try simp only [List.getElem_cons_zero]); (try simp only [Act.put]); (try simp only [List.setIfInBounds_toArray]); (try simp only [List.set_cons_succ]); (try simp only [List.set_cons_zero]))
    refine wpAnyH_take (i := 6) (v := ?qvy6) rfl (by kernel_rfl) (by kernel_rfl) (by kernel_rfl) (fun _ _ _ h => h) (Or.inl ⟨by rfl, ?qyy6⟩) (by assumption) ?qry6; case qyy6 => ((intro w hSw; (try dsimp only at hSw); go_simp); try (with_reducible rfl))
    ((try simp only [List.getElem_toArray]); (try simp only [List.getElem_cons_succ]); (try simp only [List.getElem_cons_zero]); (try simp only [Act.put]); (try simp only [List.setIfInBounds_toArray]); (try simp only [List.set_cons_succ]); (try simp only [List.set_cons_zero]))
    refine wpAnyH_take (i := 7) (v := .agg (setArr D)) rfl (by kernel_rfl) (by kernel_rfl) (by kernel_rfl) (fun _ _ _ h => h) (Or.inl ⟨by rfl, ?qy7⟩) (by assumption) ?qr7
    case qy7 =>
      intro w hSw
      exact exec_load_set hSw.2 (.tmp 20) rfl rfl
    ((try simp only [List.getElem_toArray]); (try simp only [List.getElem_cons_succ]); (try simp only [List.getElem_cons_zero]); (try simp only [Act.put]); (try simp only [List.setIfInBounds_toArray]); (try simp only [List.set_cons_succ]); (try simp only [List.set_cons_zero]))
    refine wpAnyH_ready (rs := [8, 9]) (by kernel_rfl) (by simp) ?_
    refine AllReadyH.cons rfl (fun K hK => ?_) (AllReadyH.cons rfl (fun K hK => ?_) AllReadyH.nil)
    · go_simp
      generalize hZA : Z.alloc _ = ZA
      have ra : Raw ZA Z.heap.size := by rw [← hZA]; exact raw_new Z _ rfl
      have ka : Keep (fun _ => False) Z ZA := by rw [← hZA]; exact (Keep.refl _ _).alloc _
      clear hZA
      refine hK.out _ _ ⟨hHeld.1.keep ka id, hHeld.2.keep ka id⟩ (fun hHeld => ?_)
      clear hK K
      obtain ⟨g6, ea⟩ : ∃ g, Z.heap.size = g := ⟨_, rfl⟩
      rw [ea] at ra ⊢
      ((try simp only [List.getElem_toArray]); (try simp only [List.getElem_cons_succ]); (try simp only [List.getElem_cons_zero]); (try simp only [Act.put]); (try simp only [List.setIfInBounds_toArray]); (try simp only [List.set_cons_succ]); (try simp only [List.set_cons_zero]))
      refine wpAnyH_ready (rs := [9]) (by kernel_rfl) (by simp) ?_
      refine AllReadyH.cons rfl (fun K hK => ?_) AllReadyH.nil
      go_simp
      generalize hZB : ZA.alloc _ = ZB
      have rb : Raw ZB ZA.heap.size := by rw [← hZB]; exact raw_new ZA _ rfl
      have kb : Keep (fun _ => False) ZA ZB := by rw [← hZB]; exact (Keep.refl _ _).alloc _
      clear hZB
      refine hK.out _ _ ⟨hHeld.1.keep kb id, hHeld.2.keep kb id⟩ (fun hHeld => ?_)
      clear hK K
      have lab := ra.lt
      obtain ⟨g7, eb⟩ : ∃ g, ZA.heap.size = g := ⟨_, rfl⟩
      rw [eb] at rb lab ⊢
      ((try simp only [List.getElem_toArray]); (try simp only [List.getElem_cons_succ]); (try simp only [List.getElem_cons_zero]); (try simp only [Act.put]); (try simp only [List.setIfInBounds_toArray]); (try simp only [List.set_cons_succ]); (try simp only [List.set_cons_zero]))
      have ra := ra.keep kb id
      have ws : w.heap.size ≤ g6 := by rw [← ea]; exact kc.size
      have r6 : Raw ZB g6 := ra
      have r7 : Raw ZB g7 := rb
      have n67 : g6 ≠ g7 := by omega
      have l6 : w.heap.size ≤ g6 := by omega
      have l7 : w.heap.size ≤ g7 := by omega
      have kw : Keep (fun _ => False) w ZB := (kc.trans ka).trans kb
      obtain ⟨cur6, hc6, hb6⟩ := r6
      refine wpAnyH_ready (rs := [10]) (by kernel_rfl) (by simp) ?_
      refine AllReadyH.cons rfl (fun K hK => ?_) AllReadyH.nil
      refine step_store_set rfl (.tmp 6) (.tmp 17) rfl rfl rfl rfl hb6 hc6 fun Z8 s8 => ?_
      refine hK.out _ _ ⟨hHeld.1.keep s8.2 (by show ¬ bx = g6; omega), hHeld.2.keep s8.2 (by show ¬ byy = g6; omega)⟩ (fun hHeld => ?_)
      clear hK K
      ((try simp only [List.getElem_toArray]); (try simp only [List.getElem_cons_succ]); (try simp only [List.getElem_cons_zero]); (try simp only [Act.put]); (try simp only [List.setIfInBounds_toArray]); (try simp only [List.set_cons_succ]); (try simp only [List.set_cons_zero]))
      have r7 := r7.keep s8.2 (by show ¬ g7 = g6; omega)
      obtain ⟨cur7, hc7, hb7⟩ := r7
      refine wpAnyH_ready (rs := [11]) (by kernel_rfl) (by simp) ?_
      refine AllReadyH.cons rfl (fun K hK => ?_) AllReadyH.nil
      refine step_store_set rfl (.tmp 7) (.tmp 21) rfl rfl rfl rfl hb7 hc7 fun Z9 s9 => ?_
      refine hK.out _ _ ⟨hHeld.1.keep s9.2 (by show ¬ bx = g7; omega), hHeld.2.keep s9.2 (by show ¬ byy = g7; omega)⟩ (fun hHeld => ?_)
      clear hK K
      ((try simp only [List.getElem_toArray]); (try simp only [List.getElem_cons_succ]); (try simp only [List.getElem_cons_zero]); (try simp only [Act.put]); (try simp only [List.setIfInBounds_toArray]); (try simp only [List.set_cons_succ]); (try simp only [List.set_cons_zero]))
      have R : TwoR w A D (.pointer (some ⟨g6, 0, none⟩)) (.pointer (some ⟨g7, 0, none⟩)) Z9 := ⟨g6, g7, rfl, rfl, n67, s8.1.keep s9.2 (by show ¬ g6 = g7; omega), s9.1, (kw.older (s8.2.mono (T := fun g => g = g6 ∨ g = g7) fun g e => .inl e) (fun j hj => by omega)).older (s9.2.mono (T := fun g => g = g6 ∨ g = g7) fun g e => .inr e) (fun j hj => by omega), l6, l7⟩
      have R := Lib.hid R
      refine wpAnyH_done (by kernel_rfl) ?_ _
      clear hHeld s8 s9 ra rb ka kb kc kw hb6 hc6 hb7 hc7
      go_wp2_with fail
      go_meet
      case rel => exact R.out
    · go_simp
      generalize hZA : Z.alloc _ = ZA
      have ra : Raw ZA Z.heap.size := by rw [← hZA]; exact raw_new Z _ rfl
      have ka : Keep (fun _ => False) Z ZA := by rw [← hZA]; exact (Keep.refl _ _).alloc _
      clear hZA
      refine hK.out _ _ ⟨hHeld.1.keep ka id, hHeld.2.keep ka id⟩ (fun hHeld => ?_)
      clear hK K
      obtain ⟨g7, ea⟩ : ∃ g, Z.heap.size = g := ⟨_, rfl⟩
      rw [ea] at ra ⊢
      ((try simp only [List.getElem_toArray]); (try simp only [List.getElem_cons_succ]); (try simp only [List.getElem_cons_zero]); (try simp only [Act.put]); (try simp only [List.setIfInBounds_toArray]); (try simp only [List.set_cons_succ]); (try simp only [List.set_cons_zero]))
      refine wpAnyH_ready (rs := [8]) (by kernel_rfl) (by simp) ?_
      refine AllReadyH.cons rfl (fun K hK => ?_) AllReadyH.nil
      go_simp
      generalize hZB : ZA.alloc _ = ZB
      have rb : Raw ZB ZA.heap.size := by rw [← hZB]; exact raw_new ZA _ rfl
      have kb : Keep (fun _ => False) ZA ZB := by rw [← hZB]; exact (Keep.refl _ _).alloc _
      clear hZB
      refine hK.out _ _ ⟨hHeld.1.keep kb id, hHeld.2.keep kb id⟩ (fun hHeld => ?_)
      clear hK K
      have lab := ra.lt
      obtain ⟨g6, eb⟩ : ∃ g, ZA.heap.size = g := ⟨_, rfl⟩
      rw [eb] at rb lab ⊢
      ((try simp only [List.getElem_toArray]); (try simp only [List.getElem_cons_succ]); (try simp only [List.getElem_cons_zero]); (try simp only [Act.put]); (try simp only [List.setIfInBounds_toArray]); (try simp only [List.set_cons_succ]); (try simp only [List.set_cons_zero]))
      have ra := ra.keep kb id
      have ws : w.heap.size ≤ g7 := by rw [← ea]; exact kc.size
      have r6 : Raw ZB g6 := rb
      have r7 : Raw ZB g7 := ra
      have n67 : g6 ≠ g7 := by omega
      have l6 : w.heap.size ≤ g6 := by omega
      have l7 : w.heap.size ≤ g7 := by omega
      have kw : Keep (fun _ => False) w ZB := (kc.trans ka).trans kb
      obtain ⟨cur6, hc6, hb6⟩ := r6
      refine wpAnyH_ready (rs := [10]) (by kernel_rfl) (by simp) ?_
      refine AllReadyH.cons rfl (fun K hK => ?_) AllReadyH.nil
      refine step_store_set rfl (.tmp 6) (.tmp 17) rfl rfl rfl rfl hb6 hc6 fun Z8 s8 => ?_
      refine hK.out _ _ ⟨hHeld.1.keep s8.2 (by show ¬ bx = g6; omega), hHeld.2.keep s8.2 (by show ¬ byy = g6; omega)⟩ (fun hHeld => ?_)
      clear hK K
      ((try simp only [List.getElem_toArray]); (try simp only [List.getElem_cons_succ]); (try simp only [List.getElem_cons_zero]); (try simp only [Act.put]); (try simp only [List.setIfInBounds_toArray]); (try simp only [List.set_cons_succ]); (try simp only [List.set_cons_zero]))
      have r7 := r7.keep s8.2 (by show ¬ g7 = g6; omega)
      obtain ⟨cur7, hc7, hb7⟩ := r7
      refine wpAnyH_ready (rs := [11]) (by kernel_rfl) (by simp) ?_
      refine AllReadyH.cons rfl (fun K hK => ?_) AllReadyH.nil
      refine step_store_set rfl (.tmp 7) (.tmp 21) rfl rfl rfl rfl hb7 hc7 fun Z9 s9 => ?_
      refine hK.out _ _ ⟨hHeld.1.keep s9.2 (by show ¬ bx = g7; omega), hHeld.2.keep s9.2 (by show ¬ byy = g7; omega)⟩ (fun hHeld => ?_)
      clear hK K
      ((try simp only [List.getElem_toArray]); (try simp only [List.getElem_cons_succ]); (try simp only [List.getElem_cons_zero]); (try simp only [Act.put]); (try simp only [List.setIfInBounds_toArray]); (try simp only [List.set_cons_succ]); (try simp only [List.set_cons_zero]))
      have R : TwoR w A D (.pointer (some ⟨g6, 0, none⟩)) (.pointer (some ⟨g7, 0, none⟩)) Z9 := ⟨g6, g7, rfl, rfl, n67, s8.1.keep s9.2 (by show ¬ g6 = g7; omega), s9.1, (kw.older (s8.2.mono (T := fun g => g = g6 ∨ g = g7) fun g e => .inl e) (fun j hj => by omega)).older (s9.2.mono (T := fun g => g = g6 ∨ g = g7) fun g e => .inr e) (fun j hj => by omega), l6, l7⟩
      have R := Lib.hid R
      refine wpAnyH_done (by kernel_rfl) ?_ _
      clear hHeld s8 s9 ra rb ka kb kc kw hb6 hc6 hb7 hc7
      go_wp2_with fail
      go_meet
      case rel => exact R.out
  case rest =>
    obtain ⟨g6, g7, rfl, rfl, n67, s6, s7, k0, l6, l7⟩ := hcut
    have ad6 := add_any (p := kx) s6.at (by omega)
    have cx := (HX.out.keep k0 id).c1
    clear hx hy lbx lby
    go_wp2_with fail
    refine ad6.mono ?_
    rintro e wa ⟨rfl, sb6, a6⟩
    have ka : Keep (fun g => w.heap.size ≤ g) w wa := (k0.mono fun _ e => e.elim).trans (sb6.keep.mono fun g e => by rw [e]; exact l6)
    have s7a := (s7.keep sb6.keep (by show ¬ g7 = g6; omega)).at
    have ad7 := add_any (p := ky) s7a (by omega)
    have cy := (HY.out.keep ka (by have := HY.out.lt; omega)).c1
    clear ad6 s6 s7 cx sb6 k0
    go_wp2_with fail
    refine ad7.mono ?_
    rintro e wd ⟨rfl, sb7, d7⟩
    have kd : Keep (fun g => w.heap.size ≤ g) w wd := ka.trans (sb7.keep.mono fun g e => by rw [e]; exact l7)
    have d6 := a6.keep sb7.keep (by show ¬ g6 = g7; omega)
    have lby := HY.out.lt
    have lbx := HX.out.lt
    have dY := (HY.out.keep kd (by omega)).s3
    have dX := (HX.out.keep kd (by omega)).s2
    clear ad7 s7a cy sb7 ka a6
    go_upto_region 3 with fail
    obtain ⟨Y, eY⟩ : ∃ Y, (pty xs ky).ab = Y := ⟨_, rfl⟩
    obtain ⟨X, eX⟩ : ∃ X, (pty xs kx).be = X := ⟨_, rfl⟩
    rw [eY] at dY
    rw [eX] at dX
    have lg6 := d6.lt
    have lg7 := d7.lt
    have lwd := kd.size
    obtain ⟨A2, eA2⟩ : ∃ S : Nat → Prop, (fun q => (A q ∨ q = kx) ∧ ¬ Y q) = S := ⟨_, rfl⟩
    obtain ⟨D2, eD2⟩ : ∃ S : Nat → Prop, (fun q => (D q ∨ q = ky) ∧ ¬ X q) = S := ⟨_, rfl⟩
    go_cut [8, 9] from 32 to 39 (fun v8 v9 wx => TwoR wd A2 D2 v8 v9 wx)
    case first =>
      go_wp2_with fail
      have kw : Keep (fun _ => False) wd wd.drew := (Keep.refl _ _).drew
      refine wp_region_held_drew (S := fun w' => SetAt w' g6 0 (fun q => A q ∨ q = kx) ∧ SetAt w' g7 0 (fun q => D q ∨ q = ky) ∧ SetAt w' byy 70 Y ∧ SetAt w' bx 38 X) (by kernel_rfl) ⟨⟨d6.cell, d6.fz⟩, ⟨d7.cell, d7.fz⟩, ⟨dY.cell, dY.fz⟩, ⟨dX.cell, dX.fz⟩⟩ (fun hHeld => ?_)
      generalize wd.drew = Z at kw hHeld ⊢
      refine wpAnyH_take (i := 0) (v := ?qvz0) rfl (by kernel_rfl) (by kernel_rfl) (by kernel_rfl) (fun _ _ _ h => h) (Or.inl ⟨by rfl, ?qyz0⟩) (by assumption) ?qrz0; case qyz0 => ((intro w hSw; (try dsimp only at hSw); go_simp); try (with_reducible rfl))
      ((try simp only [List.getElem_toArray]); (try simp only [List.getElem_cons_succ]); (try simp only [List.getElem_cons_zero]); (try simp only [Act.put]); (try simp only [List.setIfInBounds_toArray]); (try simp only [List.set_cons_succ]); (try simp only [List.set_cons_zero]))
      refine wpAnyH_take (i := 1) (v := ?qvz1) rfl (by kernel_rfl) (by kernel_rfl) (by kernel_rfl) (fun _ _ _ h => h) (Or.inl ⟨by rfl, ?qyz1⟩) (by assumption) ?qrz1; case qyz1 => ((intro w hSw; (try dsimp only at hSw); go_simp); try (with_reducible rfl))
      ((try simp only [List.getElem_toArray]); (try simp only [List.getElem_cons_succ]); (try simp only [List.getElem_cons_zero]); (try simp only [Act.put]); (try simp only [List.setIfInBounds_toArray]); (try simp only [List.set_cons_succ]); (try simp only [List.set_cons_zero]))
      refine wpAnyH_take (i := 2) (v := ?qvz2) rfl (by kernel_rfl) (by kernel_rfl) (by kernel_rfl) (fun _ _ _ h => h) (Or.inl ⟨by rfl, ?qyz2⟩) (by assumption) ?qrz2; case qyz2 => ((intro w hSw; (try dsimp only at hSw); go_simp); try (with_reducible rfl))
      ((try simp only [List.getElem_toArray]); (try simp only [List.getElem_cons_succ]); (try simp only [List.getElem_cons_zero]); (try simp only [Act.put]); (try simp only [List.setIfInBounds_toArray]); (try simp only [List.set_cons_succ]); (try simp only [List.set_cons_zero]))
      refine wpAnyH_take (i := 4) (v := ?qvz4) rfl (by kernel_rfl) (by kernel_rfl) (by kernel_rfl) (fun _ _ _ h => h) (Or.inl ⟨by rfl, ?qyz4⟩) (by assumption) ?qrz4; case qyz4 => ((intro w hSw; (try dsimp only at hSw); go_simp); try (with_reducible rfl))
      ((try simp only [List.getElem_toArray]); (try simp only [List.getElem_cons_succ]); (try simp only [List.getElem_cons_zero]); (try simp only [Act.put]); (try simp only [List.setIfInBounds_toArray]); (try simp only [List.set_cons_succ]); (try simp only [List.set_cons_zero]))
      refine wpAnyH_take (i := 5) (v := ?qvz5) rfl (by kernel_rfl) (by kernel_rfl) (by kernel_rfl) (fun _ _ _ h => h) (Or.inl ⟨by rfl, ?qyz5⟩) (by assumption) ?qrz5; case qyz5 => ((intro w hSw; (try dsimp only at hSw); go_simp); try (with_reducible rfl))
      ((try simp only [List.getElem_toArray]); (try simp only [List.getElem_cons_succ]); (try simp only [List.getElem_cons_zero]); (try simp only [Act.put]); (try simp only [List.setIfInBounds_toArray]); (try simp only [List.set_cons_succ]); (try simp only [List.set_cons_zero]))
      refine wpAnyH_take (i := 6) (v := ?qvz6) rfl (by kernel_rfl) (by kernel_rfl) (by kernel_rfl) (fun _ _ _ h => h) (Or.inl ⟨by rfl, ?qyz6⟩) (by assumption) ?qrz6; case qyz6 => ((intro w hSw; (try dsimp only at hSw); go_simp); try (with_reducible rfl))
      ((try simp only [List.getElem_toArray]); (try simp only [List.getElem_cons_succ]); (try simp only [List.getElem_cons_zero]); (try simp only [Act.put]); (try simp only [List.setIfInBounds_toArray]); (try simp only [List.set_cons_succ]); (try simp only [List.set_cons_zero]))
      refine wpAnyH_ready (rs := [3, 8, 9]) (by kernel_rfl) (by simp) ?_
      refine AllReadyH.cons rfl (fun K hK => ?_) (AllReadyH.cons rfl (fun K hK => ?_) (AllReadyH.cons rfl (fun K hK => ?_) AllReadyH.nil))
      · skip
        go_simp
        refine (without_any hHeld.1 hHeld.2.2.1).mono ?_
        rintro e Z1 ⟨rfl, bn⟩
        have kk := keep_of bn (fun _ => False)
        clear bn
        have kw := kw.trans kk
        refine hK.out _ _ ⟨hHeld.1.keep kk id, hHeld.2.1.keep kk id, hHeld.2.2.1.keep kk id, hHeld.2.2.2.keep kk id⟩ (fun hHeld => ?_)
        clear hK K kk
        ((try simp only [List.getElem_toArray]); (try simp only [List.getElem_cons_succ]); (try simp only [List.getElem_cons_zero]); (try simp only [Act.put]); (try simp only [List.setIfInBounds_toArray]); (try simp only [List.set_cons_succ]); (try simp only [List.set_cons_zero]))
        refine wpAnyH_ready (rs := [7, 8, 9]) (by kernel_rfl) (by simp) ?_
        refine AllReadyH.cons rfl (fun K hK => ?_) (AllReadyH.cons rfl (fun K hK => ?_) (AllReadyH.cons rfl (fun K hK => ?_) AllReadyH.nil))
        · skip
          go_simp
          refine (without_any hHeld.2.1 hHeld.2.2.2).mono ?_
          rintro e Z2 ⟨rfl, bn⟩
          have kk := keep_of bn (fun _ => False)
          clear bn
          have kw := kw.trans kk
          refine hK.out _ _ ⟨hHeld.1.keep kk id, hHeld.2.1.keep kk id, hHeld.2.2.1.keep kk id, hHeld.2.2.2.keep kk id⟩ (fun hHeld => ?_)
          clear hK K kk
          ((try simp only [List.getElem_toArray]); (try simp only [List.getElem_cons_succ]); (try simp only [List.getElem_cons_zero]); (try simp only [Act.put]); (try simp only [List.setIfInBounds_toArray]); (try simp only [List.set_cons_succ]); (try simp only [List.set_cons_zero]))
          refine wpAnyH_ready (rs := [8, 9]) (by kernel_rfl) (by simp) ?_
          refine AllReadyH.cons rfl (fun K hK => ?_) (AllReadyH.cons rfl (fun K hK => ?_) AllReadyH.nil)
          · skip
            go_simp
            generalize hZ : Z2.alloc _ = Z3
            have r8 : Raw Z3 Z2.heap.size := by rw [← hZ]; exact raw_new Z2 _ rfl
            have kk : Keep (fun _ => False) Z2 Z3 := by rw [← hZ]; exact (Keep.refl _ _).alloc _
            clear hZ
            have l8 : wd.heap.size ≤ Z2.heap.size := kw.size
            have kw := kw.trans kk
            refine hK.out _ _ ⟨hHeld.1.keep kk id, hHeld.2.1.keep kk id, hHeld.2.2.1.keep kk id, hHeld.2.2.2.keep kk id⟩ (fun hHeld => ?_)
            clear hK K kk
            obtain ⟨g8, ea⟩ : ∃ g, Z2.heap.size = g := ⟨_, rfl⟩
            rw [ea] at r8 l8 ⊢
            clear ea
            ((try simp only [List.getElem_toArray]); (try simp only [List.getElem_cons_succ]); (try simp only [List.getElem_cons_zero]); (try simp only [Act.put]); (try simp only [List.setIfInBounds_toArray]); (try simp only [List.set_cons_succ]); (try simp only [List.set_cons_zero]))
            refine wpAnyH_ready (rs := [9]) (by kernel_rfl) (by simp) ?_
            refine AllReadyH.cons rfl (fun K hK => ?_) AllReadyH.nil
            go_simp
            generalize hZ : Z3.alloc _ = Z4
            have r9 : Raw Z4 Z3.heap.size := by rw [← hZ]; exact raw_new Z3 _ rfl
            have kk : Keep (fun _ => False) Z3 Z4 := by rw [← hZ]; exact (Keep.refl _ _).alloc _
            clear hZ
            have lz := r8.lt
            have r8 := r8.keep kk id
            have l9 : wd.heap.size ≤ Z3.heap.size := kw.size
            have kw := kw.trans kk
            refine hK.out _ _ ⟨hHeld.1.keep kk id, hHeld.2.1.keep kk id, hHeld.2.2.1.keep kk id, hHeld.2.2.2.keep kk id⟩ (fun hHeld => ?_)
            clear hK K kk
            obtain ⟨g9, ea⟩ : ∃ g, Z3.heap.size = g := ⟨_, rfl⟩
            rw [ea] at r9 l9 lz ⊢
            clear ea
            ((try simp only [List.getElem_toArray]); (try simp only [List.getElem_cons_succ]); (try simp only [List.getElem_cons_zero]); (try simp only [Act.put]); (try simp only [List.setIfInBounds_toArray]); (try simp only [List.set_cons_succ]); (try simp only [List.set_cons_zero]))
            have n89 : g8 ≠ g9 := by omega
            obtain ⟨cur8, hc8, hb8⟩ := r8
            refine wpAnyH_ready (rs := [10]) (by kernel_rfl) (by simp) ?_
            refine AllReadyH.cons rfl (fun K hK => ?_) AllReadyH.nil
            refine step_store_set rfl (.tmp 8) (.tmp 35) rfl rfl rfl rfl hb8 hc8 fun Zx sx => ?_
            refine hK.out _ _ ⟨hHeld.1.keep sx.2 (by show ¬ g6 = g8; omega), hHeld.2.1.keep sx.2 (by show ¬ g7 = g8; omega), hHeld.2.2.1.keep sx.2 (by show ¬ byy = g8; omega), hHeld.2.2.2.keep sx.2 (by show ¬ bx = g8; omega)⟩ (fun hHeld => ?_)
            clear hK K
            ((try simp only [List.getElem_toArray]); (try simp only [List.getElem_cons_succ]); (try simp only [List.getElem_cons_zero]); (try simp only [Act.put]); (try simp only [List.setIfInBounds_toArray]); (try simp only [List.set_cons_succ]); (try simp only [List.set_cons_zero]))
            have r9 := r9.keep sx.2 (by show ¬ g9 = g8; omega)
            obtain ⟨cur9, hc9, hb9⟩ := r9
            refine wpAnyH_ready (rs := [11]) (by kernel_rfl) (by simp) ?_
            refine AllReadyH.cons rfl (fun K hK => ?_) AllReadyH.nil
            refine step_store_set rfl (.tmp 9) (.tmp 39) rfl rfl rfl rfl hb9 hc9 fun Zy sy => ?_
            refine hK.out _ _ ⟨hHeld.1.keep sy.2 (by show ¬ g6 = g9; omega), hHeld.2.1.keep sy.2 (by show ¬ g7 = g9; omega), hHeld.2.2.1.keep sy.2 (by show ¬ byy = g9; omega), hHeld.2.2.2.keep sy.2 (by show ¬ bx = g9; omega)⟩ (fun hHeld => ?_)
            clear hK K
            ((try simp only [List.getElem_toArray]); (try simp only [List.getElem_cons_succ]); (try simp only [List.getElem_cons_zero]); (try simp only [Act.put]); (try simp only [List.setIfInBounds_toArray]); (try simp only [List.set_cons_succ]); (try simp only [List.set_cons_zero]))
            have R : TwoR wd A2 D2 (.pointer (some ⟨g8, 0, none⟩)) (.pointer (some ⟨g9, 0, none⟩)) Zy := ⟨g8, g9, rfl, rfl, n89, (by first | exact sx.1.keep sy.2 (by show ¬ g8 = g9; omega) | (rw [← eA2]; exact sx.1.keep sy.2 (by show ¬ g8 = g9; omega))), (by first | exact sy.1 | (rw [← eD2]; exact sy.1)), (kw.older (sx.2.mono (T := fun g => g = g8 ∨ g = g9) fun g e => .inl e) (fun j hj => by omega)).older (sy.2.mono (T := fun g => g = g8 ∨ g = g9) fun g e => .inr e) (fun j hj => by omega), l8, l9⟩
            have R := Lib.hid R
            refine wpAnyH_done (by kernel_rfl) ?_ _
            clear hHeld sx sy kw hb8 hc8 hb9 hc9
            go_wp2_with fail
            go_meet
            case rel => exact R.out
          · skip
            go_simp
            generalize hZ : Z2.alloc _ = Z5
            have r9 : Raw Z5 Z2.heap.size := by rw [← hZ]; exact raw_new Z2 _ rfl
            have kk : Keep (fun _ => False) Z2 Z5 := by rw [← hZ]; exact (Keep.refl _ _).alloc _
            clear hZ
            have l9 : wd.heap.size ≤ Z2.heap.size := kw.size
            have kw := kw.trans kk
            refine hK.out _ _ ⟨hHeld.1.keep kk id, hHeld.2.1.keep kk id, hHeld.2.2.1.keep kk id, hHeld.2.2.2.keep kk id⟩ (fun hHeld => ?_)
            clear hK K kk
            obtain ⟨g9, ea⟩ : ∃ g, Z2.heap.size = g := ⟨_, rfl⟩
            rw [ea] at r9 l9 ⊢
            clear ea
            ((try simp only [List.getElem_toArray]); (try simp only [List.getElem_cons_succ]); (try simp only [List.getElem_cons_zero]); (try simp only [Act.put]); (try simp only [List.setIfInBounds_toArray]); (try simp only [List.set_cons_succ]); (try simp only [List.set_cons_zero]))
            refine wpAnyH_ready (rs := [8]) (by kernel_rfl) (by simp) ?_
            refine AllReadyH.cons rfl (fun K hK => ?_) AllReadyH.nil
            go_simp
            generalize hZ : Z5.alloc _ = Z6
            have r8 : Raw Z6 Z5.heap.size := by rw [← hZ]; exact raw_new Z5 _ rfl
            have kk : Keep (fun _ => False) Z5 Z6 := by rw [← hZ]; exact (Keep.refl _ _).alloc _
            clear hZ
            have lz := r9.lt
            have r9 := r9.keep kk id
            have l8 : wd.heap.size ≤ Z5.heap.size := kw.size
            have kw := kw.trans kk
            refine hK.out _ _ ⟨hHeld.1.keep kk id, hHeld.2.1.keep kk id, hHeld.2.2.1.keep kk id, hHeld.2.2.2.keep kk id⟩ (fun hHeld => ?_)
            clear hK K kk
            obtain ⟨g8, ea⟩ : ∃ g, Z5.heap.size = g := ⟨_, rfl⟩
            rw [ea] at r8 l8 lz ⊢
            clear ea
            ((try simp only [List.getElem_toArray]); (try simp only [List.getElem_cons_succ]); (try simp only [List.getElem_cons_zero]); (try simp only [Act.put]); (try simp only [List.setIfInBounds_toArray]); (try simp only [List.set_cons_succ]); (try simp only [List.set_cons_zero]))
            have n89 : g8 ≠ g9 := by omega
            obtain ⟨cur8, hc8, hb8⟩ := r8
            refine wpAnyH_ready (rs := [10]) (by kernel_rfl) (by simp) ?_
            refine AllReadyH.cons rfl (fun K hK => ?_) AllReadyH.nil
            refine step_store_set rfl (.tmp 8) (.tmp 35) rfl rfl rfl rfl hb8 hc8 fun Zx sx => ?_
            refine hK.out _ _ ⟨hHeld.1.keep sx.2 (by show ¬ g6 = g8; omega), hHeld.2.1.keep sx.2 (by show ¬ g7 = g8; omega), hHeld.2.2.1.keep sx.2 (by show ¬ byy = g8; omega), hHeld.2.2.2.keep sx.2 (by show ¬ bx = g8; omega)⟩ (fun hHeld => ?_)
            clear hK K
            ((try simp only [List.getElem_toArray]); (try simp only [List.getElem_cons_succ]); (try simp only [List.getElem_cons_zero]); (try simp only [Act.put]); (try simp only [List.setIfInBounds_toArray]); (try simp only [List.set_cons_succ]); (try simp only [List.set_cons_zero]))
            have r9 := r9.keep sx.2 (by show ¬ g9 = g8; omega)
            obtain ⟨cur9, hc9, hb9⟩ := r9
            refine wpAnyH_ready (rs := [11]) (by kernel_rfl) (by simp) ?_
            refine AllReadyH.cons rfl (fun K hK => ?_) AllReadyH.nil
            refine step_store_set rfl (.tmp 9) (.tmp 39) rfl rfl rfl rfl hb9 hc9 fun Zy sy => ?_
            refine hK.out _ _ ⟨hHeld.1.keep sy.2 (by show ¬ g6 = g9; omega), hHeld.2.1.keep sy.2 (by show ¬ g7 = g9; omega), hHeld.2.2.1.keep sy.2 (by show ¬ byy = g9; omega), hHeld.2.2.2.keep sy.2 (by show ¬ bx = g9; omega)⟩ (fun hHeld => ?_)
            clear hK K
            ((try simp only [List.getElem_toArray]); (try simp only [List.getElem_cons_succ]); (try simp only [List.getElem_cons_zero]); (try simp only [Act.put]); (try simp only [List.setIfInBounds_toArray]); (try simp only [List.set_cons_succ]); (try simp only [List.set_cons_zero]))
            have R : TwoR wd A2 D2 (.pointer (some ⟨g8, 0, none⟩)) (.pointer (some ⟨g9, 0, none⟩)) Zy := ⟨g8, g9, rfl, rfl, n89, (by first | exact sx.1.keep sy.2 (by show ¬ g8 = g9; omega) | (rw [← eA2]; exact sx.1.keep sy.2 (by show ¬ g8 = g9; omega))), (by first | exact sy.1 | (rw [← eD2]; exact sy.1)), (kw.older (sx.2.mono (T := fun g => g = g8 ∨ g = g9) fun g e => .inl e) (fun j hj => by omega)).older (sy.2.mono (T := fun g => g = g8 ∨ g = g9) fun g e => .inr e) (fun j hj => by omega), l8, l9⟩
            have R := Lib.hid R
            refine wpAnyH_done (by kernel_rfl) ?_ _
            clear hHeld sx sy kw hb8 hc8 hb9 hc9
            go_wp2_with fail
            go_meet
            case rel => exact R.out
        · skip
          go_simp
          generalize hZ : Z1.alloc _ = Z7
          have r8 : Raw Z7 Z1.heap.size := by rw [← hZ]; exact raw_new Z1 _ rfl
          have kk : Keep (fun _ => False) Z1 Z7 := by rw [← hZ]; exact (Keep.refl _ _).alloc _
          clear hZ
          have l8 : wd.heap.size ≤ Z1.heap.size := kw.size
          have kw := kw.trans kk
          refine hK.out _ _ ⟨hHeld.1.keep kk id, hHeld.2.1.keep kk id, hHeld.2.2.1.keep kk id, hHeld.2.2.2.keep kk id⟩ (fun hHeld => ?_)
          clear hK K kk
          obtain ⟨g8, ea⟩ : ∃ g, Z1.heap.size = g := ⟨_, rfl⟩
          rw [ea] at r8 l8 ⊢
          clear ea
          ((try simp only [List.getElem_toArray]); (try simp only [List.getElem_cons_succ]); (try simp only [List.getElem_cons_zero]); (try simp only [Act.put]); (try simp only [List.setIfInBounds_toArray]); (try simp only [List.set_cons_succ]); (try simp only [List.set_cons_zero]))
          refine wpAnyH_ready (rs := [7, 9]) (by kernel_rfl) (by simp) ?_
          refine AllReadyH.cons rfl (fun K hK => ?_) (AllReadyH.cons rfl (fun K hK => ?_) AllReadyH.nil)
          · skip
            go_simp
            refine (without_any hHeld.2.1 hHeld.2.2.2).mono ?_
            rintro e Z8 ⟨rfl, bn⟩
            have kk := keep_of bn (fun _ => False)
            clear bn
            have r8 := r8.keep kk id
            have kw := kw.trans kk
            refine hK.out _ _ ⟨hHeld.1.keep kk id, hHeld.2.1.keep kk id, hHeld.2.2.1.keep kk id, hHeld.2.2.2.keep kk id⟩ (fun hHeld => ?_)
            clear hK K kk
            ((try simp only [List.getElem_toArray]); (try simp only [List.getElem_cons_succ]); (try simp only [List.getElem_cons_zero]); (try simp only [Act.put]); (try simp only [List.setIfInBounds_toArray]); (try simp only [List.set_cons_succ]); (try simp only [List.set_cons_zero]))
            refine wpAnyH_ready (rs := [9]) (by kernel_rfl) (by simp) ?_
            refine AllReadyH.cons rfl (fun K hK => ?_) AllReadyH.nil
            go_simp
            generalize hZ : Z8.alloc _ = Z9
            have r9 : Raw Z9 Z8.heap.size := by rw [← hZ]; exact raw_new Z8 _ rfl
            have kk : Keep (fun _ => False) Z8 Z9 := by rw [← hZ]; exact (Keep.refl _ _).alloc _
            clear hZ
            have lz := r8.lt
            have r8 := r8.keep kk id
            have l9 : wd.heap.size ≤ Z8.heap.size := kw.size
            have kw := kw.trans kk
            refine hK.out _ _ ⟨hHeld.1.keep kk id, hHeld.2.1.keep kk id, hHeld.2.2.1.keep kk id, hHeld.2.2.2.keep kk id⟩ (fun hHeld => ?_)
            clear hK K kk
            obtain ⟨g9, ea⟩ : ∃ g, Z8.heap.size = g := ⟨_, rfl⟩
            rw [ea] at r9 l9 lz ⊢
            clear ea
            ((try simp only [List.getElem_toArray]); (try simp only [List.getElem_cons_succ]); (try simp only [List.getElem_cons_zero]); (try simp only [Act.put]); (try simp only [List.setIfInBounds_toArray]); (try simp only [List.set_cons_succ]); (try simp only [List.set_cons_zero]))
            have n89 : g8 ≠ g9 := by omega
            obtain ⟨cur8, hc8, hb8⟩ := r8
            refine wpAnyH_ready (rs := [10]) (by kernel_rfl) (by simp) ?_
            refine AllReadyH.cons rfl (fun K hK => ?_) AllReadyH.nil
            refine step_store_set rfl (.tmp 8) (.tmp 35) rfl rfl rfl rfl hb8 hc8 fun Zx sx => ?_
            refine hK.out _ _ ⟨hHeld.1.keep sx.2 (by show ¬ g6 = g8; omega), hHeld.2.1.keep sx.2 (by show ¬ g7 = g8; omega), hHeld.2.2.1.keep sx.2 (by show ¬ byy = g8; omega), hHeld.2.2.2.keep sx.2 (by show ¬ bx = g8; omega)⟩ (fun hHeld => ?_)
            clear hK K
            ((try simp only [List.getElem_toArray]); (try simp only [List.getElem_cons_succ]); (try simp only [List.getElem_cons_zero]); (try simp only [Act.put]); (try simp only [List.setIfInBounds_toArray]); (try simp only [List.set_cons_succ]); (try simp only [List.set_cons_zero]))
            have r9 := r9.keep sx.2 (by show ¬ g9 = g8; omega)
            obtain ⟨cur9, hc9, hb9⟩ := r9
            refine wpAnyH_ready (rs := [11]) (by kernel_rfl) (by simp) ?_
            refine AllReadyH.cons rfl (fun K hK => ?_) AllReadyH.nil
            refine step_store_set rfl (.tmp 9) (.tmp 39) rfl rfl rfl rfl hb9 hc9 fun Zy sy => ?_
            refine hK.out _ _ ⟨hHeld.1.keep sy.2 (by show ¬ g6 = g9; omega), hHeld.2.1.keep sy.2 (by show ¬ g7 = g9; omega), hHeld.2.2.1.keep sy.2 (by show ¬ byy = g9; omega), hHeld.2.2.2.keep sy.2 (by show ¬ bx = g9; omega)⟩ (fun hHeld => ?_)
            clear hK K
            ((try simp only [List.getElem_toArray]); (try simp only [List.getElem_cons_succ]); (try simp only [List.getElem_cons_zero]); (try simp only [Act.put]); (try simp only [List.setIfInBounds_toArray]); (try simp only [List.set_cons_succ]); (try simp only [List.set_cons_zero]))
            have R : TwoR wd A2 D2 (.pointer (some ⟨g8, 0, none⟩)) (.pointer (some ⟨g9, 0, none⟩)) Zy := ⟨g8, g9, rfl, rfl, n89, (by first | exact sx.1.keep sy.2 (by show ¬ g8 = g9; omega) | (rw [← eA2]; exact sx.1.keep sy.2 (by show ¬ g8 = g9; omega))), (by first | exact sy.1 | (rw [← eD2]; exact sy.1)), (kw.older (sx.2.mono (T := fun g => g = g8 ∨ g = g9) fun g e => .inl e) (fun j hj => by omega)).older (sy.2.mono (T := fun g => g = g8 ∨ g = g9) fun g e => .inr e) (fun j hj => by omega), l8, l9⟩
            have R := Lib.hid R
            refine wpAnyH_done (by kernel_rfl) ?_ _
            clear hHeld sx sy kw hb8 hc8 hb9 hc9
            go_wp2_with fail
            go_meet
            case rel => exact R.out
          · skip
            go_simp
            generalize hZ : Z7.alloc _ = Z10
            have r9 : Raw Z10 Z7.heap.size := by rw [← hZ]; exact raw_new Z7 _ rfl
            have kk : Keep (fun _ => False) Z7 Z10 := by rw [← hZ]; exact (Keep.refl _ _).alloc _
            clear hZ
            have lz := r8.lt
            have r8 := r8.keep kk id
            have l9 : wd.heap.size ≤ Z7.heap.size := kw.size
            have kw := kw.trans kk
            refine hK.out _ _ ⟨hHeld.1.keep kk id, hHeld.2.1.keep kk id, hHeld.2.2.1.keep kk id, hHeld.2.2.2.keep kk id⟩ (fun hHeld => ?_)
            clear hK K kk
            obtain ⟨g9, ea⟩ : ∃ g, Z7.heap.size = g := ⟨_, rfl⟩
            rw [ea] at r9 l9 lz ⊢
            clear ea
            ((try simp only [List.getElem_toArray]); (try simp only [List.getElem_cons_succ]); (try simp only [List.getElem_cons_zero]); (try simp only [Act.put]); (try simp only [List.setIfInBounds_toArray]); (try simp only [List.set_cons_succ]); (try simp only [List.set_cons_zero]))
            refine wpAnyH_ready (rs := [7]) (by kernel_rfl) (by simp) ?_
            refine AllReadyH.cons rfl (fun K hK => ?_) AllReadyH.nil
            go_simp
            refine (without_any hHeld.2.1 hHeld.2.2.2).mono ?_
            rintro e Z11 ⟨rfl, bn⟩
            have kk := keep_of bn (fun _ => False)
            clear bn
            have r8 := r8.keep kk id
            have r9 := r9.keep kk id
            have kw := kw.trans kk
            refine hK.out _ _ ⟨hHeld.1.keep kk id, hHeld.2.1.keep kk id, hHeld.2.2.1.keep kk id, hHeld.2.2.2.keep kk id⟩ (fun hHeld => ?_)
            clear hK K kk
            ((try simp only [List.getElem_toArray]); (try simp only [List.getElem_cons_succ]); (try simp only [List.getElem_cons_zero]); (try simp only [Act.put]); (try simp only [List.setIfInBounds_toArray]); (try simp only [List.set_cons_succ]); (try simp only [List.set_cons_zero]))
            have n89 : g8 ≠ g9 := by omega
            obtain ⟨cur8, hc8, hb8⟩ := r8
            refine wpAnyH_ready (rs := [10]) (by kernel_rfl) (by simp) ?_
            refine AllReadyH.cons rfl (fun K hK => ?_) AllReadyH.nil
            refine step_store_set rfl (.tmp 8) (.tmp 35) rfl rfl rfl rfl hb8 hc8 fun Zx sx => ?_
            refine hK.out _ _ ⟨hHeld.1.keep sx.2 (by show ¬ g6 = g8; omega), hHeld.2.1.keep sx.2 (by show ¬ g7 = g8; omega), hHeld.2.2.1.keep sx.2 (by show ¬ byy = g8; omega), hHeld.2.2.2.keep sx.2 (by show ¬ bx = g8; omega)⟩ (fun hHeld => ?_)
            clear hK K
            ((try simp only [List.getElem_toArray]); (try simp only [List.getElem_cons_succ]); (try simp only [List.getElem_cons_zero]); (try simp only [Act.put]); (try simp only [List.setIfInBounds_toArray]); (try simp only [List.set_cons_succ]); (try simp only [List.set_cons_zero]))
            have r9 := r9.keep sx.2 (by show ¬ g9 = g8; omega)
            obtain ⟨cur9, hc9, hb9⟩ := r9
            refine wpAnyH_ready (rs := [11]) (by kernel_rfl) (by simp) ?_
            refine AllReadyH.cons rfl (fun K hK => ?_) AllReadyH.nil
            refine step_store_set rfl (.tmp 9) (.tmp 39) rfl rfl rfl rfl hb9 hc9 fun Zy sy => ?_
            refine hK.out _ _ ⟨hHeld.1.keep sy.2 (by show ¬ g6 = g9; omega), hHeld.2.1.keep sy.2 (by show ¬ g7 = g9; omega), hHeld.2.2.1.keep sy.2 (by show ¬ byy = g9; omega), hHeld.2.2.2.keep sy.2 (by show ¬ bx = g9; omega)⟩ (fun hHeld => ?_)
            clear hK K
            ((try simp only [List.getElem_toArray]); (try simp only [List.getElem_cons_succ]); (try simp only [List.getElem_cons_zero]); (try simp only [Act.put]); (try simp only [List.setIfInBounds_toArray]); (try simp only [List.set_cons_succ]); (try simp only [List.set_cons_zero]))
            have R : TwoR wd A2 D2 (.pointer (some ⟨g8, 0, none⟩)) (.pointer (some ⟨g9, 0, none⟩)) Zy := ⟨g8, g9, rfl, rfl, n89, (by first | exact sx.1.keep sy.2 (by show ¬ g8 = g9; omega) | (rw [← eA2]; exact sx.1.keep sy.2 (by show ¬ g8 = g9; omega))), (by first | exact sy.1 | (rw [← eD2]; exact sy.1)), (kw.older (sx.2.mono (T := fun g => g = g8 ∨ g = g9) fun g e => .inl e) (fun j hj => by omega)).older (sy.2.mono (T := fun g => g = g8 ∨ g = g9) fun g e => .inr e) (fun j hj => by omega), l8, l9⟩
            have R := Lib.hid R
            refine wpAnyH_done (by kernel_rfl) ?_ _
            clear hHeld sx sy kw hb8 hc8 hb9 hc9
            go_wp2_with fail
            go_meet
            case rel => exact R.out
        · skip
          go_simp
          generalize hZ : Z1.alloc _ = Z12
          have r9 : Raw Z12 Z1.heap.size := by rw [← hZ]; exact raw_new Z1 _ rfl
          have kk : Keep (fun _ => False) Z1 Z12 := by rw [← hZ]; exact (Keep.refl _ _).alloc _
          clear hZ
          have l9 : wd.heap.size ≤ Z1.heap.size := kw.size
          have kw := kw.trans kk
          refine hK.out _ _ ⟨hHeld.1.keep kk id, hHeld.2.1.keep kk id, hHeld.2.2.1.keep kk id, hHeld.2.2.2.keep kk id⟩ (fun hHeld => ?_)
          clear hK K kk
          obtain ⟨g9, ea⟩ : ∃ g, Z1.heap.size = g := ⟨_, rfl⟩
          rw [ea] at r9 l9 ⊢
          clear ea
          ((try simp only [List.getElem_toArray]); (try simp only [List.getElem_cons_succ]); (try simp only [List.getElem_cons_zero]); (try simp only [Act.put]); (try simp only [List.setIfInBounds_toArray]); (try simp only [List.set_cons_succ]); (try simp only [List.set_cons_zero]))
          refine wpAnyH_ready (rs := [7, 8]) (by kernel_rfl) (by simp) ?_
          refine AllReadyH.cons rfl (fun K hK => ?_) (AllReadyH.cons rfl (fun K hK => ?_) AllReadyH.nil)
          · skip
            go_simp
            refine (without_any hHeld.2.1 hHeld.2.2.2).mono ?_
            rintro e Z13 ⟨rfl, bn⟩
            have kk := keep_of bn (fun _ => False)
            clear bn
            have r9 := r9.keep kk id
            have kw := kw.trans kk
            refine hK.out _ _ ⟨hHeld.1.keep kk id, hHeld.2.1.keep kk id, hHeld.2.2.1.keep kk id, hHeld.2.2.2.keep kk id⟩ (fun hHeld => ?_)
            clear hK K kk
            ((try simp only [List.getElem_toArray]); (try simp only [List.getElem_cons_succ]); (try simp only [List.getElem_cons_zero]); (try simp only [Act.put]); (try simp only [List.setIfInBounds_toArray]); (try simp only [List.set_cons_succ]); (try simp only [List.set_cons_zero]))
            refine wpAnyH_ready (rs := [8]) (by kernel_rfl) (by simp) ?_
            refine AllReadyH.cons rfl (fun K hK => ?_) AllReadyH.nil
            go_simp
            generalize hZ : Z13.alloc _ = Z14
            have r8 : Raw Z14 Z13.heap.size := by rw [← hZ]; exact raw_new Z13 _ rfl
            have kk : Keep (fun _ => False) Z13 Z14 := by rw [← hZ]; exact (Keep.refl _ _).alloc _
            clear hZ
            have lz := r9.lt
            have r9 := r9.keep kk id
            have l8 : wd.heap.size ≤ Z13.heap.size := kw.size
            have kw := kw.trans kk
            refine hK.out _ _ ⟨hHeld.1.keep kk id, hHeld.2.1.keep kk id, hHeld.2.2.1.keep kk id, hHeld.2.2.2.keep kk id⟩ (fun hHeld => ?_)
            clear hK K kk
            obtain ⟨g8, ea⟩ : ∃ g, Z13.heap.size = g := ⟨_, rfl⟩
            rw [ea] at r8 l8 lz ⊢
            clear ea
            ((try simp only [List.getElem_toArray]); (try simp only [List.getElem_cons_succ]); (try simp only [List.getElem_cons_zero]); (try simp only [Act.put]); (try simp only [List.setIfInBounds_toArray]); (try simp only [List.set_cons_succ]); (try simp only [List.set_cons_zero]))
            have n89 : g8 ≠ g9 := by omega
            obtain ⟨cur8, hc8, hb8⟩ := r8
            refine wpAnyH_ready (rs := [10]) (by kernel_rfl) (by simp) ?_
            refine AllReadyH.cons rfl (fun K hK => ?_) AllReadyH.nil
            refine step_store_set rfl (.tmp 8) (.tmp 35) rfl rfl rfl rfl hb8 hc8 fun Zx sx => ?_
            refine hK.out _ _ ⟨hHeld.1.keep sx.2 (by show ¬ g6 = g8; omega), hHeld.2.1.keep sx.2 (by show ¬ g7 = g8; omega), hHeld.2.2.1.keep sx.2 (by show ¬ byy = g8; omega), hHeld.2.2.2.keep sx.2 (by show ¬ bx = g8; omega)⟩ (fun hHeld => ?_)
            clear hK K
            ((try simp only [List.getElem_toArray]); (try simp only [List.getElem_cons_succ]); (try simp only [List.getElem_cons_zero]); (try simp only [Act.put]); (try simp only [List.setIfInBounds_toArray]); (try simp only [List.set_cons_succ]); (try simp only [List.set_cons_zero]))
            have r9 := r9.keep sx.2 (by show ¬ g9 = g8; omega)
            obtain ⟨cur9, hc9, hb9⟩ := r9
            refine wpAnyH_ready (rs := [11]) (by kernel_rfl) (by simp) ?_
            refine AllReadyH.cons rfl (fun K hK => ?_) AllReadyH.nil
            refine step_store_set rfl (.tmp 9) (.tmp 39) rfl rfl rfl rfl hb9 hc9 fun Zy sy => ?_
            refine hK.out _ _ ⟨hHeld.1.keep sy.2 (by show ¬ g6 = g9; omega), hHeld.2.1.keep sy.2 (by show ¬ g7 = g9; omega), hHeld.2.2.1.keep sy.2 (by show ¬ byy = g9; omega), hHeld.2.2.2.keep sy.2 (by show ¬ bx = g9; omega)⟩ (fun hHeld => ?_)
            clear hK K
            ((try simp only [List.getElem_toArray]); (try simp only [List.getElem_cons_succ]); (try simp only [List.getElem_cons_zero]); (try simp only [Act.put]); (try simp only [List.setIfInBounds_toArray]); (try simp only [List.set_cons_succ]); (try simp only [List.set_cons_zero]))
            have R : TwoR wd A2 D2 (.pointer (some ⟨g8, 0, none⟩)) (.pointer (some ⟨g9, 0, none⟩)) Zy := ⟨g8, g9, rfl, rfl, n89, (by first | exact sx.1.keep sy.2 (by show ¬ g8 = g9; omega) | (rw [← eA2]; exact sx.1.keep sy.2 (by show ¬ g8 = g9; omega))), (by first | exact sy.1 | (rw [← eD2]; exact sy.1)), (kw.older (sx.2.mono (T := fun g => g = g8 ∨ g = g9) fun g e => .inl e) (fun j hj => by omega)).older (sy.2.mono (T := fun g => g = g8 ∨ g = g9) fun g e => .inr e) (fun j hj => by omega), l8, l9⟩
            have R := Lib.hid R
            refine wpAnyH_done (by kernel_rfl) ?_ _
            clear hHeld sx sy kw hb8 hc8 hb9 hc9
            go_wp2_with fail
            go_meet
            case rel => exact R.out
          · skip
            go_simp
            generalize hZ : Z12.alloc _ = Z15
            have r8 : Raw Z15 Z12.heap.size := by rw [← hZ]; exact raw_new Z12 _ rfl
            have kk : Keep (fun _ => False) Z12 Z15 := by rw [← hZ]; exact (Keep.refl _ _).alloc _
            clear hZ
            have lz := r9.lt
            have r9 := r9.keep kk id
            have l8 : wd.heap.size ≤ Z12.heap.size := kw.size
            have kw := kw.trans kk
            refine hK.out _ _ ⟨hHeld.1.keep kk id, hHeld.2.1.keep kk id, hHeld.2.2.1.keep kk id, hHeld.2.2.2.keep kk id⟩ (fun hHeld => ?_)
            clear hK K kk
            obtain ⟨g8, ea⟩ : ∃ g, Z12.heap.size = g := ⟨_, rfl⟩
            rw [ea] at r8 l8 lz ⊢
            clear ea
            ((try simp only [List.getElem_toArray]); (try simp only [List.getElem_cons_succ]); (try simp only [List.getElem_cons_zero]); (try simp only [Act.put]); (try simp only [List.setIfInBounds_toArray]); (try simp only [List.set_cons_succ]); (try simp only [List.set_cons_zero]))
            refine wpAnyH_ready (rs := [7]) (by kernel_rfl) (by simp) ?_
            refine AllReadyH.cons rfl (fun K hK => ?_) AllReadyH.nil
            go_simp
            refine (without_any hHeld.2.1 hHeld.2.2.2).mono ?_
            rintro e Z16 ⟨rfl, bn⟩
            have kk := keep_of bn (fun _ => False)
            clear bn
            have r8 := r8.keep kk id
            have r9 := r9.keep kk id
            have kw := kw.trans kk
            refine hK.out _ _ ⟨hHeld.1.keep kk id, hHeld.2.1.keep kk id, hHeld.2.2.1.keep kk id, hHeld.2.2.2.keep kk id⟩ (fun hHeld => ?_)
            clear hK K kk
            ((try simp only [List.getElem_toArray]); (try simp only [List.getElem_cons_succ]); (try simp only [List.getElem_cons_zero]); (try simp only [Act.put]); (try simp only [List.setIfInBounds_toArray]); (try simp only [List.set_cons_succ]); (try simp only [List.set_cons_zero]))
            have n89 : g8 ≠ g9 := by omega
            obtain ⟨cur8, hc8, hb8⟩ := r8
            refine wpAnyH_ready (rs := [10]) (by kernel_rfl) (by simp) ?_
            refine AllReadyH.cons rfl (fun K hK => ?_) AllReadyH.nil
            refine step_store_set rfl (.tmp 8) (.tmp 35) rfl rfl rfl rfl hb8 hc8 fun Zx sx => ?_
            refine hK.out _ _ ⟨hHeld.1.keep sx.2 (by show ¬ g6 = g8; omega), hHeld.2.1.keep sx.2 (by show ¬ g7 = g8; omega), hHeld.2.2.1.keep sx.2 (by show ¬ byy = g8; omega), hHeld.2.2.2.keep sx.2 (by show ¬ bx = g8; omega)⟩ (fun hHeld => ?_)
            clear hK K
            ((try simp only [List.getElem_toArray]); (try simp only [List.getElem_cons_succ]); (try simp only [List.getElem_cons_zero]); (try simp only [Act.put]); (try simp only [List.setIfInBounds_toArray]); (try simp only [List.set_cons_succ]); (try simp only [List.set_cons_zero]))
            have r9 := r9.keep sx.2 (by show ¬ g9 = g8; omega)
            obtain ⟨cur9, hc9, hb9⟩ := r9
            refine wpAnyH_ready (rs := [11]) (by kernel_rfl) (by simp) ?_
            refine AllReadyH.cons rfl (fun K hK => ?_) AllReadyH.nil
            refine step_store_set rfl (.tmp 9) (.tmp 39) rfl rfl rfl rfl hb9 hc9 fun Zy sy => ?_
            refine hK.out _ _ ⟨hHeld.1.keep sy.2 (by show ¬ g6 = g9; omega), hHeld.2.1.keep sy.2 (by show ¬ g7 = g9; omega), hHeld.2.2.1.keep sy.2 (by show ¬ byy = g9; omega), hHeld.2.2.2.keep sy.2 (by show ¬ bx = g9; omega)⟩ (fun hHeld => ?_)
            clear hK K
            ((try simp only [List.getElem_toArray]); (try simp only [List.getElem_cons_succ]); (try simp only [List.getElem_cons_zero]); (try simp only [Act.put]); (try simp only [List.setIfInBounds_toArray]); (try simp only [List.set_cons_succ]); (try simp only [List.set_cons_zero]))
            have R : TwoR wd A2 D2 (.pointer (some ⟨g8, 0, none⟩)) (.pointer (some ⟨g9, 0, none⟩)) Zy := ⟨g8, g9, rfl, rfl, n89, (by first | exact sx.1.keep sy.2 (by show ¬ g8 = g9; omega) | (rw [← eA2]; exact sx.1.keep sy.2 (by show ¬ g8 = g9; omega))), (by first | exact sy.1 | (rw [← eD2]; exact sy.1)), (kw.older (sx.2.mono (T := fun g => g = g8 ∨ g = g9) fun g e => .inl e) (fun j hj => by omega)).older (sy.2.mono (T := fun g => g = g8 ∨ g = g9) fun g e => .inr e) (fun j hj => by omega), l8, l9⟩
            have R := Lib.hid R
            refine wpAnyH_done (by kernel_rfl) ?_ _
            clear hHeld sx sy kw hb8 hc8 hb9 hc9
            go_wp2_with fail
            go_meet
            case rel => exact R.out
      · skip
        go_simp
        generalize hZ : Z.alloc _ = Z17
        have r8 : Raw Z17 Z.heap.size := by rw [← hZ]; exact raw_new Z _ rfl
        have kk : Keep (fun _ => False) Z Z17 := by rw [← hZ]; exact (Keep.refl _ _).alloc _
        clear hZ
        have l8 : wd.heap.size ≤ Z.heap.size := kw.size
        have kw := kw.trans kk
        refine hK.out _ _ ⟨hHeld.1.keep kk id, hHeld.2.1.keep kk id, hHeld.2.2.1.keep kk id, hHeld.2.2.2.keep kk id⟩ (fun hHeld => ?_)
        clear hK K kk
        obtain ⟨g8, ea⟩ : ∃ g, Z.heap.size = g := ⟨_, rfl⟩
        rw [ea] at r8 l8 ⊢
        clear ea
        ((try simp only [List.getElem_toArray]); (try simp only [List.getElem_cons_succ]); (try simp only [List.getElem_cons_zero]); (try simp only [Act.put]); (try simp only [List.setIfInBounds_toArray]); (try simp only [List.set_cons_succ]); (try simp only [List.set_cons_zero]))
        refine wpAnyH_ready (rs := [3, 9]) (by kernel_rfl) (by simp) ?_
        refine AllReadyH.cons rfl (fun K hK => ?_) (AllReadyH.cons rfl (fun K hK => ?_) AllReadyH.nil)
        · skip
          go_simp
          refine (without_any hHeld.1 hHeld.2.2.1).mono ?_
          rintro e Z18 ⟨rfl, bn⟩
          have kk := keep_of bn (fun _ => False)
          clear bn
          have r8 := r8.keep kk id
          have kw := kw.trans kk
          refine hK.out _ _ ⟨hHeld.1.keep kk id, hHeld.2.1.keep kk id, hHeld.2.2.1.keep kk id, hHeld.2.2.2.keep kk id⟩ (fun hHeld => ?_)
          clear hK K kk
          ((try simp only [List.getElem_toArray]); (try simp only [List.getElem_cons_succ]); (try simp only [List.getElem_cons_zero]); (try simp only [Act.put]); (try simp only [List.setIfInBounds_toArray]); (try simp only [List.set_cons_succ]); (try simp only [List.set_cons_zero]))
          refine wpAnyH_ready (rs := [7, 9]) (by kernel_rfl) (by simp) ?_
          refine AllReadyH.cons rfl (fun K hK => ?_) (AllReadyH.cons rfl (fun K hK => ?_) AllReadyH.nil)
          · skip
            go_simp
            refine (without_any hHeld.2.1 hHeld.2.2.2).mono ?_
            rintro e Z19 ⟨rfl, bn⟩
            have kk := keep_of bn (fun _ => False)
            clear bn
            have r8 := r8.keep kk id
            have kw := kw.trans kk
            refine hK.out _ _ ⟨hHeld.1.keep kk id, hHeld.2.1.keep kk id, hHeld.2.2.1.keep kk id, hHeld.2.2.2.keep kk id⟩ (fun hHeld => ?_)
            clear hK K kk
            ((try simp only [List.getElem_toArray]); (try simp only [List.getElem_cons_succ]); (try simp only [List.getElem_cons_zero]); (try simp only [Act.put]); (try simp only [List.setIfInBounds_toArray]); (try simp only [List.set_cons_succ]); (try simp only [List.set_cons_zero]))
            refine wpAnyH_ready (rs := [9]) (by kernel_rfl) (by simp) ?_
            refine AllReadyH.cons rfl (fun K hK => ?_) AllReadyH.nil
            go_simp
            generalize hZ : Z19.alloc _ = Z20
            have r9 : Raw Z20 Z19.heap.size := by rw [← hZ]; exact raw_new Z19 _ rfl
            have kk : Keep (fun _ => False) Z19 Z20 := by rw [← hZ]; exact (Keep.refl _ _).alloc _
            clear hZ
            have lz := r8.lt
            have r8 := r8.keep kk id
            have l9 : wd.heap.size ≤ Z19.heap.size := kw.size
            have kw := kw.trans kk
            refine hK.out _ _ ⟨hHeld.1.keep kk id, hHeld.2.1.keep kk id, hHeld.2.2.1.keep kk id, hHeld.2.2.2.keep kk id⟩ (fun hHeld => ?_)
            clear hK K kk
            obtain ⟨g9, ea⟩ : ∃ g, Z19.heap.size = g := ⟨_, rfl⟩
            rw [ea] at r9 l9 lz ⊢
            clear ea
            ((try simp only [List.getElem_toArray]); (try simp only [List.getElem_cons_succ]); (try simp only [List.getElem_cons_zero]); (try simp only [Act.put]); (try simp only [List.setIfInBounds_toArray]); (try simp only [List.set_cons_succ]); (try simp only [List.set_cons_zero]))
            have n89 : g8 ≠ g9 := by omega
            obtain ⟨cur8, hc8, hb8⟩ := r8
            refine wpAnyH_ready (rs := [10]) (by kernel_rfl) (by simp) ?_
            refine AllReadyH.cons rfl (fun K hK => ?_) AllReadyH.nil
            refine step_store_set rfl (.tmp 8) (.tmp 35) rfl rfl rfl rfl hb8 hc8 fun Zx sx => ?_
            refine hK.out _ _ ⟨hHeld.1.keep sx.2 (by show ¬ g6 = g8; omega), hHeld.2.1.keep sx.2 (by show ¬ g7 = g8; omega), hHeld.2.2.1.keep sx.2 (by show ¬ byy = g8; omega), hHeld.2.2.2.keep sx.2 (by show ¬ bx = g8; omega)⟩ (fun hHeld => ?_)
            clear hK K
            ((try simp only [List.getElem_toArray]); (try simp only [List.getElem_cons_succ]); (try simp only [List.getElem_cons_zero]); (try simp only [Act.put]); (try simp only [List.setIfInBounds_toArray]); (try simp only [List.set_cons_succ]); (try simp only [List.set_cons_zero]))
            have r9 := r9.keep sx.2 (by show ¬ g9 = g8; omega)
            obtain ⟨cur9, hc9, hb9⟩ := r9
            refine wpAnyH_ready (rs := [11]) (by kernel_rfl) (by simp) ?_
            refine AllReadyH.cons rfl (fun K hK => ?_) AllReadyH.nil
            refine step_store_set rfl (.tmp 9) (.tmp 39) rfl rfl rfl rfl hb9 hc9 fun Zy sy => ?_
            refine hK.out _ _ ⟨hHeld.1.keep sy.2 (by show ¬ g6 = g9; omega), hHeld.2.1.keep sy.2 (by show ¬ g7 = g9; omega), hHeld.2.2.1.keep sy.2 (by show ¬ byy = g9; omega), hHeld.2.2.2.keep sy.2 (by show ¬ bx = g9; omega)⟩ (fun hHeld => ?_)
            clear hK K
            ((try simp only [List.getElem_toArray]); (try simp only [List.getElem_cons_succ]); (try simp only [List.getElem_cons_zero]); (try simp only [Act.put]); (try simp only [List.setIfInBounds_toArray]); (try simp only [List.set_cons_succ]); (try simp only [List.set_cons_zero]))
            have R : TwoR wd A2 D2 (.pointer (some ⟨g8, 0, none⟩)) (.pointer (some ⟨g9, 0, none⟩)) Zy := ⟨g8, g9, rfl, rfl, n89, (by first | exact sx.1.keep sy.2 (by show ¬ g8 = g9; omega) | (rw [← eA2]; exact sx.1.keep sy.2 (by show ¬ g8 = g9; omega))), (by first | exact sy.1 | (rw [← eD2]; exact sy.1)), (kw.older (sx.2.mono (T := fun g => g = g8 ∨ g = g9) fun g e => .inl e) (fun j hj => by omega)).older (sy.2.mono (T := fun g => g = g8 ∨ g = g9) fun g e => .inr e) (fun j hj => by omega), l8, l9⟩
            have R := Lib.hid R
            refine wpAnyH_done (by kernel_rfl) ?_ _
            clear hHeld sx sy kw hb8 hc8 hb9 hc9
            go_wp2_with fail
            go_meet
            case rel => exact R.out
          · skip
            go_simp
            generalize hZ : Z18.alloc _ = Z21
            have r9 : Raw Z21 Z18.heap.size := by rw [← hZ]; exact raw_new Z18 _ rfl
            have kk : Keep (fun _ => False) Z18 Z21 := by rw [← hZ]; exact (Keep.refl _ _).alloc _
            clear hZ
            have lz := r8.lt
            have r8 := r8.keep kk id
            have l9 : wd.heap.size ≤ Z18.heap.size := kw.size
            have kw := kw.trans kk
            refine hK.out _ _ ⟨hHeld.1.keep kk id, hHeld.2.1.keep kk id, hHeld.2.2.1.keep kk id, hHeld.2.2.2.keep kk id⟩ (fun hHeld => ?_)
            clear hK K kk
            obtain ⟨g9, ea⟩ : ∃ g, Z18.heap.size = g := ⟨_, rfl⟩
            rw [ea] at r9 l9 lz ⊢
            clear ea
            ((try simp only [List.getElem_toArray]); (try simp only [List.getElem_cons_succ]); (try simp only [List.getElem_cons_zero]); (try simp only [Act.put]); (try simp only [List.setIfInBounds_toArray]); (try simp only [List.set_cons_succ]); (try simp only [List.set_cons_zero]))
            refine wpAnyH_ready (rs := [7]) (by kernel_rfl) (by simp) ?_
            refine AllReadyH.cons rfl (fun K hK => ?_) AllReadyH.nil
            go_simp
            refine (without_any hHeld.2.1 hHeld.2.2.2).mono ?_
            rintro e Z22 ⟨rfl, bn⟩
            have kk := keep_of bn (fun _ => False)
            clear bn
            have r8 := r8.keep kk id
            have r9 := r9.keep kk id
            have kw := kw.trans kk
            refine hK.out _ _ ⟨hHeld.1.keep kk id, hHeld.2.1.keep kk id, hHeld.2.2.1.keep kk id, hHeld.2.2.2.keep kk id⟩ (fun hHeld => ?_)
            clear hK K kk
            ((try simp only [List.getElem_toArray]); (try simp only [List.getElem_cons_succ]); (try simp only [List.getElem_cons_zero]); (try simp only [Act.put]); (try simp only [List.setIfInBounds_toArray]); (try simp only [List.set_cons_succ]); (try simp only [List.set_cons_zero]))
            have n89 : g8 ≠ g9 := by omega
            obtain ⟨cur8, hc8, hb8⟩ := r8
            refine wpAnyH_ready (rs := [10]) (by kernel_rfl) (by simp) ?_
            refine AllReadyH.cons rfl (fun K hK => ?_) AllReadyH.nil
            refine step_store_set rfl (.tmp 8) (.tmp 35) rfl rfl rfl rfl hb8 hc8 fun Zx sx => ?_
            refine hK.out _ _ ⟨hHeld.1.keep sx.2 (by show ¬ g6 = g8; omega), hHeld.2.1.keep sx.2 (by show ¬ g7 = g8; omega), hHeld.2.2.1.keep sx.2 (by show ¬ byy = g8; omega), hHeld.2.2.2.keep sx.2 (by show ¬ bx = g8; omega)⟩ (fun hHeld => ?_)
            clear hK K
            ((try simp only [List.getElem_toArray]); (try simp only [List.getElem_cons_succ]); (try simp only [List.getElem_cons_zero]); (try simp only [Act.put]); (try simp only [List.setIfInBounds_toArray]); (try simp only [List.set_cons_succ]); (try simp only [List.set_cons_zero]))
            have r9 := r9.keep sx.2 (by show ¬ g9 = g8; omega)
            obtain ⟨cur9, hc9, hb9⟩ := r9
            refine wpAnyH_ready (rs := [11]) (by kernel_rfl) (by simp) ?_
            refine AllReadyH.cons rfl (fun K hK => ?_) AllReadyH.nil
            refine step_store_set rfl (.tmp 9) (.tmp 39) rfl rfl rfl rfl hb9 hc9 fun Zy sy => ?_
            refine hK.out _ _ ⟨hHeld.1.keep sy.2 (by show ¬ g6 = g9; omega), hHeld.2.1.keep sy.2 (by show ¬ g7 = g9; omega), hHeld.2.2.1.keep sy.2 (by show ¬ byy = g9; omega), hHeld.2.2.2.keep sy.2 (by show ¬ bx = g9; omega)⟩ (fun hHeld => ?_)
            clear hK K
            ((try simp only [List.getElem_toArray]); (try simp only [List.getElem_cons_succ]); (try simp only [List.getElem_cons_zero]); (try simp only [Act.put]); (try simp only [List.setIfInBounds_toArray]); (try simp only [List.set_cons_succ]); (try simp only [List.set_cons_zero]))
            have R : TwoR wd A2 D2 (.pointer (some ⟨g8, 0, none⟩)) (.pointer (some ⟨g9, 0, none⟩)) Zy := ⟨g8, g9, rfl, rfl, n89, (by first | exact sx.1.keep sy.2 (by show ¬ g8 = g9; omega) | (rw [← eA2]; exact sx.1.keep sy.2 (by show ¬ g8 = g9; omega))), (by first | exact sy.1 | (rw [← eD2]; exact sy.1)), (kw.older (sx.2.mono (T := fun g => g = g8 ∨ g = g9) fun g e => .inl e) (fun j hj => by omega)).older (sy.2.mono (T := fun g => g = g8 ∨ g = g9) fun g e => .inr e) (fun j hj => by omega), l8, l9⟩
            have R := Lib.hid R
            refine wpAnyH_done (by kernel_rfl) ?_ _
            clear hHeld sx sy kw hb8 hc8 hb9 hc9
            go_wp2_with fail
            go_meet
            case rel => exact R.out
        · skip
          go_simp
          generalize hZ : Z17.alloc _ = Z23
          have r9 : Raw Z23 Z17.heap.size := by rw [← hZ]; exact raw_new Z17 _ rfl
          have kk : Keep (fun _ => False) Z17 Z23 := by rw [← hZ]; exact (Keep.refl _ _).alloc _
          clear hZ
          have lz := r8.lt
          have r8 := r8.keep kk id
          have l9 : wd.heap.size ≤ Z17.heap.size := kw.size
          have kw := kw.trans kk
          refine hK.out _ _ ⟨hHeld.1.keep kk id, hHeld.2.1.keep kk id, hHeld.2.2.1.keep kk id, hHeld.2.2.2.keep kk id⟩ (fun hHeld => ?_)
          clear hK K kk
          obtain ⟨g9, ea⟩ : ∃ g, Z17.heap.size = g := ⟨_, rfl⟩
          rw [ea] at r9 l9 lz ⊢
          clear ea
          ((try simp only [List.getElem_toArray]); (try simp only [List.getElem_cons_succ]); (try simp only [List.getElem_cons_zero]); (try simp only [Act.put]); (try simp only [List.setIfInBounds_toArray]); (try simp only [List.set_cons_succ]); (try simp only [List.set_cons_zero]))
          refine wpAnyH_ready (rs := [3]) (by kernel_rfl) (by simp) ?_
          refine AllReadyH.cons rfl (fun K hK => ?_) AllReadyH.nil
          go_simp
          refine (without_any hHeld.1 hHeld.2.2.1).mono ?_
          rintro e Z24 ⟨rfl, bn⟩
          have kk := keep_of bn (fun _ => False)
          clear bn
          have r8 := r8.keep kk id
          have r9 := r9.keep kk id
          have kw := kw.trans kk
          refine hK.out _ _ ⟨hHeld.1.keep kk id, hHeld.2.1.keep kk id, hHeld.2.2.1.keep kk id, hHeld.2.2.2.keep kk id⟩ (fun hHeld => ?_)
          clear hK K kk
          ((try simp only [List.getElem_toArray]); (try simp only [List.getElem_cons_succ]); (try simp only [List.getElem_cons_zero]); (try simp only [Act.put]); (try simp only [List.setIfInBounds_toArray]); (try simp only [List.set_cons_succ]); (try simp only [List.set_cons_zero]))
          refine wpAnyH_ready (rs := [7]) (by kernel_rfl) (by simp) ?_
          refine AllReadyH.cons rfl (fun K hK => ?_) AllReadyH.nil
          go_simp
          refine (without_any hHeld.2.1 hHeld.2.2.2).mono ?_
          rintro e Z25 ⟨rfl, bn⟩
          have kk := keep_of bn (fun _ => False)
          clear bn
          have r8 := r8.keep kk id
          have r9 := r9.keep kk id
          have kw := kw.trans kk
          refine hK.out _ _ ⟨hHeld.1.keep kk id, hHeld.2.1.keep kk id, hHeld.2.2.1.keep kk id, hHeld.2.2.2.keep kk id⟩ (fun hHeld => ?_)
          clear hK K kk
          ((try simp only [List.getElem_toArray]); (try simp only [List.getElem_cons_succ]); (try simp only [List.getElem_cons_zero]); (try simp only [Act.put]); (try simp only [List.setIfInBounds_toArray]); (try simp only [List.set_cons_succ]); (try simp only [List.set_cons_zero]))
          have n89 : g8 ≠ g9 := by omega
          obtain ⟨cur8, hc8, hb8⟩ := r8
          refine wpAnyH_ready (rs := [10]) (by kernel_rfl) (by simp) ?_
          refine AllReadyH.cons rfl (fun K hK => ?_) AllReadyH.nil
          refine step_store_set rfl (.tmp 8) (.tmp 35) rfl rfl rfl rfl hb8 hc8 fun Zx sx => ?_
          refine hK.out _ _ ⟨hHeld.1.keep sx.2 (by show ¬ g6 = g8; omega), hHeld.2.1.keep sx.2 (by show ¬ g7 = g8; omega), hHeld.2.2.1.keep sx.2 (by show ¬ byy = g8; omega), hHeld.2.2.2.keep sx.2 (by show ¬ bx = g8; omega)⟩ (fun hHeld => ?_)
          clear hK K
          ((try simp only [List.getElem_toArray]); (try simp only [List.getElem_cons_succ]); (try simp only [List.getElem_cons_zero]); (try simp only [Act.put]); (try simp only [List.setIfInBounds_toArray]); (try simp only [List.set_cons_succ]); (try simp only [List.set_cons_zero]))
          have r9 := r9.keep sx.2 (by show ¬ g9 = g8; omega)
          obtain ⟨cur9, hc9, hb9⟩ := r9
          refine wpAnyH_ready (rs := [11]) (by kernel_rfl) (by simp) ?_
          refine AllReadyH.cons rfl (fun K hK => ?_) AllReadyH.nil
          refine step_store_set rfl (.tmp 9) (.tmp 39) rfl rfl rfl rfl hb9 hc9 fun Zy sy => ?_
          refine hK.out _ _ ⟨hHeld.1.keep sy.2 (by show ¬ g6 = g9; omega), hHeld.2.1.keep sy.2 (by show ¬ g7 = g9; omega), hHeld.2.2.1.keep sy.2 (by show ¬ byy = g9; omega), hHeld.2.2.2.keep sy.2 (by show ¬ bx = g9; omega)⟩ (fun hHeld => ?_)
          clear hK K
          ((try simp only [List.getElem_toArray]); (try simp only [List.getElem_cons_succ]); (try simp only [List.getElem_cons_zero]); (try simp only [Act.put]); (try simp only [List.setIfInBounds_toArray]); (try simp only [List.set_cons_succ]); (try simp only [List.set_cons_zero]))
          have R : TwoR wd A2 D2 (.pointer (some ⟨g8, 0, none⟩)) (.pointer (some ⟨g9, 0, none⟩)) Zy := ⟨g8, g9, rfl, rfl, n89, (by first | exact sx.1.keep sy.2 (by show ¬ g8 = g9; omega) | (rw [← eA2]; exact sx.1.keep sy.2 (by show ¬ g8 = g9; omega))), (by first | exact sy.1 | (rw [← eD2]; exact sy.1)), (kw.older (sx.2.mono (T := fun g => g = g8 ∨ g = g9) fun g e => .inl e) (fun j hj => by omega)).older (sy.2.mono (T := fun g => g = g8 ∨ g = g9) fun g e => .inr e) (fun j hj => by omega), l8, l9⟩
          have R := Lib.hid R
          refine wpAnyH_done (by kernel_rfl) ?_ _
          clear hHeld sx sy kw hb8 hc8 hb9 hc9
          go_wp2_with fail
          go_meet
          case rel => exact R.out
      · skip
        go_simp
        generalize hZ : Z.alloc _ = Z26
        have r9 : Raw Z26 Z.heap.size := by rw [← hZ]; exact raw_new Z _ rfl
        have kk : Keep (fun _ => False) Z Z26 := by rw [← hZ]; exact (Keep.refl _ _).alloc _
        clear hZ
        have l9 : wd.heap.size ≤ Z.heap.size := kw.size
        have kw := kw.trans kk
        refine hK.out _ _ ⟨hHeld.1.keep kk id, hHeld.2.1.keep kk id, hHeld.2.2.1.keep kk id, hHeld.2.2.2.keep kk id⟩ (fun hHeld => ?_)
        clear hK K kk
        obtain ⟨g9, ea⟩ : ∃ g, Z.heap.size = g := ⟨_, rfl⟩
        rw [ea] at r9 l9 ⊢
        clear ea
        ((try simp only [List.getElem_toArray]); (try simp only [List.getElem_cons_succ]); (try simp only [List.getElem_cons_zero]); (try simp only [Act.put]); (try simp only [List.setIfInBounds_toArray]); (try simp only [List.set_cons_succ]); (try simp only [List.set_cons_zero]))
        refine wpAnyH_ready (rs := [3, 8]) (by kernel_rfl) (by simp) ?_
        refine AllReadyH.cons rfl (fun K hK => ?_) (AllReadyH.cons rfl (fun K hK => ?_) AllReadyH.nil)
        · skip
          go_simp
          refine (without_any hHeld.1 hHeld.2.2.1).mono ?_
          rintro e Z27 ⟨rfl, bn⟩
          have kk := keep_of bn (fun _ => False)
          clear bn
          have r9 := r9.keep kk id
          have kw := kw.trans kk
          refine hK.out _ _ ⟨hHeld.1.keep kk id, hHeld.2.1.keep kk id, hHeld.2.2.1.keep kk id, hHeld.2.2.2.keep kk id⟩ (fun hHeld => ?_)
          clear hK K kk
          ((try simp only [List.getElem_toArray]); (try simp only [List.getElem_cons_succ]); (try simp only [List.getElem_cons_zero]); (try simp only [Act.put]); (try simp only [List.setIfInBounds_toArray]); (try simp only [List.set_cons_succ]); (try simp only [List.set_cons_zero]))
          refine wpAnyH_ready (rs := [7, 8]) (by kernel_rfl) (by simp) ?_
          refine AllReadyH.cons rfl (fun K hK => ?_) (AllReadyH.cons rfl (fun K hK => ?_) AllReadyH.nil)
          · skip
            go_simp
            refine (without_any hHeld.2.1 hHeld.2.2.2).mono ?_
            rintro e Z28 ⟨rfl, bn⟩
            have kk := keep_of bn (fun _ => False)
            clear bn
            have r9 := r9.keep kk id
            have kw := kw.trans kk
            refine hK.out _ _ ⟨hHeld.1.keep kk id, hHeld.2.1.keep kk id, hHeld.2.2.1.keep kk id, hHeld.2.2.2.keep kk id⟩ (fun hHeld => ?_)
            clear hK K kk
            ((try simp only [List.getElem_toArray]); (try simp only [List.getElem_cons_succ]); (try simp only [List.getElem_cons_zero]); (try simp only [Act.put]); (try simp only [List.setIfInBounds_toArray]); (try simp only [List.set_cons_succ]); (try simp only [List.set_cons_zero]))
            refine wpAnyH_ready (rs := [8]) (by kernel_rfl) (by simp) ?_
            refine AllReadyH.cons rfl (fun K hK => ?_) AllReadyH.nil
            go_simp
            generalize hZ : Z28.alloc _ = Z29
            have r8 : Raw Z29 Z28.heap.size := by rw [← hZ]; exact raw_new Z28 _ rfl
            have kk : Keep (fun _ => False) Z28 Z29 := by rw [← hZ]; exact (Keep.refl _ _).alloc _
            clear hZ
            have lz := r9.lt
            have r9 := r9.keep kk id
            have l8 : wd.heap.size ≤ Z28.heap.size := kw.size
            have kw := kw.trans kk
            refine hK.out _ _ ⟨hHeld.1.keep kk id, hHeld.2.1.keep kk id, hHeld.2.2.1.keep kk id, hHeld.2.2.2.keep kk id⟩ (fun hHeld => ?_)
            clear hK K kk
            obtain ⟨g8, ea⟩ : ∃ g, Z28.heap.size = g := ⟨_, rfl⟩
            rw [ea] at r8 l8 lz ⊢
            clear ea
            ((try simp only [List.getElem_toArray]); (try simp only [List.getElem_cons_succ]); (try simp only [List.getElem_cons_zero]); (try simp only [Act.put]); (try simp only [List.setIfInBounds_toArray]); (try simp only [List.set_cons_succ]); (try simp only [List.set_cons_zero]))
            have n89 : g8 ≠ g9 := by omega
            obtain ⟨cur8, hc8, hb8⟩ := r8
            refine wpAnyH_ready (rs := [10]) (by kernel_rfl) (by simp) ?_
            refine AllReadyH.cons rfl (fun K hK => ?_) AllReadyH.nil
            refine step_store_set rfl (.tmp 8) (.tmp 35) rfl rfl rfl rfl hb8 hc8 fun Zx sx => ?_
            refine hK.out _ _ ⟨hHeld.1.keep sx.2 (by show ¬ g6 = g8; omega), hHeld.2.1.keep sx.2 (by show ¬ g7 = g8; omega), hHeld.2.2.1.keep sx.2 (by show ¬ byy = g8; omega), hHeld.2.2.2.keep sx.2 (by show ¬ bx = g8; omega)⟩ (fun hHeld => ?_)
            clear hK K
            ((try simp only [List.getElem_toArray]); (try simp only [List.getElem_cons_succ]); (try simp only [List.getElem_cons_zero]); (try simp only [Act.put]); (try simp only [List.setIfInBounds_toArray]); (try simp only [List.set_cons_succ]); (try simp only [List.set_cons_zero]))
            have r9 := r9.keep sx.2 (by show ¬ g9 = g8; omega)
            obtain ⟨cur9, hc9, hb9⟩ := r9
            refine wpAnyH_ready (rs := [11]) (by kernel_rfl) (by simp) ?_
            refine AllReadyH.cons rfl (fun K hK => ?_) AllReadyH.nil
            refine step_store_set rfl (.tmp 9) (.tmp 39) rfl rfl rfl rfl hb9 hc9 fun Zy sy => ?_
            refine hK.out _ _ ⟨hHeld.1.keep sy.2 (by show ¬ g6 = g9; omega), hHeld.2.1.keep sy.2 (by show ¬ g7 = g9; omega), hHeld.2.2.1.keep sy.2 (by show ¬ byy = g9; omega), hHeld.2.2.2.keep sy.2 (by show ¬ bx = g9; omega)⟩ (fun hHeld => ?_)
            clear hK K
            ((try simp only [List.getElem_toArray]); (try simp only [List.getElem_cons_succ]); (try simp only [List.getElem_cons_zero]); (try simp only [Act.put]); (try simp only [List.setIfInBounds_toArray]); (try simp only [List.set_cons_succ]); (try simp only [List.set_cons_zero]))
            have R : TwoR wd A2 D2 (.pointer (some ⟨g8, 0, none⟩)) (.pointer (some ⟨g9, 0, none⟩)) Zy := ⟨g8, g9, rfl, rfl, n89, (by first | exact sx.1.keep sy.2 (by show ¬ g8 = g9; omega) | (rw [← eA2]; exact sx.1.keep sy.2 (by show ¬ g8 = g9; omega))), (by first | exact sy.1 | (rw [← eD2]; exact sy.1)), (kw.older (sx.2.mono (T := fun g => g = g8 ∨ g = g9) fun g e => .inl e) (fun j hj => by omega)).older (sy.2.mono (T := fun g => g = g8 ∨ g = g9) fun g e => .inr e) (fun j hj => by omega), l8, l9⟩
            have R := Lib.hid R
            refine wpAnyH_done (by kernel_rfl) ?_ _
            clear hHeld sx sy kw hb8 hc8 hb9 hc9
            go_wp2_with fail
            go_meet
            case rel => exact R.out
          · skip
            go_simp
            generalize hZ : Z27.alloc _ = Z30
            have r8 : Raw Z30 Z27.heap.size := by rw [← hZ]; exact raw_new Z27 _ rfl
            have kk : Keep (fun _ => False) Z27 Z30 := by rw [← hZ]; exact (Keep.refl _ _).alloc _
            clear hZ
            have lz := r9.lt
            have r9 := r9.keep kk id
            have l8 : wd.heap.size ≤ Z27.heap.size := kw.size
            have kw := kw.trans kk
            refine hK.out _ _ ⟨hHeld.1.keep kk id, hHeld.2.1.keep kk id, hHeld.2.2.1.keep kk id, hHeld.2.2.2.keep kk id⟩ (fun hHeld => ?_)
            clear hK K kk
            obtain ⟨g8, ea⟩ : ∃ g, Z27.heap.size = g := ⟨_, rfl⟩
            rw [ea] at r8 l8 lz ⊢
            clear ea
            ((try simp only [List.getElem_toArray]); (try simp only [List.getElem_cons_succ]); (try simp only [List.getElem_cons_zero]); (try simp only [Act.put]); (try simp only [List.setIfInBounds_toArray]); (try simp only [List.set_cons_succ]); (try simp only [List.set_cons_zero]))
            refine wpAnyH_ready (rs := [7]) (by kernel_rfl) (by simp) ?_
            refine AllReadyH.cons rfl (fun K hK => ?_) AllReadyH.nil
            go_simp
            refine (without_any hHeld.2.1 hHeld.2.2.2).mono ?_
            rintro e Z31 ⟨rfl, bn⟩
            have kk := keep_of bn (fun _ => False)
            clear bn
            have r8 := r8.keep kk id
            have r9 := r9.keep kk id
            have kw := kw.trans kk
            refine hK.out _ _ ⟨hHeld.1.keep kk id, hHeld.2.1.keep kk id, hHeld.2.2.1.keep kk id, hHeld.2.2.2.keep kk id⟩ (fun hHeld => ?_)
            clear hK K kk
            ((try simp only [List.getElem_toArray]); (try simp only [List.getElem_cons_succ]); (try simp only [List.getElem_cons_zero]); (try simp only [Act.put]); (try simp only [List.setIfInBounds_toArray]); (try simp only [List.set_cons_succ]); (try simp only [List.set_cons_zero]))
            have n89 : g8 ≠ g9 := by omega
            obtain ⟨cur8, hc8, hb8⟩ := r8
            refine wpAnyH_ready (rs := [10]) (by kernel_rfl) (by simp) ?_
            refine AllReadyH.cons rfl (fun K hK => ?_) AllReadyH.nil
            refine step_store_set rfl (.tmp 8) (.tmp 35) rfl rfl rfl rfl hb8 hc8 fun Zx sx => ?_
            refine hK.out _ _ ⟨hHeld.1.keep sx.2 (by show ¬ g6 = g8; omega), hHeld.2.1.keep sx.2 (by show ¬ g7 = g8; omega), hHeld.2.2.1.keep sx.2 (by show ¬ byy = g8; omega), hHeld.2.2.2.keep sx.2 (by show ¬ bx = g8; omega)⟩ (fun hHeld => ?_)
            clear hK K
            ((try simp only [List.getElem_toArray]); (try simp only [List.getElem_cons_succ]); (try simp only [List.getElem_cons_zero]); (try simp only [Act.put]); (try simp only [List.setIfInBounds_toArray]); (try simp only [List.set_cons_succ]); (try simp only [List.set_cons_zero]))
            have r9 := r9.keep sx.2 (by show ¬ g9 = g8; omega)
            obtain ⟨cur9, hc9, hb9⟩ := r9
            refine wpAnyH_ready (rs := [11]) (by kernel_rfl) (by simp) ?_
            refine AllReadyH.cons rfl (fun K hK => ?_) AllReadyH.nil
            refine step_store_set rfl (.tmp 9) (.tmp 39) rfl rfl rfl rfl hb9 hc9 fun Zy sy => ?_
            refine hK.out _ _ ⟨hHeld.1.keep sy.2 (by show ¬ g6 = g9; omega), hHeld.2.1.keep sy.2 (by show ¬ g7 = g9; omega), hHeld.2.2.1.keep sy.2 (by show ¬ byy = g9; omega), hHeld.2.2.2.keep sy.2 (by show ¬ bx = g9; omega)⟩ (fun hHeld => ?_)
            clear hK K
            ((try simp only [List.getElem_toArray]); (try simp only [List.getElem_cons_succ]); (try simp only [List.getElem_cons_zero]); (try simp only [Act.put]); (try simp only [List.setIfInBounds_toArray]); (try simp only [List.set_cons_succ]); (try simp only [List.set_cons_zero]))
            have R : TwoR wd A2 D2 (.pointer (some ⟨g8, 0, none⟩)) (.pointer (some ⟨g9, 0, none⟩)) Zy := ⟨g8, g9, rfl, rfl, n89, (by first | exact sx.1.keep sy.2 (by show ¬ g8 = g9; omega) | (rw [← eA2]; exact sx.1.keep sy.2 (by show ¬ g8 = g9; omega))), (by first | exact sy.1 | (rw [← eD2]; exact sy.1)), (kw.older (sx.2.mono (T := fun g => g = g8 ∨ g = g9) fun g e => .inl e) (fun j hj => by omega)).older (sy.2.mono (T := fun g => g = g8 ∨ g = g9) fun g e => .inr e) (fun j hj => by omega), l8, l9⟩
            have R := Lib.hid R
            refine wpAnyH_done (by kernel_rfl) ?_ _
            clear hHeld sx sy kw hb8 hc8 hb9 hc9
            go_wp2_with fail
            go_meet
            case rel => exact R.out
        · skip
          go_simp
          generalize hZ : Z26.alloc _ = Z32
          have r8 : Raw Z32 Z26.heap.size := by rw [← hZ]; exact raw_new Z26 _ rfl
          have kk : Keep (fun _ => False) Z26 Z32 := by rw [← hZ]; exact (Keep.refl _ _).alloc _
          clear hZ
          have lz := r9.lt
          have r9 := r9.keep kk id
          have l8 : wd.heap.size ≤ Z26.heap.size := kw.size
          have kw := kw.trans kk
          refine hK.out _ _ ⟨hHeld.1.keep kk id, hHeld.2.1.keep kk id, hHeld.2.2.1.keep kk id, hHeld.2.2.2.keep kk id⟩ (fun hHeld => ?_)
          clear hK K kk
          obtain ⟨g8, ea⟩ : ∃ g, Z26.heap.size = g := ⟨_, rfl⟩
          rw [ea] at r8 l8 lz ⊢
          clear ea
          ((try simp only [List.getElem_toArray]); (try simp only [List.getElem_cons_succ]); (try simp only [List.getElem_cons_zero]); (try simp only [Act.put]); (try simp only [List.setIfInBounds_toArray]); (try simp only [List.set_cons_succ]); (try simp only [List.set_cons_zero]))
          refine wpAnyH_ready (rs := [3]) (by kernel_rfl) (by simp) ?_
          refine AllReadyH.cons rfl (fun K hK => ?_) AllReadyH.nil
          go_simp
          refine (without_any hHeld.1 hHeld.2.2.1).mono ?_
          rintro e Z33 ⟨rfl, bn⟩
          have kk := keep_of bn (fun _ => False)
          clear bn
          have r8 := r8.keep kk id
          have r9 := r9.keep kk id
          have kw := kw.trans kk
          refine hK.out _ _ ⟨hHeld.1.keep kk id, hHeld.2.1.keep kk id, hHeld.2.2.1.keep kk id, hHeld.2.2.2.keep kk id⟩ (fun hHeld => ?_)
          clear hK K kk
          ((try simp only [List.getElem_toArray]); (try simp only [List.getElem_cons_succ]); (try simp only [List.getElem_cons_zero]); (try simp only [Act.put]); (try simp only [List.setIfInBounds_toArray]); (try simp only [List.set_cons_succ]); (try simp only [List.set_cons_zero]))
          refine wpAnyH_ready (rs := [7]) (by kernel_rfl) (by simp) ?_
          refine AllReadyH.cons rfl (fun K hK => ?_) AllReadyH.nil
          go_simp
          refine (without_any hHeld.2.1 hHeld.2.2.2).mono ?_
          rintro e Z34 ⟨rfl, bn⟩
          have kk := keep_of bn (fun _ => False)
          clear bn
          have r8 := r8.keep kk id
          have r9 := r9.keep kk id
          have kw := kw.trans kk
          refine hK.out _ _ ⟨hHeld.1.keep kk id, hHeld.2.1.keep kk id, hHeld.2.2.1.keep kk id, hHeld.2.2.2.keep kk id⟩ (fun hHeld => ?_)
          clear hK K kk
          ((try simp only [List.getElem_toArray]); (try simp only [List.getElem_cons_succ]); (try simp only [List.getElem_cons_zero]); (try simp only [Act.put]); (try simp only [List.setIfInBounds_toArray]); (try simp only [List.set_cons_succ]); (try simp only [List.set_cons_zero]))
          have n89 : g8 ≠ g9 := by omega
          obtain ⟨cur8, hc8, hb8⟩ := r8
          refine wpAnyH_ready (rs := [10]) (by kernel_rfl) (by simp) ?_
          refine AllReadyH.cons rfl (fun K hK => ?_) AllReadyH.nil
          refine step_store_set rfl (.tmp 8) (.tmp 35) rfl rfl rfl rfl hb8 hc8 fun Zx sx => ?_
          refine hK.out _ _ ⟨hHeld.1.keep sx.2 (by show ¬ g6 = g8; omega), hHeld.2.1.keep sx.2 (by show ¬ g7 = g8; omega), hHeld.2.2.1.keep sx.2 (by show ¬ byy = g8; omega), hHeld.2.2.2.keep sx.2 (by show ¬ bx = g8; omega)⟩ (fun hHeld => ?_)
          clear hK K
          ((try simp only [List.getElem_toArray]); (try simp only [List.getElem_cons_succ]); (try simp only [List.getElem_cons_zero]); (try simp only [Act.put]); (try simp only [List.setIfInBounds_toArray]); (try simp only [List.set_cons_succ]); (try simp only [List.set_cons_zero]))
          have r9 := r9.keep sx.2 (by show ¬ g9 = g8; omega)
          obtain ⟨cur9, hc9, hb9⟩ := r9
          refine wpAnyH_ready (rs := [11]) (by kernel_rfl) (by simp) ?_
          refine AllReadyH.cons rfl (fun K hK => ?_) AllReadyH.nil
          refine step_store_set rfl (.tmp 9) (.tmp 39) rfl rfl rfl rfl hb9 hc9 fun Zy sy => ?_
          refine hK.out _ _ ⟨hHeld.1.keep sy.2 (by show ¬ g6 = g9; omega), hHeld.2.1.keep sy.2 (by show ¬ g7 = g9; omega), hHeld.2.2.1.keep sy.2 (by show ¬ byy = g9; omega), hHeld.2.2.2.keep sy.2 (by show ¬ bx = g9; omega)⟩ (fun hHeld => ?_)
          clear hK K
          ((try simp only [List.getElem_toArray]); (try simp only [List.getElem_cons_succ]); (try simp only [List.getElem_cons_zero]); (try simp only [Act.put]); (try simp only [List.setIfInBounds_toArray]); (try simp only [List.set_cons_succ]); (try simp only [List.set_cons_zero]))
          have R : TwoR wd A2 D2 (.pointer (some ⟨g8, 0, none⟩)) (.pointer (some ⟨g9, 0, none⟩)) Zy := ⟨g8, g9, rfl, rfl, n89, (by first | exact sx.1.keep sy.2 (by show ¬ g8 = g9; omega) | (rw [← eA2]; exact sx.1.keep sy.2 (by show ¬ g8 = g9; omega))), (by first | exact sy.1 | (rw [← eD2]; exact sy.1)), (kw.older (sx.2.mono (T := fun g => g = g8 ∨ g = g9) fun g e => .inl e) (fun j hj => by omega)).older (sy.2.mono (T := fun g => g = g8 ∨ g = g9) fun g e => .inr e) (fun j hj => by omega), l8, l9⟩
          have R := Lib.hid R
          refine wpAnyH_done (by kernel_rfl) ?_ _
          clear hHeld sx sy kw hb8 hc8 hb9 hc9
          go_wp2_with fail
          go_meet
          case rel => exact R.out
    case rest =>
      obtain ⟨g8, g9, rfl, rfl, n89, s8, s9, k1, l8, l9⟩ := hcut
      have kc : Keep (fun g => w.heap.size ≤ g) w wc := kd.trans (k1.mono fun _ e => e.elim)
      have C6 := d6.keep k1 id
      have C7 := d7.keep k1 id
      have far : ∀ g, PFt bs xs.length g → g < w.heap.size := fun g hg => H.out.lt g (.inr (.inr (.inr hg)))
      have hc := H.out.keep kc fun g hg => by have := H.out.lt g hg; omega
      have hA2 : ∀ q, q < 2048 → A2 q → q < xs.length := fun q hq c => by
        rw [← eA2] at c
        rcases c.1 with c | c
        · exact hA q hq c
        · omega
      have hD2 : ∀ q, q < 2048 → D2 q → q < xs.length := fun q hq c => by
        rw [← eD2] at c
        rcases c.1 with c | c
        · exact hD q hq c
        · omega
      have tc := hT.keep kc (by omega)
      have pl := at_any hc s8.at hA2 tc
      have hlt := plc_lt hA2
      have l2 : (plc A2 2048).length ≤ 2048 := plc_len
      have nd : (plc A2 2048).Nodup := plc_nd
      obtain ⟨L1, eL1⟩ : ∃ L, plc A2 2048 = L := ⟨_, rfl⟩
      have bl1 : bsOf bs A2 2048 = L1.map fun q => bs.getD q 0 := by rw [← eL1]; rfl
      rw [bl1] at pl
      rw [eL1] at hlt l2 nd
      obtain ⟨A', eA'⟩ : ∃ S : Nat → Prop, (fun q => A q ∨ q = kx) = S := ⟨_, rfl⟩
      obtain ⟨D', eD'⟩ : ∃ S : Nat → Prop, (fun q => D q ∨ q = ky) = S := ⟨_, rfl⟩
      rw [eA'] at C6
      rw [eD'] at C7
      have RES : ∀ w', BdC w' p m v bs (updL (jaP A') (updL (jbP D') xs L1) (plc D2 2048)) → BdC w' p m v bs (updL (jaP fun q => (pty xs kx).ab q ∨ q = kx) (updL (jbP fun q => (pty xs ky).be q ∨ q = ky) xs (plc (fun q => ((pty xs kx).ab q ∨ q = kx) ∧ ¬ (pty xs ky).ab q) 2048)) (plc (fun q => ((pty xs ky).be q ∨ q = ky) ∧ ¬ (pty xs kx).be q) 2048)) := fun w' hb => by
        rw [EA.out, ED.out, eY, eX, eA2, eD2, eL1, eA', eD']
        exact hb
      have RES := Lib.hid RES
      have HLT := Lib.hid hlt
      have ND := Lib.hid nd
      have FARR := Lib.hid far
      have KC := Lib.hid kc
      have HC := Lib.hid hc
      have TC := Lib.hid tc
      have HD2 := Lib.hid hD2
      have cs := kc.size
      have l7c : w.heap.size ≤ g8 := by omega
      have l8c : w.heap.size ≤ g9 := by omega
      clear hlt nd far kc hc tc d6 d7 dX dY k1 kd l8 l9 eX eY eA2 eD2 eL1 bl1 hA hD hA2 hT EA ED lg6 lg7 lwd hD2 eA' eD' HX HY EBX EBY
      go_wp2_with fail
      refine pl.mono ?_
      rintro e w3 ⟨u, rfl, ou, b3⟩
      clear pl
      obtain ⟨Au, cc, rfl, hA0, hA1⟩ := OwnB.shape ou
      have OU := Lib.hid ou
      have H3 : BdC w3 p m v bs xs := HC.out.keep (keep_of b3 fun _ => False) (fun _ _ q => q)
      have H3 := Lib.hid H3
      have B3 := Lib.hid b3
      have C7' := Lib.hid (C7.keep (keep_of b3 fun _ => False) id)
      have C6' := Lib.hid (C6.keep (keep_of b3 fun _ => False) id)
      have S9' := Lib.hid (s9.at.keep (keep_of b3 fun _ => False) id)
      rw [List.length_map]
      obtain ⟨n, en⟩ : ∃ n, L1.length = n := ⟨_, rfl⟩
      have EN := Lib.hid en
      rw [en] at l2 ⊢
      clear ou en b3 C6 C7 s8 s9
      go_wp2
      go_loopw [11, 43] (fun _ q wr => CaR w3 p m v bs (jbP D') xs L1 q wr) (fun _ q _ => n - (intOf q).toNat)
      case atStart => exact ⟨0, Nat.zero_le _, rfl, by show BdC _ _ _ _ _ xs; exact H3.out, Keep.refl _ _⟩
      case round =>
        obtain ⟨j, hj, rfl, bd, kr⟩ := hrel
        rw [EN.out] at hj
        by_cases hlt : j < n
        · cases Au with
          | none =>
            have := congrArg List.length (hA0 rfl)
            rw [List.length_map, EN.out] at this
            simp at this
            omega
          | some ad =>
            obtain ⟨ga, rfl⟩ := hA1 _ rfl
            have jl : j < L1.length := by rw [EN.out]; exact hlt
            have gl := OwnB.lt OU.out (g := ga) rfl
            have gt : ¬ PFt bs xs.length ga := fun c => by have := FARR.out ga c; omega
            obtain ⟨q, eq⟩ : ∃ q, L1.getD j 0 = q := ⟨_, rfl⟩
            obtain ⟨mq, nq⟩ := row_at ND.out jl eq
            have hq : q < xs.length := HLT.out q mq
            have c1 : wr.cell? ⟨ga, j, none⟩ = some (ptrV (bs.getD q 0)) := kr.cell (ptrs_at OU.out jl eq) gt
            have hq2 : q < (updL (jbP D') xs (L1.take j)).length := by rw [updL_len]; exact hq
            have gq : pty (updL (jbP D') xs (L1.take j)) q = pty xs q := by
              rw [updL_get _ _ (ND.out.sublist (List.take_sublist _ _)) (fun r hr => HLT.out r (List.mem_of_mem_take hr)), if_neg nq]
            have eb2 := bd.en q hq2
            rw [gq] at eb2
            have dk : updL (jbP D') xs (L1.take (j + 1)) = (updL (jbP D') xs (L1.take j)).set q (jbP D' (pty xs q)) := by
              rw [take_next L1 j jl 0, updL_snoc, eq, gq]
            have wj : IntKind.i64.wrap ((j : Int) + 1) = (j : Int) + 1 := IntWalk.i64_in _ (by omega)
            have pq : PFt bs xs.length (bs.getD q 0) := ⟨q, hq, rfl⟩
            have l9q : g7 ≠ bs.getD q 0 := fun e => by have := FARR.out _ pq; omega
            have s7r := C7'.out.keep kr (fun c => by have := FARR.out _ c; omega)
            unfold ptrV at c1
            obtain ⟨b9, eb9⟩ : ∃ b, bs.getD q 0 = b := ⟨_, rfl⟩
            rw [eb9] at c1 eb2 pq l9q
            have jn := join_any eb2.s2 s7r l9q
            have KR := Lib.hid kr
            have BD := Lib.hid bd
            have DK := Lib.hid dk
            have EB9 := Lib.hid eb9
            have E2 := Lib.hid eb2
            have GQ := Lib.hid gq
            have PQ := Lib.hid pq
            clear hA0 hA1 eq eb9 bd kr dk gq eb2 mq nq pq l9q s7r
            go_wp2_with fail
            refine jn.mono ?_
            rintro e wB ⟨rfl, sb, sB⟩
            have en2 := E2.out.turn sb (.inr (.inl rfl)) sB
            rw [if_neg (by decide), if_pos rfl] at en2
            have bn : BdC wB p m v bs (updL (jbP D') xs (L1.take (j + 1))) := by
              rw [DK.out]
              exact BD.out.put q hq2 (by rw [EB9.out]; exact sb.keep) (by rw [EB9.out]; exact en2) (by rw [GQ.out]; rfl)
            have kk : Keep (PFt bs xs.length) w3 wB := KR.out.trans (sb.keep.mono fun g e => by rw [e]; exact PQ.out)
            have BN := Lib.hid bn
            have KK := Lib.hid kk
            clear jn sb sB en2 bn kk
            go_wp2
            go_roundw
            case rel => exact ⟨j + 1, by rw [EN.out]; omega, by go_num, BN.out, KK.out⟩
            case measure => simp [intOf]; omega
        · obtain rfl : j = n := by omega
          rw [List.take_of_length_le (by rw [EN.out]; exact Nat.le_refl _)] at bd
          clear hA0 hA1
          obtain ⟨wQ, rfl⟩ : ∃ wQ, wQ = wr := ⟨_, rfl⟩
          obtain ⟨ys, eys⟩ : ∃ ys, updL (jbP D') xs L1 = ys := ⟨_, rfl⟩
          have ly : ys.length = xs.length := by rw [← eys]; exact updL_len _ _
          rw [eys] at bd
          have RES2 : ∀ w', BdC w' p m v bs (updL (jaP A') ys (plc D2 2048)) → _ := fun w' => by rw [← eys]; exact RES.out w'
          have RES2 := Lib.hid RES2
          have hD3 : ∀ q, q < 2048 → D2 q → q < ys.length := by rw [ly]; exact HD2.out
          have s9r := S9'.out.keep kr (fun c => by have := FARR.out _ c; omega)
          have s6r := C6'.out.keep kr (fun c => by have := FARR.out _ c; omega)
          have tr := (TC.out.keep (keep_of B3.out fun _ => False) id).keep kr hG
          have pl := at_any bd s9r hD3 tr
          have ly' : PFt bs ys.length = PFt bs xs.length := by rw [ly]
          have hlt := plc_lt hD3
          have l2 : (plc D2 2048).length ≤ 2048 := plc_len
          have nd : (plc D2 2048).Nodup := plc_nd
          obtain ⟨L2, eL2⟩ : ∃ L, plc D2 2048 = L := ⟨_, rfl⟩
          have bl2 : bsOf bs D2 2048 = L2.map fun q => bs.getD q 0 := by rw [← eL2]; rfl
          rw [bl2] at pl
          rw [eL2] at hlt l2 nd
          have RES3 : ∀ w', BdC w' p m v bs (updL (jaP A') ys L2) → _ := fun w' => by rw [← eL2]; exact RES2.out w'
          have RES3 := Lib.hid RES3
          have HLT2 := Lib.hid hlt
          have ND2 := Lib.hid nd
          have BD := Lib.hid bd
          have KR := Lib.hid kr
          clear hlt nd bd kr eL2 bl2 RES RES2 eys hD3 s9r tr ND HLT EN OU C7' S9' C6' HD2
          go_wp2_with fail
          refine pl.mono ?_
          rintro e w5 ⟨u, rfl, ou, b5⟩
          clear pl
          obtain ⟨Au2, cc2, rfl, hA0, hA1⟩ := OwnB.shape ou
          have OU := Lib.hid ou
          have H5 : BdC w5 p m v bs ys := BD.out.keep (keep_of b5 fun _ => False) (fun _ _ q => q)
          have H5 := Lib.hid H5
          have B5 := Lib.hid b5
          have C6' := Lib.hid (s6r.keep (keep_of b5 fun _ => False) id)
          rw [List.length_map]
          obtain ⟨n2, en⟩ : ∃ n, L2.length = n := ⟨_, rfl⟩
          have EN := Lib.hid en
          rw [en] at l2 ⊢
          have wsz : w.heap.size ≤ wQ.heap.size := Nat.le_trans (Nat.le_trans KC.out.size B3.out.size) KR.out.size
          clear ou en b5 s6r
          go_wp2
          go_loopw [13, 55] (fun _ q wr => CaR w5 p m v bs (jaP A') ys L2 q wr) (fun _ q _ => n2 - (intOf q).toNat)
          case atStart => exact ⟨0, Nat.zero_le _, rfl, by show BdC _ _ _ _ _ ys; exact H5.out, Keep.refl _ _⟩
          case round =>
            obtain ⟨j, hj, rfl, bd, kr⟩ := hrel
            rw [ly'] at kr
            rw [EN.out] at hj
            by_cases hlt : j < n2
            · cases Au2 with
              | none =>
                have := congrArg List.length (hA0 rfl)
                rw [List.length_map, EN.out] at this
                simp at this
                omega
              | some ad =>
                obtain ⟨ga, rfl⟩ := hA1 _ rfl
                have jl : j < L2.length := by rw [EN.out]; exact hlt
                have gl := OwnB.lt OU.out (g := ga) rfl
                have gt : ¬ PFt bs xs.length ga := fun c => by have := FARR.out ga c; omega
                obtain ⟨q, eq⟩ : ∃ q, L2.getD j 0 = q := ⟨_, rfl⟩
                obtain ⟨mq, nq⟩ := row_at ND2.out jl eq
                have hq : q < ys.length := HLT2.out q mq
                have c1 : wr.cell? ⟨ga, j, none⟩ = some (ptrV (bs.getD q 0)) := kr.cell (ptrs_at OU.out jl eq) gt
                have hq2 : q < (updL (jaP A') ys (L2.take j)).length := by rw [updL_len]; exact hq
                have gq : pty (updL (jaP A') ys (L2.take j)) q = pty ys q := by
                  rw [updL_get _ _ (ND2.out.sublist (List.take_sublist _ _)) (fun r hr => HLT2.out r (List.mem_of_mem_take hr)), if_neg nq]
                have eb2 := bd.en q hq2
                rw [gq] at eb2
                have dk : updL (jaP A') ys (L2.take (j + 1)) = (updL (jaP A') ys (L2.take j)).set q (jaP A' (pty ys q)) := by
                  rw [take_next L2 j jl 0, updL_snoc, eq, gq]
                have wj : IntKind.i64.wrap ((j : Int) + 1) = (j : Int) + 1 := IntWalk.i64_in _ (by omega)
                have pq : PFt bs xs.length (bs.getD q 0) := ⟨q, by rw [← ly]; exact hq, rfl⟩
                have l9q : g6 ≠ bs.getD q 0 := fun e => by have := FARR.out _ pq; omega
                have s6r := C6'.out.keep kr (fun c => by have := FARR.out _ c; omega)
                unfold ptrV at c1
                obtain ⟨b9, eb9⟩ : ∃ b, bs.getD q 0 = b := ⟨_, rfl⟩
                rw [eb9] at c1 eb2 pq l9q
                have jn := join_any eb2.s3 s6r l9q
                have KR2 := Lib.hid kr
                have BD2 := Lib.hid bd
                have DK := Lib.hid dk
                have EB9 := Lib.hid eb9
                have E2 := Lib.hid eb2
                have GQ := Lib.hid gq
                have PQ := Lib.hid pq
                clear hA0 hA1 eq eb9 bd kr dk gq eb2 mq nq pq l9q s6r
                go_wp2_with fail
                refine jn.mono ?_
                rintro e wB ⟨rfl, sb, sB⟩
                have en2 := E2.out.turn sb (.inr (.inr rfl)) sB
                rw [if_neg (by decide), if_neg (by decide)] at en2
                have bn : BdC wB p m v bs (updL (jaP A') ys (L2.take (j + 1))) := by
                  rw [DK.out]
                  exact BD2.out.put q hq2 (by rw [EB9.out]; exact sb.keep) (by rw [EB9.out]; exact en2) (by rw [GQ.out]; rfl)
                have kk : Keep (PFt bs ys.length) w5 wB := by rw [ly']; exact KR2.out.trans (sb.keep.mono fun g e => by rw [e]; exact PQ.out)
                have BN := Lib.hid bn
                have KK := Lib.hid kk
                clear jn sb sB en2 bn kk
                go_wp2
                go_roundw
                case rel => exact ⟨j + 1, by rw [EN.out]; omega, by go_num, BN.out, KK.out⟩
                case measure => simp [intOf]; omega
            · obtain rfl : j = n2 := by omega
              rw [List.take_of_length_le (by rw [EN.out]; exact Nat.le_refl _)] at bd
              clear hA0 hA1
              have fin := RES3.out _ bd
              have kf : Keep (PFt bs xs.length) w wr := by
                have a1 : Keep (fun g => PFt bs xs.length g ∨ w.heap.size ≤ g) w wr := ((((KC.out.mono fun g e => .inr e).trans (keep_of B3.out _)).trans (KR.out.mono fun g e => .inl e)).trans (keep_of B5.out _)).trans (kr.mono fun g e => .inl e)
                exact ⟨a1.os, a1.tape, a1.output, a1.size, fun g hg hn => a1.block g hg fun c => by
                  rcases c with c | c
                  · exact hn c
                  · omega⟩
              have FIN := Lib.hid fin
              have KF := Lib.hid kf
              clear bd kr fin kf
              go_wp2
              go_end0
              exact ⟨rfl, FIN.out, KF.out⟩
end
end Go.Proofs.YtjobphjpfknfeaaDoor
