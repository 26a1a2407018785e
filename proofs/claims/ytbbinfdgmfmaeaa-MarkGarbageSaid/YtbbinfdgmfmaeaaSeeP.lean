/- Contracts of package see as landed: passed, package ask (a deferred recover that finds nothing), done, Begin, End, See, over a look function that tells L of each id and makes memory alone; conditions: those of IsLook. -/
import Derived.Test.YtbbinfdgmfmaeaaRefSee2
import Derived.Recover
namespace Go.Proofs.Ytbbinfdgmfmaeaa
open Go.ChangeShapes Go.WideShapes Go.ChangeAt Go.RowKit
set_option linter.unusedVariables false

theorem thru {w w1 w2 : World} (h : Below w.heap.size w w1) (k : Below w1.heap.size w1 w2) : Below w.heap.size w w2 := h.trans (k.mono h.size)
/-- A function value that tells L of each id, in every world of P, and makes memory alone (what it tells of one that is none is open). -/
structure IsLook (fv : Value) (P : World → Prop) (L : Int → Option Tx) : Prop where
  form : (fv = .nilFunc ∧ ∀ id, L id = none) ∨ ∃ k caps, fv = .func (.func k) #[] caps ∧ (∀ (a : Array Value) (w : World), (callFunc k a).run Try.prog w = .ok (.enter k a) w) ∧ ∀ (id : Int) (w : World), -9223372036854775808 ≤ id → id ≤ 9223372036854775807 → P w → ∃ (x : Tx) (ok : Bool), L id = (if ok = true then some x else none) ∧ Calls Try.prog k (#[.int .i64 id] ++ caps) w fun e w' => e = .returned (.tuple #[txV x, .bool ok]) ∧ Below w.heap.size w w'
  stay : ∀ {w w' : World}, P w → Below w.heap.size w w' → P w'
theorem isLook_of {k : FuncId} {caps : Array Value} {P : World → Prop} {L : Int → Option Tx} (h : ∀ (a : Array Value) (w : World), (callFunc k a).run Try.prog w = .ok (.enter k a) w) (hc : ∀ (id : Int) (w : World), -9223372036854775808 ≤ id → id ≤ 9223372036854775807 → P w → Calls Try.prog k (#[.int .i64 id] ++ caps) w fun e w' => e = .returned (lookV (L id)) ∧ Below w.heap.size w w') (hs : ∀ {w w' : World}, P w → Below w.heap.size w w' → P w') : IsLook (.func (.func k) #[] caps) P L := by
  refine ⟨.inr ⟨k, caps, rfl, h, fun id w i0 i1 hP => ?_⟩, hs⟩
  have := hc id w i0 i1 hP
  cases hL : L id with
  | none => rw [hL] at this; exact ⟨⟨0, 0, 0, 0⟩, false, rfl, this⟩
  | some x => rw [hL] at this; exact ⟨x, true, rfl, this⟩
def noL (_ : Int) : Option Tx := none
theorem look_nil : IsLook .nilFunc (fun _ => True) noL := ⟨.inl ⟨rfl, fun _ => rfl⟩, fun _ _ => trivial⟩
theorem four_set0 (w : World) (N : Nat) (u0 u1 u2 u3 v0 v1 v2 v3 : Value) (y0 : w.cell? ⟨N, 0, none⟩ = some u0) (y1 : w.cell? ⟨N, 1, none⟩ = some u1) (y2 : w.cell? ⟨N, 2, none⟩ = some u2) (y3 : w.cell? ⟨N, 3, none⟩ = some u3) :
    ∃ W, ((((w.setCell ⟨N, 0, none⟩ v0).setCell ⟨N, 1, none⟩ v1).setCell ⟨N, 2, none⟩ v2).setCell ⟨N, 3, none⟩ v3) = W ∧ W.cell? ⟨N, 0, none⟩ = some v0 ∧ W.cell? ⟨N, 1, none⟩ = some v1 ∧ W.cell? ⟨N, 2, none⟩ = some v2 ∧ W.cell? ⟨N, 3, none⟩ = some v3 ∧ Keep (fun j => j = N) w W := by
  refine ⟨_, rfl, ?_, ?_, ?_, ?_, ((((Keep.refl (fun j => j = N) w).setCell (p := ⟨N, 0, none⟩) rfl v0).setCell (p := ⟨N, 1, none⟩) rfl v1).setCell (p := ⟨N, 2, none⟩) rfl v2).setCell (p := ⟨N, 3, none⟩) rfl v3⟩
  · rw [World.cell?_setCell_other _ _ _ _ (by first | (simp; done) | (simp; omega)), World.cell?_setCell_other _ _ _ _ (by first | (simp; done) | (simp; omega)), World.cell?_setCell_other _ _ _ _ (by first | (simp; done) | (simp; omega))]; exact World.cell?_setCell_same _ _ _ y0
  · rw [World.cell?_setCell_other _ _ _ _ (by first | (simp; done) | (simp; omega)), World.cell?_setCell_other _ _ _ _ (by first | (simp; done) | (simp; omega))]; exact World.cell?_setCell_same _ _ _ (by rw [World.cell?_setCell_other _ _ _ _ (by first | (simp; done) | (simp; omega))]; exact y1)
  · rw [World.cell?_setCell_other _ _ _ _ (by first | (simp; done) | (simp; omega))]; exact World.cell?_setCell_same _ _ _ (by rw [World.cell?_setCell_other _ _ _ _ (by first | (simp; done) | (simp; omega)), World.cell?_setCell_other _ _ _ _ (by first | (simp; done) | (simp; omega))]; exact y2)
  · exact World.cell?_setCell_same _ _ _ (by rw [World.cell?_setCell_other _ _ _ _ (by first | (simp; done) | (simp; omega)), World.cell?_setCell_other _ _ _ _ (by first | (simp; done) | (simp; omega)), World.cell?_setCell_other _ _ _ _ (by first | (simp; done) | (simp; omega))]; exact y3)
theorem passed_any (x t : Int) (w : World) : Calls Try.prog 41 #[.int .u64 x, .int .u64 t] w fun e w' => e = .returned (.int .i64 (if x ≤ t then 1 else 2)) ∧ w = w' := by
  by_cases h : x ≤ t
  · have d1 : decide (x ≤ t) = true := decide_eq_true h
    rw [if_pos h]
    go_enter Try.func41, Try.ntmps41
    go_wp2
    go_ret
    exact ⟨rfl, rfl⟩
  · have d1 : decide (x ≤ t) = false := decide_eq_false h
    rw [if_neg h]
    go_enter Try.func41, Try.ntmps41
    go_wp2
    go_ret
    exact ⟨rfl, rfl⟩
theorem ask_idle (w : World) : CallsD Try.prog 49 #[] .returning w fun e u' w' => e = .returned (.tuple #[]) ∧ u' = .returning ∧ w' = w := by
  refine callsD_of_wpS Try.func49 rfl fun c₀ cs hu => ?_
  apply wpS_region
  simp [wpOpsS, go_sem, recoverD, hu, Try.ntmps49, bodyPostS, results, Try.results49]
  cases c₀
  simp_all
section
variable {fv : Value} {P : World → Prop} {L : Int → Option Tx} {w : World}
theorem func_nil (k : FuncId) (caps : Array Value) (w : World) : (binOp .eql 71 (.func (.func k) #[] caps) .nilFunc).run Try.prog w = .ok (.bool false) w := by
  kernel_rfl
theorem nil_nil (w : World) : (binOp .eql 71 .nilFunc .nilFunc).run Try.prog w = .ok (.bool true) w := by
  kernel_rfl
set_option maxRecDepth 100000 in
theorem ask_nil (id : Int) (w : World) : Calls Try.prog 47 #[.nilFunc, .int .i64 id] w fun e w' => e = .returned (lookV none) ∧ Below w.heap.size w w' := by
  have hf := nil_nil
  have k1 := Keep.alloc (Keep.refl (fun _ => False) w) (.cells #[.int .i64 0, .int .i64 0, .int .u64 0, .int .u64 0] 98)
  obtain ⟨N, eN⟩ : ∃ N, w.heap.size = N := ⟨_, rfl⟩
  have y : ∀ i, (w.alloc (.cells #[.int .i64 0, .int .i64 0, .int .u64 0, .int .u64 0] 98)).cell? ⟨N, i, none⟩ = #[Value.int .i64 0, .int .i64 0, .int .u64 0, .int .u64 0][i]? := fun i => by rw [← eN]; simp
  have z : ∀ i, (w.alloc (.cells #[.int .i64 0, .int .i64 0, .int .u64 0, .int .u64 0] 98)).frozen? ⟨N, i, none⟩ = false := fun i => by rw [← eN]; simp
  obtain ⟨w2, e2⟩ : ∃ w2, w.alloc (.cells #[.int .i64 0, .int .i64 0, .int .u64 0, .int .u64 0] 98) = w2 := ⟨_, rfl⟩
  rw [e2] at k1 y z
  have y0 : w2.cell? ⟨N, 0, none⟩ = some (.int .i64 0) := y 0
  have y1 : w2.cell? ⟨N, 1, none⟩ = some (.int .i64 0) := y 1
  have y2 : w2.cell? ⟨N, 2, none⟩ = some (.int .u64 0) := y 2
  have y3 : w2.cell? ⟨N, 3, none⟩ = some (.int .u64 0) := y 3
  have z0 := z 0
  have z1 := z 1
  have z2 := z 2
  have z3 := z 3
  clear y z
  have W4 := Lib.hid (four_set0 w2 N _ _ _ _ (.int .i64 0) (.int .i64 0) (.int .u64 0) (.int .u64 0) y0 y1 y2 y3)
  go_enter_defers Try.func47, Try.ntmps47
  go_wp2
  obtain ⟨W, eW, v0, v1, v2, v3, kW⟩ := W4.out
  rw [eW]
  have kk : Keep (fun _ => False) w W := by
    have := (k1.mono (T := fun j => j = N) (by simp)).trans kW
    exact ⟨this.os, this.tape, this.output, this.size, fun j hj _ => this.block j hj (by omega)⟩
  simp [bodyPostD, Leaves, results, Try.results47, go_sem, lookV, txV, v0, v1, v2, v3]
  exact kk.below (Nat.le_refl _) (by simp)
theorem ask_func (h : IsLook fv P L) (hP : P w) (id : Int) (i0 : -9223372036854775808 ≤ id) (i1 : id ≤ 9223372036854775807) {k : FuncId} {caps : Array Value} (hent : ∀ (a : Array Value) (w : World), (callFunc k a).run Try.prog w = .ok (.enter k a) w)
    (hc : ∀ (w : World), P w → ∃ (x : Tx) (ok : Bool), L id = (if ok = true then some x else none) ∧ Calls Try.prog k (#[.int .i64 id] ++ caps) w fun e w' => e = .returned (.tuple #[txV x, .bool ok]) ∧ Below w.heap.size w w') :
    ∃ (x : Tx) (ok : Bool), L id = (if ok = true then some x else none) ∧ Calls Try.prog 47 #[.func (.func k) #[] caps, .int .i64 id] w fun e w' => e = .returned (.tuple #[txV x, .bool ok]) ∧ Below w.heap.size w w' := by
  have hmf : ∀ (fn : Fn) (first cap : Array Value) (w : World), (Instr.makeFunc fn first cap).run Try.prog w = .ok (.func fn first cap) w := fun _ _ _ _ => rfl
  have hf := func_nil k caps
  have k1 := Keep.alloc (Keep.refl (fun _ => False) w) (.cells #[.int .i64 0, .int .i64 0, .int .u64 0, .int .u64 0] 98)
  have hT := h.stay hP (k1.below (Nat.le_refl _) (by simp))
  obtain ⟨N, eN⟩ : ∃ N, w.heap.size = N := ⟨_, rfl⟩
  have y : ∀ i, (w.alloc (.cells #[.int .i64 0, .int .i64 0, .int .u64 0, .int .u64 0] 98)).cell? ⟨N, i, none⟩ = #[Value.int .i64 0, .int .i64 0, .int .u64 0, .int .u64 0][i]? := fun i => by rw [← eN]; simp
  have z : ∀ i, (w.alloc (.cells #[.int .i64 0, .int .i64 0, .int .u64 0, .int .u64 0] 98)).frozen? ⟨N, i, none⟩ = false := fun i => by rw [← eN]; simp
  have hl : N < (w.alloc (.cells #[.int .i64 0, .int .i64 0, .int .u64 0, .int .u64 0] 98)).heap.size := by rw [← eN]; simp
  obtain ⟨w1, e1⟩ : ∃ w1, w.alloc (.cells #[.int .i64 0, .int .i64 0, .int .u64 0, .int .u64 0] 98) = w1 := ⟨_, rfl⟩
  rw [e1] at k1 hT y z hl
  obtain ⟨x, ok, ev, hL⟩ := hc w1 hT
  refine ⟨x, ok, ev, ?_⟩
  clear ev h hc
  unfold txV at hL ⊢
  go_enter_defers Try.func47, Try.ntmps47
  go_wp2_with fail
  refine hL.mono ?_
  rintro e w2 ⟨rfl, b2⟩
  have kc := fun i => b2.cell (p := ⟨N, i, none⟩) hl
  have kz := fun i => b2.frozen (p := ⟨N, i, none⟩) hl
  have y0 : w2.cell? ⟨N, 0, none⟩ = some (.int .i64 0) := (kc 0).trans (y 0)
  have y1 : w2.cell? ⟨N, 1, none⟩ = some (.int .i64 0) := (kc 1).trans (y 1)
  have y2 : w2.cell? ⟨N, 2, none⟩ = some (.int .u64 0) := (kc 2).trans (y 2)
  have y3 : w2.cell? ⟨N, 3, none⟩ = some (.int .u64 0) := (kc 3).trans (y 3)
  have z0 := (kz 0).trans (z 0)
  have z1 := (kz 1).trans (z 1)
  have z2 := (kz 2).trans (z 2)
  have z3 := (kz 3).trans (z 3)
  clear y z kc kz hL hT e1
  have W4 := Lib.hid (four_set0 w2 N _ _ _ _ (.int .i64 x.lv) (.int .i64 x.st) (.int .u64 x.b) (.int .u64 x.e) y0 y1 y2 y3)
  go_wp2
  obtain ⟨W, eW, v0, v1, v2, v3, kW⟩ := W4.out
  rw [eW]
  have kk : Keep (fun _ => False) w W := by
    have := ((k1.trans (Keep.of_below b2 _)).mono (T := fun j => j = N) (by simp)).trans kW
    exact ⟨this.os, this.tape, this.output, this.size, fun j hj _ => this.block j hj (by omega)⟩
  refine leaves_cons (f := 49) (args := #[]) (by simp) (by simp [go_sem]) ?_
  refine (ask_idle _).mono ?_
  rintro e u' w'' ⟨rfl, rfl, rfl⟩
  simp [Leaves, settle, results, Try.results47, go_sem, v0, v1, v2, v3]
  exact kk.below (Nat.le_refl _) (by simp)
theorem ask_any (h : IsLook fv P L) (hP : P w) (id : Int) (i0 : -9223372036854775808 ≤ id) (i1 : id ≤ 9223372036854775807) : ∃ (x : Tx) (ok : Bool), L id = (if ok = true then some x else none) ∧ Calls Try.prog 47 #[fv, .int .i64 id] w fun e w' => e = .returned (.tuple #[txV x, .bool ok]) ∧ Below w.heap.size w w' := by
  rcases h.form with ⟨rfl, hn⟩ | ⟨k, caps, rfl, hent, hc⟩
  · rw [hn]
    exact ⟨⟨0, 0, 0, 0⟩, false, rfl, ask_nil id w⟩
  · exact ask_func h hP id i0 i1 hent (fun w hP => hc id w i0 i1 hP)
set_option maxHeartbeats 1600000 in
theorem done_any (h : IsLook fv P L) (hP : P w) (id me t : Int) (i0 : -9223372036854775808 ≤ id) (i1 : id ≤ 9223372036854775807) : Calls Try.prog 42 #[.int .i64 id, .int .i64 me, .int .u64 t, fv] w fun e w' => e = .returned (V2 (byI L id me t)) ∧ Below w.heap.size w w' := by
  by_cases hm : id = me
  · subst hm
    rw [show byI L id id t = (1, 0) by unfold byI; rw [if_pos rfl]]
    go_enter Try.func42, Try.ntmps42
    go_wp2
    go_ret2
    exact ⟨rfl, Below.refl _ _⟩
  · have q0 : (id == me) = false := by simpa using hm
    obtain ⟨x, ok, hL, hl⟩ := ask_any h hP id i0 i1
    have e : byI L id me t = match L id with
      | none => (3, 0)
      | some x => byX x id t := by unfold byI; rw [if_neg hm]; cases L id <;> rfl
    rw [e]
    clear e hm
    rw [hL]
    clear hL
    cases ok with
    | false =>
      simp only [Bool.false_eq_true, if_false]
      (go_enter Try.func42, Try.ntmps42); go_wp2_with fail; refine hl.mono ?_; rintro e w1 ⟨rfl, b1⟩; unfold txV; go_wp2; go_ret2; exact ⟨rfl, b1.trans (((Keep.alloc (Keep.refl (fun _ => False) w1) _)).below (b1.size) (by simp))⟩
    | true =>
      simp only [if_true]
      rcases (by omega : x.st = 5 ∨ (x.st = 3 ∧ x.e ≤ t) ∨ (x.st = 3 ∧ t < x.e) ∨ (x.st = 2 ∧ x.e = 0) ∨ (x.st = 2 ∧ x.e ≠ 0 ∧ x.e ≤ t) ∨ (x.st = 2 ∧ x.e ≠ 0 ∧ t < x.e) ∨ (x.st ≠ 5 ∧ x.st ≠ 3 ∧ x.st ≠ 2)) with hs | ⟨hs, he⟩ | ⟨hs, he⟩ | ⟨hs, he⟩ | ⟨hs, he, he2⟩ | ⟨hs, he, he2⟩ | ⟨hs, hs2, hs3⟩
      · rw [show byX x id t = (3, 0) by unfold byX; rw [if_pos hs]]
        (go_enter Try.func42, Try.ntmps42); go_wp2_with fail; refine hl.mono ?_; rintro e w1 ⟨rfl, b1⟩; unfold txV; go_wp2; go_ret2; exact ⟨rfl, b1.trans (((Keep.alloc (Keep.refl (fun _ => False) w1) _)).below (b1.size) (by simp))⟩
      · rw [show byX x id t = (1, 0) by unfold byX; rw [if_neg (by omega), if_pos ⟨hs, he⟩]]
        have hif : (if x.e ≤ t then (1 : Int) else 2) = 1 := if_pos he
        (go_enter Try.func42, Try.ntmps42); go_wp2_with fail; refine hl.mono ?_; rintro e w1 ⟨rfl, b1⟩; unfold txV; go_wp2_with fail; refine (passed_any _ _ _).mono ?_; rw [hif]; rintro e w2 ⟨rfl, rfl⟩; go_wp2; go_ret2; exact ⟨rfl, b1.trans (((Keep.alloc (Keep.refl (fun _ => False) w1) _)).below (b1.size) (by simp))⟩
      · rw [show byX x id t = (2, 0) by unfold byX; rw [if_neg (by omega), if_neg (by omega), if_neg (by omega)]]
        have hif : (if x.e ≤ t then (1 : Int) else 2) = 2 := if_neg (by omega)
        (go_enter Try.func42, Try.ntmps42); go_wp2_with fail; refine hl.mono ?_; rintro e w1 ⟨rfl, b1⟩; unfold txV; go_wp2_with fail; refine (passed_any _ _ _).mono ?_; rw [hif]; rintro e w2 ⟨rfl, rfl⟩; go_wp2; go_ret2; exact ⟨rfl, b1.trans (((Keep.alloc (Keep.refl (fun _ => False) w1) _)).below (b1.size) (by simp))⟩
      · rw [show byX x id t = (2, 0) by unfold byX; rw [if_neg (by omega), if_neg (by omega), if_neg (by omega)]]
        (go_enter Try.func42, Try.ntmps42); go_wp2_with fail; refine hl.mono ?_; rintro e w1 ⟨rfl, b1⟩; unfold txV; go_wp2; go_ret2; exact ⟨rfl, b1.trans (((Keep.alloc (Keep.refl (fun _ => False) w1) _)).below (b1.size) (by simp))⟩
      · rw [show byX x id t = (4, id) by unfold byX; rw [if_neg (by omega), if_neg (by omega), if_pos ⟨hs, he, he2⟩]]
        have d1 : decide (x.e ≤ t) = true := decide_eq_true he2
        have q1 : (x.e != 0) = true := by simpa using he
        (go_enter Try.func42, Try.ntmps42); go_wp2_with fail; refine hl.mono ?_; rintro e w1 ⟨rfl, b1⟩; unfold txV; go_wp2; go_ret2; exact ⟨rfl, b1.trans (((Keep.alloc (Keep.refl (fun _ => False) w1) _)).below (b1.size) (by simp))⟩
      · rw [show byX x id t = (2, 0) by unfold byX; rw [if_neg (by omega), if_neg (by omega), if_neg (by omega)]]
        have d1 : decide (x.e ≤ t) = false := decide_eq_false (by omega)
        have q1 : (x.e != 0) = true := by simpa using he
        (go_enter Try.func42, Try.ntmps42); go_wp2_with fail; refine hl.mono ?_; rintro e w1 ⟨rfl, b1⟩; unfold txV; go_wp2; go_ret2; exact ⟨rfl, b1.trans (((Keep.alloc (Keep.refl (fun _ => False) w1) _)).below (b1.size) (by simp))⟩
      · rw [show byX x id t = (2, 0) by unfold byX; rw [if_neg (by omega), if_neg (by omega), if_neg (by omega)]]
        have q5 : (x.st == 5) = false := by simpa using hs
        have q3 : (x.st == 3) = false := by simpa using hs2
        have q2 : (x.st == 2) = false := by simpa using hs3
        (go_enter Try.func42, Try.ntmps42); go_wp2_with fail; refine hl.mono ?_; rintro e w1 ⟨rfl, b1⟩; unfold txV; go_wp2; go_ret2; exact ⟨rfl, b1.trans (((Keep.alloc (Keep.refl (fun _ => False) w1) _)).below (b1.size) (by simp))⟩
set_option maxHeartbeats 1600000 in
theorem pbegin_any (h : IsLook fv P L) (hP : P w) (a me t : Int) (a0 : 0 ≤ a) (a1 : a ≤ 18446744073709551615) :
    Calls Try.prog 28 #[.int .u64 a, .int .i64 me, .int .u64 t, fv] w fun e w' => e = .returned (V2 (beginI L a me t)) ∧ Below w.heap.size w w' := by
  rcases rd_cases a with ⟨h1, hk, hn⟩ | ⟨h1, hk, hn⟩ | ⟨h1, h1', hk, hn⟩ | ⟨h1, h2, h3, hk, hn⟩
  · have hif : beginI L a me t = ((if a ≤ t then 1 else 2), 0) := by
      unfold beginI
      rw [hk]
      by_cases ht : a ≤ t
      · rw [if_pos ⟨rfl, ht⟩, if_pos ht]
      · rw [if_neg (by omega), if_neg (by decide), if_neg ht]
    have hp := passed_any a t
    obtain ⟨z, ez⟩ : ∃ z : Int, (if a ≤ t then (1 : Int) else 2) = z := ⟨_, rfl⟩
    rw [ez] at hif hp
    rw [hif]
    clear hif ez
    go_enter Try.func28, Try.ntmps28
    go_wp2_with fail; refine (readw_any _ a0 a1 _).mono ?_; rw [hk, hn]; rintro e w1 ⟨rfl, b1⟩; have hP := h.stay (h.stay hP b1) (((Keep.alloc (Keep.refl (fun _ => False) w1) (.cells #[.int .i64 1, .int .u64 a] 89))).below (Nat.le_refl _) (by simp))
    go_wp2_with fail
    refine (hp _).mono ?_
    rintro e w2 ⟨rfl, rfl⟩
    go_wp2
    go_ret2
    exact ⟨rfl, b1.alloc b1.size _⟩
  · subst h1
    rw [show beginI L 2305843009213693952 me t = (2, 0) by unfold beginI; rw [hk, if_neg (by omega), if_neg (by decide)]]
    go_enter Try.func28, Try.ntmps28
    go_wp2_with fail; refine (readw_any _ a0 a1 _).mono ?_; rw [hk, hn]; rintro e w1 ⟨rfl, b1⟩; have hP := h.stay (h.stay hP b1) (((Keep.alloc (Keep.refl (fun _ => False) w1) (.cells #[.int .i64 3, .int .u64 0] 89))).below (Nat.le_refl _) (by simp))
    go_wp2
    go_ret2
    exact ⟨rfl, b1.alloc b1.size _⟩
  · rw [show beginI L a me t = byI L (a - 4611686018427387904) me t by unfold beginI; rw [hk, hn, if_neg (by omega), if_pos rfl]]
    obtain ⟨i, ei⟩ : ∃ i, a - 4611686018427387904 = i := ⟨_, rfl⟩
    rw [ei] at hn ⊢
    have wr : IntKind.i64.wrap i = i := IntWalk.i64_in _ (by omega)
    have i0 : 1 ≤ i := by omega
    have i1 : i ≤ 65535 := by omega
    clear ei h1 h1'
    go_enter Try.func28, Try.ntmps28
    go_wp2_with fail; refine (readw_any _ a0 a1 _).mono ?_; rw [hk, hn]; rintro e w1 ⟨rfl, b1⟩; have hP := h.stay (h.stay hP b1) (((Keep.alloc (Keep.refl (fun _ => False) w1) (.cells #[.int .i64 2, .int .u64 i] 89))).below (Nat.le_refl _) (by simp))
    go_wp2_with fail
    refine (done_any h hP _ me t (by omega) (by omega)).mono ?_
    rintro e w2 ⟨rfl, b2⟩
    unfold V2
    go_wp2
    go_ret2
    exact ⟨rfl, (b1.alloc b1.size _).trans (b2.mono (b1.alloc b1.size _).size)⟩
  · rw [show beginI L a me t = (2, 0) by unfold beginI; rw [hk, if_neg (by omega), if_neg (by decide)]]
    clear h3
    go_enter Try.func28, Try.ntmps28
    go_wp2_with fail; refine (readw_any _ a0 a1 _).mono ?_; rw [hk, hn]; rintro e w1 ⟨rfl, b1⟩; have hP := h.stay (h.stay hP b1) (((Keep.alloc (Keep.refl (fun _ => False) w1) (.cells #[.int .i64 0, .int .u64 0] 89))).below (Nat.le_refl _) (by simp))
    go_wp2
    go_ret2
    exact ⟨rfl, b1.alloc b1.size _⟩
end
end Go.Proofs.Ytbbinfdgmfmaeaa
