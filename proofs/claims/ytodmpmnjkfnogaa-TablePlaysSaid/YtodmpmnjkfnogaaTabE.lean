/- Package table: Get, End; conditions: the Table is one that calls have made of an empty one. -/
import Derived.Test.YtodmpmnjkfnogaaTabT
import Derived.RegionTactic
import Derived.BigQuiet
namespace Go.Proofs.Ytodmpmnjkfnogaa
open Go.ChangeShapes Go.WideShapes Go.ChangeAt Go.RowKit
set_option linter.unusedVariables false

def txV (x : Tx) : Value := .agg #[.int .i64 x.lv, .int .i64 x.st, .int .u64 x.b, .int .u64 x.e]
def TS.get (s : TS) (id : Int) : Value := if s.out id then .tuple #[txV ⟨0, 0, 0, 0⟩, .bool false] else .tuple #[txV (s.tx (id - 1).toNat), .bool true]
section
variable {w w' : World} {p : Nat} {v : Value} {bs : List Nat} {s : TS}
theorem four_set (w : World) (N : Nat) (u0 u1 u2 u3 v0 v1 v2 v3 : Value) (y0 : w.cell? ⟨N, 0, none⟩ = some u0) (y1 : w.cell? ⟨N, 1, none⟩ = some u1) (y2 : w.cell? ⟨N, 2, none⟩ = some u2) (y3 : w.cell? ⟨N, 3, none⟩ = some u3) :
    ∃ W, ((((w.setCell ⟨N, 0, none⟩ v0).setCell ⟨N, 1, none⟩ v1).setCell ⟨N, 2, none⟩ v2).setCell ⟨N, 3, none⟩ v3).drew = W ∧ W.cell? ⟨N, 0, none⟩ = some v0 ∧ W.cell? ⟨N, 1, none⟩ = some v1 ∧ W.cell? ⟨N, 2, none⟩ = some v2 ∧ W.cell? ⟨N, 3, none⟩ = some v3 ∧ Keep (fun j => j = N) w W := by
  refine ⟨_, rfl, ?_, ?_, ?_, ?_, ((((Keep.refl (fun j => j = N) w).setCell (p := ⟨N, 0, none⟩) rfl v0).setCell (p := ⟨N, 1, none⟩) rfl v1).setCell (p := ⟨N, 2, none⟩) rfl v2).setCell (p := ⟨N, 3, none⟩) rfl v3 |>.drew⟩
  · rw [drew_cell, World.cell?_setCell_other _ _ _ _ (by first | (simp; done) | (simp; omega)), World.cell?_setCell_other _ _ _ _ (by first | (simp; done) | (simp; omega)), World.cell?_setCell_other _ _ _ _ (by first | (simp; done) | (simp; omega))]; exact World.cell?_setCell_same _ _ _ y0
  · rw [drew_cell, World.cell?_setCell_other _ _ _ _ (by first | (simp; done) | (simp; omega)), World.cell?_setCell_other _ _ _ _ (by first | (simp; done) | (simp; omega))]; exact World.cell?_setCell_same _ _ _ (by rw [World.cell?_setCell_other _ _ _ _ (by first | (simp; done) | (simp; omega))]; exact y1)
  · rw [drew_cell, World.cell?_setCell_other _ _ _ _ (by first | (simp; done) | (simp; omega))]; exact World.cell?_setCell_same _ _ _ (by rw [World.cell?_setCell_other _ _ _ _ (by first | (simp; done) | (simp; omega)), World.cell?_setCell_other _ _ _ _ (by first | (simp; done) | (simp; omega))]; exact y2)
  · rw [drew_cell]; exact World.cell?_setCell_same _ _ _ (by rw [World.cell?_setCell_other _ _ _ _ (by first | (simp; done) | (simp; omega)), World.cell?_setCell_other _ _ _ _ (by first | (simp; done) | (simp; omega)), World.cell?_setCell_other _ _ _ _ (by first | (simp; done) | (simp; omega))]; exact y3)
set_option maxRecDepth 100000 in
theorem tgetL (h : QT w p v bs s) (ok : TOk s) (id : Int) (i1 : id ≤ 9223372036854775807) :
    Calls Try.prog 12 #[.pointer (some ⟨p, 0, none⟩), .int .i64 id] w (QPost (s.get id) p v bs s s w) := by
  have k1 := Keep.alloc (Keep.refl (fun _ => False) w) (.cells #[.int .i64 0, .int .i64 0, .int .u64 0, .int .u64 0] 32)
  have q1 := h.keep entL k1 (by simp)
  by_cases ho : s.out id
  · have e : s.get id = .tuple #[txV ⟨0, 0, 0, 0⟩, .bool false] := by unfold TS.get; rw [if_pos ho]
    rw [e]
    go_enter Try.func12, Try.ntmps12
    go_wp2_with fail
    refine (qfind_out q1 id ho).mono ?_
    rintro e w1 ⟨rfl, rfl⟩
    go_wp2
    exact bodyPost_ret (v := .tuple #[txV ⟨0, 0, 0, 0⟩, .bool false]) (by simp [results, Try.results12, go_sem, txV]) rfl (QPost.same h rfl k1)
  · obtain ⟨i, rfl, hi, hti⟩ := inside ho
    have e : s.get ((i : Int) + 1) = .tuple #[txV (s.tx i), .bool true] := by unfold TS.get; rw [if_neg ho, hti]
    rw [e]
    have xo := ok.x i hi
    have en := q1.en i hi
    have ha := qfind_in q1 i hi ok.n1
    obtain ⟨b, eb⟩ : ∃ b, bs.getD i 0 = b := ⟨_, rfl⟩
    rw [eb] at en ha
    have s0 := xo.s0
    have s1 := xo.s1
    have e0 := xo.e0
    have e1 := xo.e1
    obtain ⟨x, ex⟩ : ∃ x, s.tx i = x := ⟨_, rfl⟩
    rw [ex] at en s0 s1 e0 e1 ⊢
    have L := loadUint64 ⟨b, 2, none⟩ _ _ en.c2 rfl
    have U := qunpack x.st x.e (by omega) (by omega) e0 e1
    obtain ⟨z, ez⟩ : ∃ z, x.e * 8 + x.st = z := ⟨_, rfl⟩
    rw [ez] at L U
    have c0 := en.c0
    have c1 := en.c1
    clear e eb ez ex s0 s1 e0 e1 xo
    obtain ⟨N, eN⟩ : ∃ N, w.heap.size = N := ⟨_, rfl⟩
    have y : ∀ i, (w.alloc (.cells #[.int .i64 0, .int .i64 0, .int .u64 0, .int .u64 0] 32)).cell? ⟨N, i, none⟩ = #[Value.int .i64 0, .int .i64 0, .int .u64 0, .int .u64 0][i]? := fun i => by rw [← eN]; simp
    have z : ∀ i, (w.alloc (.cells #[.int .i64 0, .int .i64 0, .int .u64 0, .int .u64 0] 32)).frozen? ⟨N, i, none⟩ = false := fun i => by rw [← eN]; simp
    go_enter Try.func12, Try.ntmps12
    go_wp2_with fail
    refine ha.mono ?_
    rintro e w1 ⟨rfl, rfl⟩
    go_wp2_with fail
    refine L.mono ?_
    rintro e w1 ⟨rfl, rfl⟩
    go_wp2_with fail
    refine (U _).mono ?_
    rintro e w1 ⟨rfl, rfl⟩
    go_wp2_with fail
    obtain ⟨w1, e1⟩ : ∃ w1, w.alloc (.cells #[.int .i64 0, .int .i64 0, .int .u64 0, .int .u64 0] 32) = w1 := ⟨_, rfl⟩
    rw [e1] at k1 q1 c0 c1 y z ⊢
    clear ha L en e1
    have y0 := y 0
    have y1 := y 1
    have y2 := y 2
    have y3 := y 3
    simp at y0 y1 y2 y3
    have z0 := z 0
    have z1 := z 1
    have z2 := z 2
    have z3 := z 3
    clear y z
    have W4 := Lib.hid (four_set w1 N _ _ _ _ (.int .i64 x.lv) (.int .i64 x.st) (.int .u64 x.b) (.int .u64 x.e) y0 y1 y2 y3)
    go_still_tail 11, (by kernel_rfl)
    go_wp2
    obtain ⟨W, eW, v0, v1, v2, v3, kW⟩ := W4.out
    rw [eW]
    have kk : Keep (fun _ => False) w W := by
      have := (k1.mono (T := fun j => j = N) (by simp)).trans kW
      exact ⟨this.os, this.tape, this.output, this.size, fun j hj n => this.block j hj (by omega)⟩
    exact bodyPost_ret (v := .tuple #[txV x, .bool true]) (by simp [results, Try.results12, go_sem, txV, v0, v1, v2, v3]) rfl (QPost.same h rfl kk)
theorem stop_in {s : TS} {id x : Int} (ho : ¬ s.out id) (ok : TxOk (s.tx (id - 1).toNat)) (x0 : 0 ≤ x) : s.stop id x =
    if (s.tx (id - 1).toNat).e * 8 + (s.tx (id - 1).toNat).st = 2 then (if (s.tx (id - 1).toNat).b < x ∧ x ≤ 1099511627776 then (0, s.put (id - 1).toNat { s.tx (id - 1).toNat with e := x }) else (1, s)) else (7, s) := by
  have b0 := ok.b0
  have e0 := ok.e0
  have s0 := ok.s0
  have s1 := ok.s1
  unfold TS.stop
  rw [if_neg ho]
  by_cases h : (s.tx (id - 1).toNat).e * 8 + (s.tx (id - 1).toNat).st = 2
  · rw [if_pos h, if_neg (by omega)]
    by_cases h2 : (s.tx (id - 1).toNat).b < x ∧ x ≤ 1099511627776
    · rw [if_pos h2, if_neg (by omega)]
    · rw [if_neg h2, if_pos (by omega)]
  · rw [if_neg h, if_pos (by omega)]
set_option maxRecDepth 100000 in
set_option maxHeartbeats 4000000 in
theorem tstopL (h : QT w p v bs s) (ok : TOk s) (id x : Int) (i1 : id ≤ 9223372036854775807) (x0 : 0 ≤ x) :
    Calls Try.prog 10 #[.pointer (some ⟨p, 0, none⟩), .int .i64 id, .int .u64 x] w (QPost (.int .i64 (s.stop id x).1) p v bs s (s.stop id x).2 w) := by
  by_cases ho : s.out id
  · have e : s.stop id x = (11, s) := by unfold TS.stop; rw [if_pos ho]
    rw [e]
    go_enter Try.func10, Try.ntmps10
    go_wp2_with fail
    refine (qfind_out h id ho).mono ?_
    rintro e w1 ⟨rfl, rfl⟩
    go_wp2
    go_ret
    exact QPost.same h rfl (Keep.refl _ _)
  · obtain ⟨i, rfl, hi, hti⟩ := inside ho
    have xo := ok.x i hi
    have es := stop_in ho (by rw [hti]; exact xo) x0
    rw [hti] at es
    have en := h.en i hi
    have ha := qfind_in h i hi ok.n1
    obtain ⟨b, eb⟩ : ∃ b, bs.getD i 0 = b := ⟨_, rfl⟩
    have EB := Lib.hid eb
    rw [eb] at en ha
    have s0 := xo.s0
    have s1 := xo.s1
    have e0 := xo.e0
    have e1 := xo.e1
    have c1 := en.c1
    have c2 := en.c2
    obtain ⟨z, ez⟩ : ∃ z, (s.tx i).e * 8 + (s.tx i).st = z := ⟨_, rfl⟩
    have EZ := Lib.hid ez
    rw [ez] at c2 es
    obtain ⟨y, ey⟩ : ∃ y, (s.tx i).b = y := ⟨_, rfl⟩
    rw [ey] at c1 es
    have K0 : ∀ w, Calls Try.prog 26 #[.int .i64 2, .int .u64 0] w fun r w' => r = .returned (.int .u64 2) ∧ w = w' := fun w => qpack 2 0 (by omega) (by omega) (by omega) (by omega) w
    by_cases hf : y < x ∧ x ≤ 1099511627776
    · obtain ⟨f1, f2⟩ := hf
      have K := qpack 2 x (by omega) (by omega) x0 f2
      by_cases hz : z = 2
      · subst hz
        rw [if_pos rfl, if_pos ⟨f1, f2⟩] at es
        rw [es]
        have C := casUint64 ⟨b, 2, none⟩ 2 (x * 8 + 2) w.drew c2 (en.fz 2) rfl
        have en2 : EntL (w.drew.setCell ⟨b, 2, none⟩ (.int .u64 (x * 8 + 2))) b { s.tx i with e := x } := by
          have h2 : (s.tx i).st = 2 := by omega
          refine ⟨?_, ?_, ?_, ?_, ?_, fun j => by simpa using en.fz j⟩
          · rw [World.cell?_setCell_other _ _ _ _ (by first | (simp; done) | (simp; omega))]; exact en.c0
          · rw [World.cell?_setCell_other _ _ _ _ (by first | (simp; done) | (simp; omega))]; exact en.c1
          · show _ = some (Value.int .u64 (x * 8 + (s.tx i).st))
            rw [h2]; exact World.cell?_setCell_same _ _ _ c2
          · rw [World.cell?_setCell_other _ _ _ _ (by first | (simp; done) | (simp; omega))]; exact en.c3
          · rw [World.cell?_setCell_other _ _ _ _ (by first | (simp; done) | (simp; omega))]; exact en.c4
        have k2 : Keep (fun j => j = b) w (w.drew.setCell ⟨b, 2, none⟩ (.int .u64 (x * 8 + 2))) := (Keep.refl (fun j => j = b) w).drew.setCell (p := ⟨b, 2, none⟩) rfl _
        clear es eb ez ey EZ
        go_enter Try.func10, Try.ntmps10
        go_wp2_with fail
        refine ha.mono ?_
        rintro e w1 ⟨rfl, rfl⟩
        go_wp2_with fail
        refine (K0 _).mono ?_
        rintro e w1 ⟨rfl, rfl⟩
        go_wp2_with fail
        go_still_tail 8, (by kernel_rfl)
        still_call ((K _).mono (by rintro e w1 ⟨rfl, rfl⟩; exact ⟨rfl, rfl⟩))
        try refine wpStill_nil ?_
        change wpList _ _ _ _ _ w.drew
        go_wp2_with fail
        refine C.mono ?_
        rintro e w1 ⟨rfl, rfl⟩
        go_wp2
        go_ret
        have eb := EB.out
        subst eb
        exact QPost.put h rfl i hi k2 en2
      · rw [if_neg hz] at es
        rw [es]
        have C := casUint64_not ⟨b, 2, none⟩ z 2 (x * 8 + 2) w.drew c2 (en.fz 2) rfl hz
        clear es eb ez ey EZ
        go_enter Try.func10, Try.ntmps10
        go_wp2_with fail
        refine ha.mono ?_
        rintro e w1 ⟨rfl, rfl⟩
        go_wp2_with fail
        refine (K0 _).mono ?_
        rintro e w1 ⟨rfl, rfl⟩
        go_wp2_with fail
        go_still_tail 8, (by kernel_rfl)
        still_call ((K _).mono (by rintro e w1 ⟨rfl, rfl⟩; exact ⟨rfl, rfl⟩))
        try refine wpStill_nil ?_
        change wpList _ _ _ _ _ w.drew
        go_wp2_with fail
        refine C.mono ?_
        rintro e w1 ⟨rfl, rfl⟩
        go_wp2
        go_ret
        exact QPost.same h rfl (Keep.refl (fun _ => False) _).drew
    · have hg : decide (y < x) = false ∨ (decide (y < x) = true ∧ decide (x ≤ 1099511627776) = false) := by
        by_cases h1 : y < x
        · exact .inr ⟨decide_eq_true h1, decide_eq_false (by omega)⟩
        · exact .inl (decide_eq_false h1)
      have L := fun d => loadUint64 ⟨b, 2, none⟩ z (w.drewN d) c2 rfl
      by_cases hz : z = 2
      · subst hz
        rw [if_pos rfl, if_neg hf] at es
        rw [es]
        clear es eb ez ey EZ hf
        rcases hg with f1 | ⟨f1, f2⟩
        all_goals
          go_enter Try.func10, Try.ntmps10
          go_wp2_with fail
          refine ha.mono ?_
          rintro e w1 ⟨rfl, rfl⟩
          go_wp2_with fail
          refine (K0 _).mono ?_
          rintro e w1 ⟨rfl, rfl⟩
          go_wp2_with fail
          go_quiet (fail)
          go_wp2_with fail
          refine (L _).mono ?_
          rintro e w1 ⟨rfl, rfl⟩
          go_wp2
          go_ret
          exact QPost.same h rfl (drewN_keep _ _ _)
      · rw [if_neg hz] at es
        rw [es]
        have qz : (z == 2) = false := by simpa using hz
        clear es eb ez ey EZ hf hz
        rcases hg with f1 | ⟨f1, f2⟩
        all_goals
          go_enter Try.func10, Try.ntmps10
          go_wp2_with fail
          refine ha.mono ?_
          rintro e w1 ⟨rfl, rfl⟩
          go_wp2_with fail
          refine (K0 _).mono ?_
          rintro e w1 ⟨rfl, rfl⟩
          go_wp2_with fail
          go_quiet (fail)
          go_wp2_with fail
          refine (L _).mono ?_
          rintro e w1 ⟨rfl, rfl⟩
          go_wp2
          go_ret
          exact QPost.same h rfl (drewN_keep _ _ _)
end
end Go.Proofs.Ytodmpmnjkfnogaa
