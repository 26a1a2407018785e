/- Package bond, sets in memory: has, add, drop, join, without, empty, places; condition: places below 2048. -/
import Derived.Test.YtjobphjpfknfeaaDoorBsI
import Derived.Test.YtjobphjpfknfeaaDoorPushN
import Derived.Deep.WholeRow
import Derived.Laws.Bits64b
import Derived.RegionTactic
import Derived.Deep.QuietTactic
import Derived.Deep.RegionHeld3
import Derived.RegionCalls
import Derived.StillTailTactics
import Derived.BigQuiet
import Derived.DeepKeys
namespace Go.Proofs.YtjobphjpfknfeaaDoor
open Go.ChangeShapes Go.WideShapes Go.ChangeAt Go.RowKit
set_option linter.unusedVariables false
open Classical

/-- The 32 words at offset o of block b are the set P. -/
structure SetAt (w : World) (b o : Nat) (P : Nat → Prop) : Prop where
  cell : ∀ i, i < 32 → w.cell? ⟨b, o + i, none⟩ = some (.int .u64 (wd P i))
  fz : ∀ i, w.frozen? ⟨b, i, none⟩ = false
/-- Only the 32 cells at offset o of block b have turned. -/
structure Sub (b o : Nat) (w w' : World) : Prop where
  keep : Keep (fun j => j = b) w w'
  cell : ∀ i, i < o ∨ o + 32 ≤ i → w'.cell? ⟨b, i, none⟩ = w.cell? ⟨b, i, none⟩
  fz : ∀ i, w'.frozen? ⟨b, i, none⟩ = w.frozen? ⟨b, i, none⟩
section
variable {w w' w2 : World} {b o c q : Nat} {P R : Nat → Prop} {T : Nat → Prop}
theorem SetAt.lt (h : SetAt w b o P) : b < w.heap.size := lt_of_cell (h.cell 0 (by decide))
theorem SetAt.keep (h : SetAt w b o P) (k : Keep T w w') (hn : ¬ T b) : SetAt w' b o P :=
  ⟨fun i hi => k.cell (h.cell i hi) hn, fun i => (k.frozen (a := ⟨b, i, none⟩) h.lt hn).trans (h.fz i)⟩
theorem SetAt.congr (h : SetAt w b o P) (e : ∀ p, p < 2048 → (P p ↔ R p)) : SetAt w b o R :=
  ⟨fun i hi => by rw [h.cell i hi, wd_congr (P := P) (R := R) fun j hj => e _ (by omega)], h.fz⟩
theorem SetAt.apart (h : SetAt w b q P) (k : Sub b o w w') (hn : q + 32 ≤ o ∨ o + 32 ≤ q) : SetAt w' b q P :=
  ⟨fun i hi => by rw [k.cell _ (by omega)]; exact h.cell i hi, fun i => (k.fz i).trans (h.fz i)⟩
theorem Sub.refl (b o : Nat) (w : World) : Sub b o w w := ⟨Keep.refl _ w, fun _ _ => rfl, fun _ => rfl⟩
theorem Sub.trans (h : Sub b o w w') (k : Sub b o w' w2) : Sub b o w w2 := ⟨h.keep.trans k.keep, fun i hi => (k.cell i hi).trans (h.cell i hi), fun i => (k.fz i).trans (h.fz i)⟩
theorem Sub.drewN (b o : Nat) (w : World) (d : Nat) : Sub b o w (w.drewN d) := ⟨drewN_keep _ w d, fun _ _ => rfl, fun _ => rfl⟩
theorem Sub.set (h : Sub b o w w') {i : Nat} (h1 : o ≤ i) (h2 : i < o + 32) (v : Value) : Sub b o w (w'.setCell ⟨b, i, none⟩ v) :=
  h.trans ⟨keep_one w' ⟨b, i, none⟩ v, fun j hj => World.cell?_setCell_other _ _ _ _ (by intro e; have := congrArg Addr.off e; simp at this; omega), fun j => World.frozen?_setCell ..⟩
/-- One word is stored. -/
theorem SetAt.put (h : SetAt w b o P) (i : Nat) (hi : i < 32) (hR : ∀ k, k < 32 → k ≠ i → wd R k = wd P k) : SetAt (w.setCell ⟨b, o + i, none⟩ (.int .u64 (wd R i))) b o R :=
  ⟨fun k hk => by
    by_cases e : k = i
    · subst e; exact World.cell?_setCell_same _ _ _ (h.cell k hk)
    · rw [World.cell?_setCell_other _ _ _ _ (by intro q; have := congrArg Addr.off q; simp at this; omega), h.cell k hk, hR k hk e], fun k => (World.frozen?_setCell ..).trans (h.fz k)⟩
/-- Where the place's bit is. -/
theorem at_place (p : Nat) (hp : p < 2048) : ∃ i j : Nat, p / 64 = i ∧ p % 64 = j ∧ i < 32 ∧ j < 64 ∧ p = 64 * i + j ∧ (p : Int) / 64 = (i : Int) ∧ (p : Int) % 64 = (j : Int) := ⟨p / 64, p % 64, rfl, rfl, by omega, by omega, by omega, by omega, by omega⟩
theorem has_any (h : SetAt w b o P) (p : Nat) (hp : p < 2048) : Calls Tryd.prog 39 #[.pointer (some ⟨b, o, none⟩), .int .i64 p] w fun e w' => e = .returned (.bool (decide (P p))) ∧ w = w' := by
  obtain ⟨i, j, e1, e2, hi, hj, ep, e3, e4⟩ := at_place p hp
  have c := h.cell i hi
  have A1 := wd_le P i
  have bit := bit_at (wd P i) j A1
  obtain ⟨r, er⟩ : ∃ r, decide (P p) = r := ⟨_, rfl⟩
  have eb : (wd P i).testBit j = r := by
    rw [← er, wd_bit, ← ep]
    simp [hj]
  rw [er]
  rw [eb] at bit
  obtain ⟨x, ex⟩ : ∃ x, wd P i = x := ⟨_, rfl⟩
  rw [ex] at c A1 bit
  clear er eb ex h ep
  go_enter Tryd.func39, Tryd.ntmps39
  cases r
  all_goals
    go_wp2
    go_ret
    exact ⟨rfl, rfl⟩
set_option maxRecDepth 100000 in
theorem add_any (h : SetAt w b o P) (p : Nat) (hp : p < 2048) : Calls Tryd.prog 40 #[.pointer (some ⟨b, o, none⟩), .int .i64 p] w fun e w' => e = .returned (.tuple #[]) ∧ Sub b o w w' ∧ SetAt w' b o (fun x => P x ∨ x = p) := by
  obtain ⟨i, j, e1, e2, hi, hj, ep, e3, e4⟩ := at_place p hp
  have c : w.drew.cell? ⟨b, o + i, none⟩ = _ := h.cell i hi
  have f : w.drew.frozen? ⟨b, o + i, none⟩ = false := h.fz _
  have h2 : SetAt w.drew b o P := ⟨h.cell, h.fz⟩
  have new := h2.put (R := fun x => P x ∨ x = p) i hi (fun k hk hne => by rw [ep]; exact wd_far (fun q => hne q.symm) hj)
  have A1 := wd_le P i
  have pj : 2 ^ j ≤ 18446744073709551615 := by
    have : 2 ^ j ≤ 2 ^ 63 := Nat.pow_le_pow_right (by decide) (by omega)
    omega
  have eo := wd_add (P := P) (i := i) hj
  rw [← ep] at eo
  have s0 : (2 : Int) ^ j = ((2 ^ j : Nat) : Int) := by simp
  have s1 : IntKind.u64.wrap ((2 ^ j : Nat) : Int) = ((2 ^ j : Nat) : Int) := by rw [IntKind.wrap_u64]; generalize 2 ^ j = z at pj ⊢; omega
  have o1 : bits .or .u64 ((wd P i : Nat) : Int) ((2 ^ j : Nat) : Int) = ((wd (fun x => P x ∨ x = p) i : Nat) : Int) := by rw [u64_or_nat _ _ (by omega) (by omega), eo]
  have S := (Sub.refl b o w.drew).set (i := o + i) (by omega) (by omega) (.int .u64 (wd (fun x => P x ∨ x = p) i))
  have S2 := (Sub.drewN b o w 1).trans S
  obtain ⟨x, ex⟩ : ∃ x, wd P i = x := ⟨_, rfl⟩
  obtain ⟨y, ey⟩ : ∃ y, wd (fun x => P x ∨ x = p) i = y := ⟨_, rfl⟩
  obtain ⟨z, ez⟩ : ∃ z, 2 ^ j = z := ⟨_, rfl⟩
  rw [ex] at c A1 o1
  rw [ey] at o1 new S2
  rw [ez] at s1 o1 pj s0
  have e5 : (p : Int).tmod 64 = (j : Int) := by rw [Int.tmod_eq_emod_of_nonneg (by omega)]; exact e4
  have i1 : (i : Int) < 32 := by omega
  have i0 : 0 ≤ (i : Int) := by omega
  have wi : IntKind.i64.wrap (i : Int) = i := IntWalk.i64_in _ (by omega)
  have wj : IntKind.i64.wrap (j : Int) = j := IntWalk.i64_in _ (by omega)
  have NEW := Lib.hid new
  have SS := Lib.hid S2
  clear ex ey ez h ep h2 new S S2 eo
  go_enter Tryd.func40, Tryd.ntmps40
  go_wp2_with fail
  go_still_tail 12, (by kernel_rfl)
  change wpList _ _ _ _ _ w.drew
  go_wp2
  go_end0
  exact ⟨rfl, SS.out, NEW.out⟩
set_option maxRecDepth 100000 in
theorem drop_any (h : SetAt w b o P) (p : Nat) (hp : p < 2048) : Calls Tryd.prog 44 #[.pointer (some ⟨b, o, none⟩), .int .i64 p] w fun e w' => e = .returned (.tuple #[]) ∧ Sub b o w w' ∧ SetAt w' b o (fun x => P x ∧ x ≠ p) := by
  obtain ⟨i, j, e1, e2, hi, hj, ep, e3, e4⟩ := at_place p hp
  have c : w.drew.cell? ⟨b, o + i, none⟩ = _ := h.cell i hi
  have f : w.drew.frozen? ⟨b, o + i, none⟩ = false := h.fz _
  have h2 : SetAt w.drew b o P := ⟨h.cell, h.fz⟩
  have new := h2.put (R := fun x => P x ∧ x ≠ p) i hi (fun k hk hne => by rw [ep]; exact wd_far2 (fun q => hne q.symm) hj)
  have A1 := wd_le P i
  have pj : 2 ^ j ≤ 18446744073709551615 := by
    have : 2 ^ j ≤ 2 ^ 63 := Nat.pow_le_pow_right (by decide) (by omega)
    omega
  have eo := wd_drop (P := P) (i := i) hj
  rw [← ep] at eo
  have s0 : (2 : Int) ^ j = ((2 ^ j : Nat) : Int) := by simp
  have s1 : IntKind.u64.wrap ((2 ^ j : Nat) : Int) = ((2 ^ j : Nat) : Int) := by rw [IntKind.wrap_u64]; generalize 2 ^ j = z at pj ⊢; omega
  have o1 : bits .andNot .u64 ((wd P i : Nat) : Int) ((2 ^ j : Nat) : Int) = ((wd (fun x => P x ∧ x ≠ p) i : Nat) : Int) := by rw [u64_lessN _ _ (by omega) (by omega), eo]
  have S := (Sub.refl b o w.drew).set (i := o + i) (by omega) (by omega) (.int .u64 (wd (fun x => P x ∧ x ≠ p) i))
  have S2 := (Sub.drewN b o w 1).trans S
  obtain ⟨x, ex⟩ : ∃ x, wd P i = x := ⟨_, rfl⟩
  obtain ⟨y, ey⟩ : ∃ y, wd (fun x => P x ∧ x ≠ p) i = y := ⟨_, rfl⟩
  obtain ⟨z, ez⟩ : ∃ z, 2 ^ j = z := ⟨_, rfl⟩
  rw [ex] at c A1 o1
  rw [ey] at o1 new S2
  rw [ez] at s1 o1 pj s0
  have e5 : (p : Int).tmod 64 = (j : Int) := by rw [Int.tmod_eq_emod_of_nonneg (by omega)]; exact e4
  have i1 : (i : Int) < 32 := by omega
  have i0 : 0 ≤ (i : Int) := by omega
  have wi : IntKind.i64.wrap (i : Int) = i := IntWalk.i64_in _ (by omega)
  have wj : IntKind.i64.wrap (j : Int) = j := IntWalk.i64_in _ (by omega)
  have NEW := Lib.hid new
  have SS := Lib.hid S2
  clear ex ey ez h ep h2 new S S2 eo
  go_enter Tryd.func44, Tryd.ntmps44
  go_wp2_with fail
  go_still_tail 12, (by kernel_rfl)
  change wpList _ _ _ _ _ w.drew
  go_wp2
  go_end0
  exact ⟨rfl, SS.out, NEW.out⟩
/-- The first words are joined. -/
theorem join_step {k : Nat} (hk : k < 32) : wd (fun p => P p ∨ R p ∧ p < 64 * (k + 1)) k = wd P k ||| wd R k ∧ wd (fun p => P p ∨ R p ∧ p < 64 * k) k = wd P k ∧ ∀ i, i ≠ k → wd (fun p => P p ∨ R p ∧ p < 64 * (k + 1)) i = wd (fun p => P p ∨ R p ∧ p < 64 * k) i := by
  refine ⟨?_, wd_congr fun j hj => ?_, fun i hi => wd_congr fun j hj => ?_⟩
  · rw [wd_or]
    refine wd_congr fun j hj => ?_
    have : 64 * k + j < 64 * (k + 1) := by omega
    simp [this]
  · have : ¬ 64 * k + j < 64 * k := by omega
    simp [this]
  · have : 64 * i + j < 64 * (k + 1) ↔ 64 * i + j < 64 * k := by omega
    simp [this]
def JR (w : World) (b o : Nat) (P R : Nat → Prop) (q : Value) (wr : World) : Prop := ∃ k : Nat, k ≤ 32 ∧ q = .int .i64 k ∧ Sub b o w wr ∧ SetAt wr b o (fun p => P p ∨ R p ∧ p < 64 * k)
set_option maxRecDepth 100000 in
theorem join_any (h : SetAt w b o P) (g : SetAt w c q R) (hne : c ≠ b) : Calls Tryd.prog 49 #[.pointer (some ⟨b, o, none⟩), .pointer (some ⟨c, q, none⟩)] w fun e w' => e = .returned (.tuple #[]) ∧ Sub b o w w' ∧ SetAt w' b o (fun p => P p ∨ R p) := by
  go_enter Tryd.func49, Tryd.ntmps49
  go_wp2
  go_loopw [4, 5, 7] (fun _ _ q wr => JR w b o P R q wr) (fun _ _ q _ => 32 - (intOf q).toNat)
  case atStart => exact ⟨0, Nat.zero_le _, rfl, Sub.refl _ _ _, h.congr fun p _ => by simp⟩
  case round =>
    obtain ⟨k, hk, rfl, S, h1⟩ := hrel
    by_cases hlt : k < 32
    · obtain ⟨j1, j2, j3⟩ := join_step (P := P) (R := R) hlt
      have A1 := wd_le P k
      have A2 := wd_le R k
      have F : ∀ d, (wr.drewN d).drew.cell? ⟨c, q + k, none⟩ = some (.int .u64 (wd R k)) ∧ (wr.drewN d).drew.cell? ⟨b, o + k, none⟩ = some (.int .u64 (wd P k)) ∧ (wr.drewN d).drew.frozen? ⟨b, o + k, none⟩ = false ∧ Sub b o w ((wr.drewN d).drew.setCell ⟨b, o + k, none⟩ (.int .u64 (wd P k ||| wd R k : Nat))) ∧ SetAt ((wr.drewN d).drew.setCell ⟨b, o + k, none⟩ (.int .u64 (wd P k ||| wd R k : Nat))) b o (fun p => P p ∨ R p ∧ p < 64 * (k + 1)) := fun d => by
        have kd : Keep (fun _ => False) wr (wr.drewN d).drew := (drewN_keep _ wr d).drew
        have new := (h1.keep kd (by simp)).put (R := fun p => P p ∨ R p ∧ p < 64 * (k + 1)) k hlt (fun i _ hi => j3 i hi)
        rw [j1] at new
        refine ⟨kd.cell ((g.keep S.keep hne).cell k hlt) (by simp), ?_, h1.fz _, ((S.trans (Sub.drewN b o _ d)).trans (Sub.drewN b o _ 1)).set (by omega) (by omega) _, new⟩
        have c2 := h1.cell k hlt
        rw [j2] at c2
        exact c2
      have o1 : bits .or .u64 ((wd P k : Nat) : Int) ((wd R k : Nat) : Int) = ((wd P k ||| wd R k : Nat) : Int) := by rw [u64_or_nat _ _ (by omega) (by omega)]
      have c0 : wr.cell? ⟨c, q + k, none⟩ = some (.int .u64 (wd R k)) := (g.keep S.keep hne).cell k hlt
      obtain ⟨x, ex⟩ : ∃ x, wd P k = x := ⟨_, rfl⟩
      obtain ⟨y, ey⟩ : ∃ y, wd R k = y := ⟨_, rfl⟩
      rw [ex] at A1 o1
      rw [ey] at A2 o1 c0
      simp only [ex, ey] at F
      obtain ⟨z, ez⟩ : ∃ z, x ||| y = z := ⟨_, rfl⟩
      simp only [ez] at F o1
      have wi : IntKind.i64.wrap (k : Int) = k := IntWalk.i64_in _ (by omega)
      have i1 : (k : Int) < 32 := by omega
      have i0 : 0 ≤ (k : Int) := by omega
      have F := Lib.hid F
      clear ex ey ez h g S h1 j1 j2 j3
      go_wp2_with fail
      go_quiet (fail)
      obtain ⟨c1, c2, f2, SS, NEW⟩ := F.out nq
      have SS := Lib.hid SS
      have NEW := Lib.hid NEW
      obtain ⟨wa, ea⟩ : ∃ wa, wr.drewN nq = wa := ⟨_, rfl⟩
      rw [ea] at c1 c2 f2 SS NEW ⊢
      clear F c0 ea
      go_wp2_with fail
      go_still_tail 9, (by kernel_rfl)
      change wpList _ _ _ _ _ wa.drew
      go_wp2
      go_roundw
      case rel => exact ⟨k + 1, by omega, by go_num, SS.out, NEW.out⟩
      case measure => simp [intOf]; omega
    · obtain rfl : k = 32 := by omega
      go_wp2
      go_end0
      exact ⟨rfl, S, h1.congr fun p hp => by simp [show p < 64 * 32 by omega]⟩
/-- The words as one value. -/
noncomputable def setArr (P : Nat → Prop) : Array Value := ((List.range 32).map fun i => Value.int .u64 (wd P i)).toArray
theorem setArr_size (P : Nat → Prop) : (setArr P).size = 32 := by simp [setArr]
theorem setArr_one (P : Nat → Prop) : (setArr P).all (·.oneCell') = true := by simp [setArr, Value.oneCell']
theorem add_none (b o j : Nat) : (⟨b, o, none⟩ : Addr).add j = ⟨b, o + j, none⟩ := by
  unfold Addr.add
  by_cases h : j = 0
  · subst h; rfl
  · rw [if_neg h]
theorem load_set (h : SetAt w b o P) : (loadCellsFrom ⟨b, o, none⟩ 0 32 #[]).run Tryd.prog w = .ok (setArr P) w :=
  run_loadCells (P := Tryd.prog) w ⟨b, o, none⟩ 32 (fun i => .int .u64 (wd P i)) fun j hj => by rw [add_none]; exact h.cell j hj
/-- A block that holds a set's words. -/
theorem set_row {fr : Nat × Nat} {t : TypeId} (hb : w.heap[b]? = some (.cells (setArr P) t fr)) (hf : ∀ i, w.frozen? ⟨b, i, none⟩ = false) : SetAt w b 0 P :=
  ⟨fun i hi => by rw [cell_of_row w b _ _ t fr hb]; simp [setArr, hi], hf⟩
def SetB (w : World) (b : Nat) (P : Nat → Prop) : Prop := w.heap[b]? = some (.cells (setArr P) 71 (0, 0))
theorem SetB.at (h : SetB w b P) : SetAt w b 0 P := set_row h fun i => frozen_of_row w b i _ _ h
theorem set_size : (Tryd.prog.info? 71).map (·.size) = some 32 := by kernel_rfl
theorem set_agg : (isAgg 71).run Tryd.prog w = .ok true w := by kernel_rfl
theorem run_load_set (h : SetAt w b o P) : (loadVar 71 ⟨b, o, none⟩).run Tryd.prog w = .ok (.agg (setArr P)) w := by
  have hl := run_loadCells (P := Tryd.prog) w ⟨b, o, none⟩ 32 (fun i => .int .u64 (wd P i)) fun j hj => by rw [add_none]; exact h.cell j hj
  have hq := set_size
  cases hi : Tryd.prog.info? 71 with
  | none => simp [hi] at hq
  | some i =>
    have hs : i.size = 32 := by simpa [hi] using hq
    simp [loadVar, Sem.run_bind, sizeOf, typeInfo, hi, hs, hl, setArr]
theorem wp_load_set {oo : Oper} {a : Act} {K : Act → World → Prop} {Q : Exit → Act → World → Prop} (x : Operand) (ho : oo.op = .load 71 x) (hx : a.eval x = .pointer (some ⟨b, o, none⟩)) (h : SetAt w b o P) (hK : K (a.put oo.dst (.agg (setArr P))) w) : oo.wp Tryd.prog a w K Q := by
  unfold Oper.wp execOp
  simp only [ho, hx, Instr.loadAt, Instr.sureAddr, Sem.run_bind, Sem.run_pure, Result.andThen_ok, run_load_set h]
  exact hK
theorem wpList_load_set {ops : Array Oper} {rest : List Oper} {oo : Oper} {a : Act} {Q : Exit → Act → World → Prop} (hgd : oo.guard = none) (x : Operand) (ho : oo.op = .load 71 x) (hx : a.eval x = .pointer (some ⟨b, o, none⟩)) (h : SetAt w b o P)
    (hK : wpList Tryd.prog ops Q rest (a.put oo.dst (.agg (setArr P))) w) : wpList Tryd.prog ops Q (oo :: rest) a w := wpList_plain hgd fun _ hK' => wp_load_set x ho hx h (hK' _ _ hK)
theorem step_load_set {ops : Array Oper} {oo : Oper} {a : Act} {K : Act → World → Prop} {Q : Exit → Act → World → Prop} {E : Prop} (hgd : oo.guard = none) (x : Operand) (ho : oo.op = .load 71 x) (hx : a.eval x = .pointer (some ⟨b, o, none⟩)) (h : SetAt w b o P) (hK : K (a.put oo.dst (.agg (setArr P))) w) :
    if Region.wanted oo (yielded ops a.tmps) = true then Oper.wp Tryd.prog oo a w K Q else E := by
  rw [if_pos (by simp [Region.wanted, hgd])]
  exact wp_load_set x ho hx h hK
/-- What a store of a set's words into a block that is there leaves. -/
def StoB (w : World) (g : Nat) (P : Nat → Prop) (w' : World) : Prop := SetB w' g P ∧ Keep (fun j => j = g) w w'
theorem sto_row {g : Nat} {cur : Array Value} (hg : w.heap[g]? = some (.cells cur 71 (0, 0))) : StoB w g P (w.setRow g (setArr P)) :=
  ⟨setRow_heap w g cur _ _ _ hg, ⟨rfl, rfl, rfl, by simp, fun k _ hk => setRow_other w g k _ hk⟩⟩
theorem wp_store_set {oo : Oper} {a : Act} {K : Act → World → Prop} {Q : Exit → Act → World → Prop} {g : Nat} {cur : Array Value} (x y : Operand) (ho : oo.op = .store 71 x y) (hd : oo.dst = none) (hx : a.eval x = .pointer (some ⟨g, 0, none⟩)) (hy : a.eval y = .agg (setArr P))
    (hg : w.heap[g]? = some (.cells cur 71 (0, 0))) (hc : cur.size = 32) (hK : ∀ w', StoB w g P w' → K a w') : oo.wp Tryd.prog a w K Q :=
  wp_store_row 71 x y ho g (setArr P) hx hy _ cur hg (by rw [setArr_size]; exact set_size) (by rw [setArr_size, hc]) (setArr_one P) (by rw [hd]; exact hK _ (sto_row hg))
theorem wpList_store_set {ops : Array Oper} {rest : List Oper} {oo : Oper} {a : Act} {Q : Exit → Act → World → Prop} {g : Nat} {cur : Array Value} (hgd : oo.guard = none) (x y : Operand) (ho : oo.op = .store 71 x y) (hd : oo.dst = none) (hx : a.eval x = .pointer (some ⟨g, 0, none⟩)) (hy : a.eval y = .agg (setArr P))
    (hg : w.heap[g]? = some (.cells cur 71 (0, 0))) (hc : cur.size = 32) (hK : ∀ w', StoB w g P w' → wpList Tryd.prog ops Q rest a w') : wpList Tryd.prog ops Q (oo :: rest) a w :=
  wpList_plain hgd fun _ hK' => wp_store_set x y ho hd hx hy hg hc fun w' h => hK' _ _ (hK w' h)
theorem step_store_set {ops : Array Oper} {oo : Oper} {a : Act} {K : Act → World → Prop} {Q : Exit → Act → World → Prop} {E : Prop} {g : Nat} {cur : Array Value} (hgd : oo.guard = none) (x y : Operand) (ho : oo.op = .store 71 x y) (hd : oo.dst = none) (hx : a.eval x = .pointer (some ⟨g, 0, none⟩)) (hy : a.eval y = .agg (setArr P))
    (hg : w.heap[g]? = some (.cells cur 71 (0, 0))) (hc : cur.size = 32) (hK : ∀ w', StoB w g P w' → K a w') : if Region.wanted oo (yielded ops a.tmps) = true then Oper.wp Tryd.prog oo a w K Q else E := by
  rw [if_pos (by simp [Region.wanted, hgd])]
  exact wp_store_set x y ho hd hx hy hg hc hK
def WR (w : World) (b : Nat) (P R : Nat → Prop) (q : Value) (wr : World) : Prop := ∃ k : Nat, k ≤ 32 ∧ q = .int .i64 k ∧ Keep (fun j => j = b) w wr ∧ SetAt wr b 0 (fun p => P p ∧ ¬ (R p ∧ p < 64 * k))
theorem less_step {k : Nat} (hk : k < 32) : wd (fun p => P p ∧ ¬ (R p ∧ p < 64 * (k + 1))) k = wd P k &&& (18446744073709551615 - wd R k) ∧ wd (fun p => P p ∧ ¬ (R p ∧ p < 64 * k)) k = wd P k ∧ ∀ i, i ≠ k → wd (fun p => P p ∧ ¬ (R p ∧ p < 64 * (k + 1))) i = wd (fun p => P p ∧ ¬ (R p ∧ p < 64 * k)) i := by
  refine ⟨?_, wd_congr fun j hj => ?_, fun i hi => wd_congr fun j hj => ?_⟩
  · rw [wd_less]
    refine wd_congr fun j hj => ?_
    have : 64 * k + j < 64 * (k + 1) := by omega
    simp only [this, and_true]
  · have : ¬ 64 * k + j < 64 * k := by omega
    simp only [this, and_false, not_false_eq_true, and_true]
  · have : 64 * i + j < 64 * (k + 1) ↔ 64 * i + j < 64 * k := by omega
    simp only [this]
set_option maxRecDepth 100000 in
theorem without_any (h : SetAt w b o P) (g : SetAt w c q R) : Calls Tryd.prog 48 #[.pointer (some ⟨b, o, none⟩), .pointer (some ⟨c, q, none⟩)] w fun e w' => e = .returned (.agg (setArr fun p => P p ∧ ¬ R p)) ∧ Below w.heap.size w w' := by
  have lb := h.lt
  have lc := g.lt
  go_enter Tryd.func48, Tryd.ntmps48
  go_wp2_with (first | refine wpList_load_set rfl (.tmp 9) rfl rfl (SetAt.keep (T := fun _ => False) h ((Keep.refl _ w).alloc _) id) ?_ | (refine wpList_store_set rfl (.tmp 5) (.tmp 10) rfl rfl rfl rfl (heap_alloc2_new w _ _) rfl ?_))
  intro w1 s1
  have kw : Below w.heap.size w w1 ∧ (∃ cur, cur.size = 32 ∧ w1.heap[w.heap.size]? = some (.cells cur 71 (0, 0))) := by
    refine ⟨(Keep.trans (Keep.alloc (Keep.alloc (Keep.refl _ w) _) _) s1.2).below (B := w.heap.size) (Nat.le_refl _) (fun k hk => by omega), _, ?_, (s1.2.block _ (by simp; omega) (by omega)).trans (heap_alloc2_old w _ _)⟩
    rfl
  have h1 := s1.1.at
  have g1 := g.keep (w' := w1) (T := fun j => w.heap.size ≤ j) ⟨kw.1.os, kw.1.tape, kw.1.output, kw.1.size, fun j hj _ => kw.1.block j (by omega)⟩ (by omega)
  obtain ⟨bw, cur, hc, hb⟩ := kw
  clear s1 h g
  obtain ⟨m, em⟩ : ∃ m, w.heap.size = m := ⟨_, rfl⟩
  have EM := Lib.hid em
  rw [em] at bw hb h1 lb lc ⊢
  clear em
  go_wp2
  go_loopw [6, 7, 12] (fun _ _ i wr => WR w1 (m + 1) P R i wr) (fun _ _ i _ => 32 - (intOf i).toNat)
  case atStart => exact ⟨0, Nat.zero_le _, rfl, Keep.refl _ _, h1.congr fun p _ => by simp⟩
  case round =>
    obtain ⟨k, hk, rfl, S, h2⟩ := hrel
    by_cases hlt : k < 32
    · obtain ⟨j1, j2, j3⟩ := less_step (P := P) (R := R) hlt
      have A1 := wd_le P k
      have A2 := wd_le R k
      have o1 : bits .andNot .u64 ((wd P k : Nat) : Int) ((wd R k : Nat) : Int) = ((wd P k &&& (18446744073709551615 - wd R k) : Nat) : Int) := u64_lessN _ _ A1 A2
      have c0 : wr.cell? ⟨c, q + k, none⟩ = some (.int .u64 (wd R k)) := (g1.keep S (by omega)).cell k hlt
      have F : ∀ d, (wr.drewN d).cell? ⟨m + 1, k, none⟩ = some (.int .u64 (wd P k)) ∧ (wr.drewN d).frozen? ⟨m + 1, k, none⟩ = false ∧ Keep (fun j => j = m + 1) w1 ((wr.drewN d).setCell ⟨m + 1, k, none⟩ (.int .u64 (wd P k &&& (18446744073709551615 - wd R k) : Nat))) ∧ SetAt ((wr.drewN d).setCell ⟨m + 1, k, none⟩ (.int .u64 (wd P k &&& (18446744073709551615 - wd R k) : Nat))) (m + 1) 0 (fun p => P p ∧ ¬ (R p ∧ p < 64 * (k + 1))) := fun d => by
        have kd : Keep (fun _ => False) wr (wr.drewN d) := drewN_keep _ wr d
        have new := (h2.keep kd (by simp)).put (R := fun p => P p ∧ ¬ (R p ∧ p < 64 * (k + 1))) k hlt (fun i _ hi => j3 i hi)
        rw [j1, Nat.zero_add] at new
        have c2 := h2.cell k hlt
        rw [j2, Nat.zero_add] at c2
        exact ⟨c2, h2.fz _, Keep.setCell (S := fun j => j = m + 1) (S.trans (kd.mono (by simp))) rfl _, new⟩
      obtain ⟨x, ex⟩ : ∃ x, wd P k = x := ⟨_, rfl⟩
      obtain ⟨y, ey⟩ : ∃ y, wd R k = y := ⟨_, rfl⟩
      rw [ex] at A1 o1
      rw [ey] at A2 o1 c0
      simp only [ex, ey] at F
      obtain ⟨z, ez⟩ : ∃ z, x &&& (18446744073709551615 - y) = z := ⟨_, rfl⟩
      simp only [ez] at F o1
      have wi : IntKind.i64.wrap (k : Int) = k := IntWalk.i64_in _ (by omega)
      have i1 : (k : Int) < 32 := by omega
      have i0 : 0 ≤ (k : Int) := by omega
      have F := Lib.hid F
      clear ex ey ez g1 S h1 h2 j1 j2 j3 hb bw
      go_wp2_with fail
      go_quiet (fail)
      obtain ⟨c2, f2, SS, NEW⟩ := F.out nq
      have SS := Lib.hid SS
      have NEW := Lib.hid NEW
      obtain ⟨wa, ea⟩ : ∃ wa, wr.drewN nq = wa := ⟨_, rfl⟩
      rw [ea] at c2 f2 SS NEW ⊢
      clear F c0 ea
      go_wp2
      go_roundw
      case rel => exact ⟨k + 1, by omega, by go_num, SS.out, NEW.out⟩
      case measure => simp [intOf]; omega
    · obtain rfl : k = 32 := by omega
      have h3 : SetAt wr (m + 1) 0 (fun p => P p ∧ ¬ R p) := h2.congr fun p hp => by simp [show p < 64 * 32 by omega]
      have hb2 : wr.heap[m]? = some (.cells cur 71 (0, 0)) := (S.block m (Array.getElem?_eq_some_iff.1 hb).1 (by omega)).trans hb
      clear h1 h2 hb
      have b2 : Below m w wr := bw.trans (S.below (by have := Array.getElem?_eq_some_iff.1 hb2; have := bw.size; rw [EM.out] at this; exact this) (fun k hk => by omega))
      clear bw S g1
      have B2 := Lib.hid b2
      clear b2
      go_wp2_with (first | refine wpList_load_set rfl (.tmp 5) rfl rfl h3 ?_ | (refine wpList_store_set rfl (.tmp 4) (.tmp 25) rfl rfl rfl rfl hb2 hc ?_))
      rintro w3 ⟨s3, k3⟩
      have b3 : Below m w w3 := B2.out.trans (k3.below (by have := (Array.getElem?_eq_some_iff.1 hb2).1; omega) (fun k hk => by omega))
      go_wp2
      refine bodyPost_ret (v := .agg (setArr fun p => P p ∧ ¬ R p)) ?_ rfl ⟨rfl, by rw [EM.out]; exact b3⟩
      exact results_cell_row (P := Tryd.prog) (fn := Tryd.f48) (p := 4) (ty := 71) Tryd.results48 _ w3 m 71 (setArr fun p => P p ∧ ¬ R p) (0, 0) _ rfl s3 Tryd.underlying71 rfl (by rw [setArr_size]; exact set_size)
theorem set_get (P : Nat → Prop) {i : Nat} (hi : i < 32) : (setArr P)[i]? = some (.int .u64 (wd P i)) := by simp [setArr, hi]
theorem eq_items (d : Nat) (is : List Nat) (h : ∀ i ∈ is, i < 32) : (Op.eqItems (d + 1) 69 1 (setArr P) (setArr R) is).run Tryd.prog w = .ok (decide (∀ i ∈ is, wd P i = wd R i)) w := by
  induction is with
  | nil => simp [Op.eqItems]
  | cons i is ih =>
    have hp := run_part_plain (P := Tryd.prog) (w := w) (e := 69) (by kernel_rfl) (set_get P (h i (by simp)))
    have hr := run_part_plain (P := Tryd.prog) (w := w) (e := 69) (by kernel_rfl) (set_get R (h i (by simp)))
    have ih := ih fun j hj => h j (by simp [hj])
    unfold Op.eqItems
    have he := run_equalIn_int (P := Tryd.prog) (w := w) d 69 .u64 .u64 ((wd P i : Nat) : Int) ((wd R i : Nat) : Int) Tryd.underlying69
    rw [Nat.mul_one]
    simp only [Sem.run_bind, hp, hr, he, Result.andThen_ok]
    by_cases e : wd P i = wd R i
    · simp [e, ih]
    · have : ¬ ((wd P i : Nat) : Int) = ((wd R i : Nat) : Int) := by omega
      simp [e, this]
set_option maxRecDepth 100000 in
theorem eq_sets (r : Bool) (hr : r = true ↔ ∀ p, p < 2048 → (P p ↔ R p)) : (Op.equalIn 10000 71 (.agg (setArr P)) (.agg (setArr R))).run Tryd.prog w = .ok r w := by
  obtain ⟨i, hi⟩ := info_of_underlying (P := Tryd.prog) Tryd.underlying69
  rw [run_equalIn_array (P := Tryd.prog) w 9999 (setArr P) (setArr R) Tryd.underlying71 hi]
  have hc : Tryd.prog.cellsOf 69 = 1 := by kernel_rfl
  rw [hc, eq_items 9998 (List.range 32) fun j hj => List.mem_range.1 hj]
  congr 1
  rw [Bool.eq_iff_iff, decide_eq_true_iff, hr]
  constructor
  · intro h p hp
    have e := h (p / 64) (List.mem_range.2 (by omega))
    have b1 := wd_yes (P := P) (i := p / 64) (j := p % 64)
    have b2 := wd_yes (P := R) (i := p / 64) (j := p % 64)
    rw [show 64 * (p / 64) + p % 64 = p by omega] at b1 b2
    rw [e] at b1
    have hj : p % 64 < 64 := by omega
    exact ⟨fun q => (b2.1 (b1.2 ⟨hj, q⟩)).2, fun q => (b1.1 (b2.2 ⟨hj, q⟩)).2⟩
  · intro h i hi
    have := List.mem_range.1 hi
    exact wd_congr fun j hj => h _ (by omega)
theorem zero_arr : setArr (fun _ => False) = #[.int .u64 0, .int .u64 0, .int .u64 0, .int .u64 0, .int .u64 0, .int .u64 0, .int .u64 0, .int .u64 0, .int .u64 0, .int .u64 0, .int .u64 0, .int .u64 0, .int .u64 0, .int .u64 0, .int .u64 0, .int .u64 0, .int .u64 0, .int .u64 0, .int .u64 0, .int .u64 0, .int .u64 0, .int .u64 0, .int .u64 0, .int .u64 0, .int .u64 0, .int .u64 0, .int .u64 0, .int .u64 0, .int .u64 0, .int .u64 0, .int .u64 0, .int .u64 0] := by
  have e : ∀ i, wd (fun _ => False) i = 0 := fun i => wd_zero.2 fun _ _ h => h
  unfold setArr
  simp only [e]
  rfl
theorem empty_any (h : SetAt w b o P) (r : Bool) (hr : r = true ↔ ∀ p, p < 2048 → ¬ P p) : Calls Tryd.prog 28 #[.pointer (some ⟨b, o, none⟩)] w fun e w' => e = .returned (.bool r) ∧ w = w' := by
  have hz := eq_sets (w := w) (P := P) (R := fun _ => False) r (by rw [hr]; exact ⟨fun h p hp => ⟨fun q => h p hp q, fun q => q.elim⟩, fun h p hp q => (h p hp).1 q⟩)
  rw [zero_arr] at hz
  clear hr
  go_enter Tryd.func28, Tryd.ntmps28
  go_wp2_with (refine wpList_load_set rfl (.tmp 4) rfl rfl h ?_)
  go_ret
  exact ⟨rfl, rfl⟩
theorem a_bool (A : Prop) : ∃ r : Bool, r = true ↔ A := by
  by_cases h : A
  · exact ⟨true, fun _ => h, fun _ => rfl⟩
  · exact ⟨false, fun q => (by cases q), fun q => absurd q h⟩
/-- The table of math/bits in its variable. -/
def TabW (w : World) : Prop := ∀ j, j < Lib.deBruijn64tab.length → w.cell? ⟨0, j, none⟩ = some (.int .u8 (Lib.deBruijn64tab.getD j 0))
theorem TabW.keep (h : TabW w) (k : Keep T w w') (hn : ¬ T 0) : TabW w' := fun j hj => k.cell (h j hj) hn
theorem tz_key (x a : Nat) (hx : x < 18446744073709551616) (hx0 : x ≠ 0) (hlow : x &&& (18446744073709551616 - x) = a) :
    IntKind.u64.wrap (bits BinOp.and IntKind.u64 (x : Int) (IntKind.u64.wrap (-(x : Int))) * 285870213051353865) / 288230376151711744 = ((a * 285870213051353865 % 18446744073709551616 / 288230376151711744 : Nat) : Int) := by
  have e1 : IntKind.u64.wrap (-(x : Int)) = ((18446744073709551616 - x : Nat) : Int) := by rw [IntKind.wrap_u64]; omega
  rw [e1, u64_andN x _ (by omega) (by omega), hlow, IntKind.wrap_u64]
  omega
theorem tz_any (x : Nat) (h0 : x ≠ 0) (hx : x < 18446744073709551616) (hT : TabW w) : Calls Tryd.prog 52 #[.int .u64 x] w fun e w' => e = .returned (.int .i64 (Lib.ctz 64 x)) ∧ w = w' := by
  obtain ⟨hlow, hk⟩ := Lib.lowest_bit 64 x h0 hx
  obtain ⟨hi, htab⟩ := Lib.deBruijn64_at _ hk
  have hc := hT _ hi
  rw [htab] at hc
  have key := tz_key x _ hx h0 hlow
  have z0 : ((x : Int) == 0) = false := by simp; omega
  obtain ⟨k, ek⟩ : ∃ k, Lib.ctz 64 x = k := ⟨_, rfl⟩
  rw [ek] at hc hk key hi ⊢
  obtain ⟨idx, ei⟩ : ∃ idx, 2 ^ k * 285870213051353865 % 18446744073709551616 / 288230376151711744 = idx := ⟨_, rfl⟩
  rw [ei] at hc key hi
  clear ei htab hlow ek hT
  go_enter Tryd.func52, Tryd.ntmps52
  go_wp2_with (simp only [key])
  go_ret
  exact ⟨rfl, rfl⟩
/-- The places as ints. -/
noncomputable def plI (P : Nat → Prop) (n : Nat) : List Int := (plc P n).map (fun p : Nat => (p : Int))
theorem plI_len {n : Nat} : (plI P n).length ≤ n := by unfold plI; rw [List.length_map]; exact plc_len
theorem OwnN.below {v : Value} {zs : List Int} {B : Nat} (h : OwnN B w2 v zs) (k : Keep (fun j => v.ownBlock = some j) w2 w') (b : Below B w w2) (hB : B ≤ w.heap.size) : Below B w w' := b.trans (k.below (Nat.le_trans hB b.size) fun j hj => (World.ownsRow.lt h j hj).1)
def PO (w : World) (P : Nat → Prop) (v q : Value) (wr : World) : Prop := ∃ i : Nat, i ≤ 32 ∧ q = .int .i64 i ∧ OwnN w.heap.size wr v (plI P (64 * i)) ∧ Below w.heap.size w wr
def PN (w : World) (P : Nat → Prop) (i : Nat) (v x : Value) (wr : World) : Prop := ∃ lo : Nat, 64 * i ≤ lo ∧ lo ≤ 64 * i + 64 ∧ x = .int .u64 (wd (fun p => P p ∧ lo ≤ p) i) ∧ OwnN w.heap.size wr v (plI P lo) ∧ Below w.heap.size w wr
set_option maxRecDepth 100000 in
theorem places_any (h : SetAt w b o P) (hT : TabW w) : Calls Tryd.prog 45 #[.pointer (some ⟨b, o, none⟩)] w fun e w' => ∃ v, e = .returned v ∧ OwnN w.heap.size w' v (plI P 2048) ∧ Below w.heap.size w w' := by
  have lb := h.lt
  have lt := lt_of_cell (hT 0 (by decide))
  have up : ∀ wr, Below w.heap.size w wr → Keep (fun j => w.heap.size ≤ j) w wr := fun wr b => ⟨b.os, b.tape, b.output, b.size, fun j hj _ => b.block j hj⟩
  have H := Lib.hid h
  have TB := Lib.hid hT
  have UP := Lib.hid up
  clear h hT up
  go_enter Tryd.func45, Tryd.ntmps45
  go_wp2
  go_loopw [3, 4, 5, 7] (fun v _ _ q wr => PO w P v q wr) (fun _ _ _ q _ => 32 - (intOf q).toNat)
  case atStart => exact ⟨0, Nat.zero_le _, rfl, by show OwnN _ _ _ []; exact World.ownsRow_nil _ _ _ _, Below.refl _ _⟩
  case round =>
    obtain ⟨i, hi, rfl, ow, bl⟩ := hrel
    by_cases hlt : i < 32
    · have c0 : wr.cell? ⟨b, o + i, none⟩ = some (.int .u64 (wd (fun p => P p ∧ 64 * i ≤ p) i)) := by
        rw [wd_congr (P := fun p => P p ∧ 64 * i ≤ p) (R := P) (i := i) fun j hj => ⟨fun q => q.1, fun q => ⟨q, by omega⟩⟩]
        exact (H.out.keep (UP.out wr bl) (by omega)).cell i hlt
      have i1 : (i : Int) < 32 := by omega
      have i0 : 0 ≤ (i : Int) := by omega
      have wi : IntKind.i64.wrap (i : Int) = i := IntWalk.i64_in _ (by omega)
      have m1 : IntKind.i64.wrap ((i : Int) * 64) = (i : Int) * 64 := IntWalk.i64_in _ (by omega)
      have OW := Lib.hid ow
      have BL := Lib.hid bl
      clear ow bl
      obtain ⟨x0, ex⟩ : ∃ x0, wd (fun p => P p ∧ 64 * i ≤ p) i = x0 := ⟨_, rfl⟩
      have EX := Lib.hid ex
      rw [ex] at c0
      clear ex
      go_wp2_with fail
      go_quiet (fail)
      have BD : Below w.heap.size w (wr.drewN nq) := BL.out.trans ⟨rfl, rfl, rfl, Nat.le_refl _, fun _ _ => rfl⟩
      have OD := OwnN.keep (S := fun _ => False) OW.out (drewN_keep _ wr nq) (by simp)
      obtain ⟨wa, ea⟩ : ∃ wa, wr.drewN nq = wa := ⟨_, rfl⟩
      rw [ea] at BD OD ⊢
      clear ea c0 OW BL
      have st : PN w P i u3 (.int .u64 x0) wa := ⟨64 * i, Nat.le_refl _, by omega, by rw [EX.out], OD, BD⟩
      have ST := Lib.hid st
      clear st OD BD EX
      go_wp2
      go_loopw [3, 5] (fun v x wr => PN w P i v x wr) (fun _ x _ => (intOf x).toNat)
      case atStart => exact ST.out
      case round =>
        obtain ⟨lo, l0, l1, rfl, ow, bl⟩ := hrel
        by_cases hz : wd (fun p => P p ∧ lo ≤ p) i = 0
        · have hs := wd_zero.1 hz
          have e : plI P (64 * (i + 1)) = plI P lo := by
            unfold plI
            rw [plc_skip (P := P) (lo := lo) (n := 64 * (i + 1)) (fun q q1 q2 hq => hs (q - 64 * i) (by omega) ⟨by rw [show 64 * i + (q - 64 * i) = q by omega]; exact hq, by omega⟩) (by omega)]
          rw [← e] at ow
          have OW := Lib.hid ow
          have BL := Lib.hid bl
          clear ow bl e ST
          rw [hz]
          clear hz hs
          go_wp2
          exact ⟨⟨i + 1, by omega, by go_num, OW.out, BL.out⟩, by simp [intOf]; omega⟩
        · obtain ⟨p, e1, e2, e3, e4, e5, e6⟩ := wd_left hz
          have nx : plI P (p + 1) = plI P lo ++ [(p : Int)] := by
            unfold plI
            rw [plc_next e3 e4 (fun q q1 q2 => e5 q (by omega) q1 q2), List.map_append]
            rfl
          have xl := wd_lt (fun p => P p ∧ lo ≤ p) i
          have tab : TabW wr := TB.out.keep (UP.out wr bl) (by omega)
          have tz := tz_any _ hz xl tab
          have cl := clear_lt hz
          rw [e6] at cl
          obtain ⟨y, ey⟩ : ∃ y, wd (fun q => P q ∧ p + 1 ≤ q) i = y := ⟨_, rfl⟩
          have EY := Lib.hid ey
          rw [ey] at e6 cl
          clear ey
          obtain ⟨x, ex⟩ : ∃ x, wd (fun p => P p ∧ lo ≤ p) i = x := ⟨_, rfl⟩
          rw [ex] at e1 e6 hz xl tz cl ⊢
          clear ex
          obtain ⟨c, ec⟩ : ∃ c, Lib.ctz 64 x = c := ⟨_, rfl⟩
          rw [ec] at e1 tz
          clear ec
          have e7 : (i : Int) * 64 + (c : Int) = p := by omega
          have a1 : bits .and .u64 (x : Int) ((x : Int) - 1) = (y : Int) := by
            rw [show ((x : Int) - 1) = ((x - 1 : Nat) : Int) by omega, u64_andN _ _ (by omega) (by omega), e6]
          have z1 : ((x : Int) != 0) = true := by simp; omega
          have w1 : IntKind.u64.wrap ((x : Int) - 1) = (x : Int) - 1 := by rw [IntKind.wrap_u64]; omega
          have w2 : IntKind.i64.wrap ((p : Int)) = (p : Int) := IntWalk.i64_in _ (by omega)
          have ll := plI_len (P := P) (n := lo)
          have hB : w.heap.size ≤ wr.heap.size := bl.size
          have NX := Lib.hid nx
          have BL := Lib.hid bl
          have lp : lo ≤ p := e3
          clear nx bl ST e1 e3 e4 e5 e6 tab hz
          obtain ⟨A, cc, rfl, hA0, hA1⟩ := OwnN.shapeN ow
          have HA := Lib.hid hA0
          have HA1 := Lib.hid hA1
          clear hA0 hA1
          obtain ⟨zs, ez⟩ : ∃ zs, plI P lo = zs := ⟨_, rfl⟩
          rw [ez] at ow ll ⊢
          have EZ := Lib.hid ez
          clear ez
          go_wp2_with fail
          refine tz.mono ?_
          rintro e wx ⟨rfl, rfl⟩
          clear tz
          go_wp2_with (with_reducible refine wp_stop 26 rfl ?_)
          intro _
          refine wp_pushN rfl (.tmp 19) (.tmp 25) rfl w.heap.size hB (.slice A zs.length cc) zs rfl ow (p : Int) rfl (by omega) ?_
          intro g3 c3 y3 o3 k3 hg3
          have B3 := Lib.hid (ow.below k3 BL.out (Nat.le_refl _))
          have e9 : zs.length + 1 = (plI P (p + 1)).length := by rw [NX.out, EZ.out]; simp
          have O3 : OwnN w.heap.size y3 (.slice (some ⟨g3, 0, none⟩) (zs.length + 1) c3) (plI P (p + 1)) := by rw [NX.out, EZ.out]; exact o3
          have O3 := Lib.hid O3
          clear o3 k3 hg3 ow HA HA1 e9
          go_wp2
          exact ⟨⟨p + 1, by omega, by omega, by rw [EY.out], O3.out, B3.out⟩, by simp [intOf]; omega⟩
    · obtain rfl : i = 32 := by omega
      go_wp2
      go_ret
      exact ⟨_, rfl, ow, bl⟩
end
end Go.Proofs.YtjobphjpfknfeaaDoor
