/- Package model as landed, in memory: newTxn, New, Begin. Condition: times below 2^41. -/
import Derived.Test.YtkkjofefjepodaaLdT
import Derived.Test.YtkkjofefjepodaaLdNT
import Derived.Test.YtkkjofefjepodaaLdD
namespace Go.Proofs.Ytkkjofefjepodaa
open Go.ChangeShapes Go.WideShapes Go.ChangeAt Go.RowKit
set_option linter.unusedVariables false
set_option linter.unusedSimpArgs false
section
variable {w w' w2 : World} {m g n c : Nat} {K : Nat → Value} {o : Nat → Nat} {z : LdI} {T : Nat → Prop} {F : Nat → FtI} {P : VeI → Bool} {t : TtI} {fv : Value} {l : List VeI}
def ttC (id' level begin' : Int) (f : Nat) : List Value := [.int .i64 id', .int .i64 level, .int .u64 begin', .int .i64 0] ++ List.replicate 64 (.bool false) ++ [.pointer (some ⟨f, 0, none⟩)]
set_option maxRecDepth 100000 in
theorem build_tt (id' level begin' : Int) (f : Nat) : ((((Try.zeroCells100.setIfInBounds 0 (.int .i64 id')).setIfInBounds 1 (.int .i64 level)).setIfInBounds 2 (.int .u64 begin')).setIfInBounds 68 (.pointer (some ⟨f, 0, none⟩))) = (ttC id' level begin' f).toArray := by kernel_rfl
theorem ttC_at (id' level begin' : Int) (f : Nat) : (ttC id' level begin' f)[0]? = some (.int .i64 id') ∧ (ttC id' level begin' f)[1]? = some (.int .i64 level) ∧ (ttC id' level begin' f)[2]? = some (.int .u64 begin') ∧ (ttC id' level begin' f)[3]? = some (.int .i64 0) ∧ (ttC id' level begin' f)[68]? = some (.pointer (some ⟨f, 0, none⟩)) ∧ ∀ k, k < 64 → (ttC id' level begin' f)[4 + k]? = some (.bool false) := by
  refine ⟨rfl, rfl, rfl, rfl, rfl, fun k hk => ?_⟩
  unfold ttC
  rw [List.getElem?_append_left (by simp; omega), List.getElem?_append_right (by simp)]
  rw [List.getElem?_replicate]
  simp
  omega
/-- What newTxn makes. -/
def NewT (w : World) (id' level begin' : Int) (e : Ending) (w' : World) : Prop := ∃ tb tf, e = .returned (.pointer (some ⟨tb, 0, none⟩)) ∧ w.heap.size ≤ tb ∧ w.heap.size ≤ tf ∧ tb ≠ tf ∧ TtAt w' ⟨tb, id', level, begin', 0, fun _ => false, tf⟩ ∧ FtAt w' tf ⟨1, 0⟩ ∧ Keep (fun _ => False) w w' ∧ w'.heap.size = w.heap.size + 2 ∧ tb < w'.heap.size ∧ tf < w'.heap.size
set_option maxRecDepth 100000 in
theorem newTxn_any (id' level begin' : Int) (w : World) : Calls Try.prog 56 #[.int .i64 id', .int .i64 level, .int .u64 begin'] w (NewT w id' level begin') := by
  obtain ⟨w1, e1⟩ : ∃ w1, w.alloc (.cells #[.int .u32 0, .int .i32 0, .int .u32 0, .int .i64 1, .int .u64 0] 148) = w1 := ⟨_, rfl⟩
  obtain ⟨f, ef⟩ : ∃ f, w.heap.size = f := ⟨_, rfl⟩
  have s1 : w1.heap.size = f + 1 := by rw [← e1]; simp [ef]
  have k1 : Keep (fun _ => False) w w1 := by rw [← e1]; exact (Keep.refl _ _).alloc _
  have F1 : FtAt w1 f ⟨1, 0⟩ := by
    rw [← e1, ← ef]
    exact ⟨by simp, by simp, fun i => by simp, fun _ => ⟨by simp, by simp⟩⟩
  obtain ⟨w2, e2⟩ : ∃ w2, w1.alloc (.cells (ttC id' level begin' f).toArray 100) = w2 := ⟨_, rfl⟩
  have k2 : Keep (fun _ => False) w1 w2 := by rw [← e2]; exact (Keep.refl _ _).alloc _
  have s2 : w2.heap.size = f + 2 := by rw [← e2]; simp [s1]
  have T2 : TtAt w2 ⟨w1.heap.size, id', level, begin', 0, fun _ => false, f⟩ := by
    obtain ⟨a0, a1, a2, a3, a4, a5⟩ := ttC_at id' level begin' f
    have hc : ∀ (i : Nat) (u : Value), (ttC id' level begin' f)[i]? = some u → w2.cell? ⟨w1.heap.size, i, none⟩ = some u := fun i u h => by rw [← e2]; simpa using h
    exact ⟨hc _ _ a0, hc _ _ a1, hc _ _ a2, hc _ _ a3, fun k hk => hc _ _ (a5 k hk), hc _ _ a4, fun i => by rw [← e2]; simp⟩
  have FIN := Lib.hid (show NewT w id' level begin' (.returned (.pointer (some ⟨w1.heap.size, 0, none⟩))) w2 from ⟨_, f, rfl, by omega, by omega, by omega, T2, F1.keep k2 id, k1.trans k2, by omega, by omega, by omega⟩)
  obtain ⟨tb, etb⟩ : ∃ tb, w1.heap.size = tb := ⟨_, rfl⟩
  rw [etb] at FIN
  obtain ⟨A, eA⟩ : ∃ A, ((((Try.zeroCells100.setIfInBounds 0 (.int .i64 id')).setIfInBounds 1 (.int .i64 level)).setIfInBounds 2 (.int .u64 begin')).setIfInBounds 68 (.pointer (some ⟨f, 0, none⟩))) = A := ⟨_, rfl⟩
  rw [← build_tt, eA] at e2
  clear s1 k1 F1 k2 s2 T2
  go_enter Try.func56, Try.ntmps56
  go_wp2
  go_ret
  obtain ⟨a, f2, e0, r⟩ := FIN.out
  cases e0
  exact ⟨_, f2, rfl, r⟩
/-- A transaction begins, in blocks of its own. -/
def begZ (z : LdI) (i : Nat) (level : Int) (tb tf : Nat) : LdI := { z with clock := z.clock + 1, begun := z.begun + 1, s := putT z.s i (some ⟨tb, z.begun + 1, level, z.clock + 1, 0, fun _ => false, tf⟩), F := updF z.F tf ⟨1, 0⟩ }
theorem LdAt.newT (h : LdAt w m K o z) {i : Nat} (hi : i < 8) {tb tf : Nat} {t : TtI} (k : Keep (fun _ => False) w w2) (h1 : w.heap.size ≤ tb) (h2 : w.heap.size ≤ tf) (hne : tb ≠ tf) (eb : t.b = tb) (ef : t.f = tf) (T2 : TtAt w2 t) (F2 : FtAt w2 tf ⟨1, 0⟩) :
    LdAt (w2.setCell ⟨m, 4 + i, none⟩ (.pointer (some ⟨tb, 0, none⟩))) m K (fun g => if g = tb then 70 + i else if g = tf then 81 else o g) { z with s := putT z.s i (some t), F := updF z.F tf ⟨1, 0⟩ } := by
  have lb : tb < w2.heap.size := by have := T2.lt; rw [eb] at this; exact this
  have lf := F2.lt
  have a := h.fresh k (fun g => if g = tb then 70 + i else if g = tf then 81 else o g) (updF z.F tf ⟨1, 0⟩) (fun g hg => by rw [if_neg (by omega), if_neg (by omega)]) (fun g hg => updF_ne _ _ (by omega)) (fun g hg => by
    by_cases e : g = tb
    · omega
    · by_cases e2 : g = tf
      · omega
      · have hg : (if g = tb then 70 + i else if g = tf then 81 else o g) ≠ 0 := hg
        rw [if_neg e, if_neg e2] at hg
        exact Nat.lt_of_lt_of_le (h.lt g hg) k.size) (fun g hg e => by
    by_cases e1 : g = tb
    · have e : (if g = tb then 70 + i else if g = tf then 81 else o g) = 81 := e
      rw [if_pos e1] at e; omega
    · by_cases e2 : g = tf
      · rw [e2, updF_self]; exact F2
      · have e : (if g = tb then 70 + i else if g = tf then 81 else o g) = 81 := e
        rw [if_neg e1, if_neg e2] at e
        have := h.lt g (by rw [e]; decide)
        omega)
  have b := a.ses hi (some t) (fun u hu => by
    cases hu
    rw [eb, ef]
    exact ⟨T2, by rw [if_pos rfl], by rw [if_neg (Ne.symm hne), if_pos rfl]⟩)
  rw [show ptrO ((some t).map TtI.b) = .pointer (some ⟨tb, 0, none⟩) by rw [← eb]; rfl] at b
  exact b
def BegP (w : World) (m : Nat) (K : Nat → Value) (o : Nat → Nat) (z : LdI) (i : Nat) (level : Int) (e : Ending) (w' : World) : Prop :=
  e = .returned (.tuple #[.int .i64 (z.begun + 1), .int .i64 0]) ∧ ∃ tb tf o', o tb = 0 ∧ o tf = 0 ∧ LdAt w' m K o' (begZ z i level tb tf) ∧ Keep (fun g => o g ≠ 0) w w' ∧ ∀ g, o' g ≠ 0 → o g ≠ 0 ∨ w.heap.size ≤ g
theorem begin_core (h : LdAt w m K o z) {i : Nat} (hi : i < 8) (level : Int) {tb tf : Nat} {w0 : World} (K0 : Keep (fun g => o g ≠ 0) w0 w) (z0 : LdI) (hz : z = { z0 with clock := z0.clock + 1, begun := z0.begun + 1 }) (k : Keep (fun _ => False) w w2) (h1 : w.heap.size ≤ tb) (h2 : w.heap.size ≤ tf) (hne : tb ≠ tf) (T2 : TtAt w2 ⟨tb, z0.begun + 1, level, z0.clock + 1, 0, fun _ => false, tf⟩) (F2 : FtAt w2 tf ⟨1, 0⟩) :
    ∃ w4, w2.setCell ⟨m, 4 + i, none⟩ (.pointer (some ⟨tb, 0, none⟩)) = w4 ∧ w4.cell? ⟨m, 3, none⟩ = some (.int .i64 (z0.begun + 1)) ∧ (∃ u, w2.cell? ⟨m, 4 + i, none⟩ = some u) ∧ w2.frozen? ⟨m, 4 + i, none⟩ = false ∧ o tb = 0 ∧ o tf = 0 ∧ ∃ o', LdAt w4 m K o' (begZ z0 i level tb tf) ∧ Keep (fun g => o g ≠ 0) w0 w4 ∧ ∀ g, o' g ≠ 0 → o g ≠ 0 ∨ w0.heap.size ≤ g := by
  have a := h.newT hi k h1 h2 hne rfl rfl T2 F2
  have c3 := (h.quiet k).a.c3
  have hm := (h.quiet k).a
  obtain ⟨w4, e4⟩ : ∃ w4, w2.setCell ⟨m, 4 + i, none⟩ (.pointer (some ⟨tb, 0, none⟩)) = w4 := ⟨_, rfl⟩
  have k4 := keep_one w2 ⟨m, 4 + i, none⟩ (.pointer (some ⟨tb, 0, none⟩))
  have zero : ∀ g, w.heap.size ≤ g → o g = 0 := fun g hg => by
    cases q : o g with
    | zero => rfl
    | succ n => have := h.lt g (by rw [q]; omega); omega
  rw [e4] at a k4
  refine ⟨w4, e4, ?_, ⟨_, hm.cs i hi⟩, hm.fz _, zero tb h1, zero tf h2, (fun g => if g = tb then 70 + i else if g = tf then 81 else o g), ?_, (K0.trans (k.mono fun _ e => e.elim)).trans (k4.mono fun g e => ?_), fun g hg => ?_⟩
  · have := a.a.c3
    have e : ({ z with s := putT z.s i (some ⟨tb, z0.begun + 1, level, z0.clock + 1, 0, fun _ => false, tf⟩), F := updF z.F tf ⟨1, 0⟩ } : LdI).begun = z0.begun + 1 := by rw [hz]
    rw [e] at this
    exact this
  · have e : ({ z with s := putT z.s i (some ⟨tb, z0.begun + 1, level, z0.clock + 1, 0, fun _ => false, tf⟩), F := updF z.F tf ⟨1, 0⟩ } : LdI) = begZ z0 i level tb tf := by rw [hz]; rfl
    rw [e] at a
    exact a
  · have e : g = m := e
    rw [e, h.om]; decide
  · have hg : (if g = tb then 70 + i else if g = tf then 81 else o g) ≠ 0 := hg
    by_cases e : g = tb
    · exact .inr (by rw [e]; exact Nat.le_trans K0.size h1)
    · by_cases e2 : g = tf
      · exact .inr (by rw [e2]; exact Nat.le_trans K0.size h2)
      · rw [if_neg e, if_neg e2] at hg; exact .inl hg
end
end Go.Proofs.Ytkkjofefjepodaa
