/- Several texts, one behind the other: MdV, Res, ResS, Acts. -/
import Derived.Test.YtalkfnblnlcklaaModelBaseDZac
import Derived.Test.YtalkfnblnlcklaaModelBaseDZaa
/- The values that a Model of whole calls takes and gives (layer 19): calls, results, Pairs, Confs, Statuses. No condition. -/
namespace Go.Proofs.Ytalkfnblnlcklaa
open Go.ChangeShapes Go.WideShapes Go.ChangeAt Go.RowKit
set_option linter.unusedVariables false

def prI (p : Int × Int) : List Value := [.int .i64 p.1, .int .i64 p.2]
theorem prI_len (p : Int × Int) : (prI p).length = 2 := rfl
abbrev OwnPr (w : World) (v : Value) (l : List (Int × Int)) : Prop := OwnM 2 prI 73 w v l
theorem info_pr : (Try.prog.info? 73).map (fun i => (i.zero, i.size, i.bytes)) = some (some (.agg #[.int .i64 0, .int .i64 0]), 2, 16) := by kernel_rfl
/-- What a call answers that tells a list of Pairs of its own. -/
def ToldPr (w : World) (l : List (Int × Int)) (e : Ending) (w' : World) : Prop := ∃ u, e = .returned u ∧ OwnPr w' u l ∧ (∀ g, u.ownBlock = some g → w.heap.size ≤ g) ∧ Keep (fun _ => False) w w'
/-- A result as a value, its Pairs told by u. -/
def reV (r : ReI) (u : Value) : Value := .agg #[.int .i64 r.e, .int .i64 r.val, u, .int .i64 r.over, .int .i64 r.reason]
/-- A call as a value. -/
def opV (o : OpI) : Value := .agg #[.int .i64 o.kind, .int .i64 o.key, .int .i64 o.hi, .int .i64 o.val]
/-- A Conf as a value. -/
def cfV (slots limit : Int) : Value := .agg #[.int .i64 slots, .int .u64 limit]
/-- A Status as a value; of a transaction. -/
def stV (l : Bool) (id' level st start ops : Int) : Value := .agg #[.bool l, .bool false, .bool false, .int .i64 id', .int .i64 level, .int .i64 st, .int .u64 start, .int .u64 0, .int .i64 ops]
/-- What is told of a session. -/
def MoI.statV (m : MoI) (s : Int) : Value := if s < 0 ∨ 7 < s then stV false 0 0 0 0 0 else if (m.s s.toNat).id = 0 then stV false 0 0 0 0 0 else stV true (m.s s.toNat).id (m.s s.toNat).level 1 (m.s s.toNat).start (m.s s.toNat).ops
end Go.Proofs.Ytalkfnblnlcklaa
/- A result in a block of its own: its five cells, what a store of all of them leaves. No condition. -/
namespace Go.Proofs.Ytalkfnblnlcklaa
open Go.ChangeShapes Go.WideShapes Go.ChangeAt Go.RowKit
set_option linter.unusedVariables false
/-- A result's cells at block N. -/
structure ResAt (w : World) (N : Nat) (r0 r1 r2 r3 r4 : Value) : Prop where
 r0 : w.cell? ⟨N, 0, none⟩ = some r0
 r1 : w.cell? ⟨N, 1, none⟩ = some r1
 r2 : w.cell? ⟨N, 2, none⟩ = some r2
 r3 : w.cell? ⟨N, 3, none⟩ = some r3
 r4 : w.cell? ⟨N, 4, none⟩ = some r4
 fz : ∀ i, w.frozen? ⟨N, i, none⟩ = false
theorem ResAt.keep {w w' : World} {N : Nat} {r0 r1 r2 r3 r4 : Value} {T : Nat → Prop} (h : ResAt w N r0 r1 r2 r3 r4) (k : Keep T w w') (hn : ¬ T N) : ResAt w' N r0 r1 r2 r3 r4 :=
 ⟨k.cell h.r0 hn, k.cell h.r1 hn, k.cell h.r2 hn, k.cell h.r3 hn, k.cell h.r4 hn, fun i => (k.frozen (a := ⟨N, i, none⟩) (lt_of_cell (a := ⟨N, 0, none⟩) h.r0) hn).trans (h.fz i)⟩
theorem res_box (w : World) : ∃ W, w.alloc (.cells #[.int .i64 0, .int .i64 0, .slice none 0 0, .int .i64 0, .int .i64 0] 65) = W ∧ ResAt W w.heap.size (.int .i64 0) (.int .i64 0) (.slice none 0 0) (.int .i64 0) (.int .i64 0) ∧ Keep (fun _ => False) w W :=
 ⟨_, rfl, ⟨by simp, by simp, by simp, by simp, by simp, fun i => by simp⟩, (Keep.refl _ _).alloc _⟩
theorem res_set {w6 W7 : World} {N : Nat} {r0 r1 r2 r3 r4 : Value} (h : ResAt w6 N r0 r1 r2 r3 r4) (v0 v1 v2 v3 v4 : Value)
  (e : ((((w6.setCell ⟨N, 0, none⟩ v0).setCell ⟨N, 1, none⟩ v1).setCell ⟨N, 2, none⟩ v2).setCell ⟨N, 3, none⟩ v3).setCell ⟨N, 4, none⟩ v4 = W7) : ResAt W7 N v0 v1 v2 v3 v4 ∧ Keep (fun j => j = N) w6 W7 := by
 subst e
 refine ⟨⟨?_, ?_, ?_, ?_, ?_, fun i => ?_⟩, (((((Keep.refl (fun j => j = N) w6).setCell (p := ⟨N, 0, none⟩) rfl _).setCell (p := ⟨N, 1, none⟩) rfl _).setCell (p := ⟨N, 2, none⟩) rfl _).setCell (p := ⟨N, 3, none⟩) rfl _).setCell (p := ⟨N, 4, none⟩) rfl _⟩
 ·rw [World.cell?_setCell_other _ _ _ _ (by first | (simp; done) | (simp; omega)), World.cell?_setCell_other _ _ _ _ (by first | (simp; done) | (simp; omega)), World.cell?_setCell_other _ _ _ _ (by first | (simp; done) | (simp; omega)), World.cell?_setCell_other _ _ _ _ (by first | (simp; done) | (simp; omega))]; exact World.cell?_setCell_same _ _ _ h.r0
 ·rw [World.cell?_setCell_other _ _ _ _ (by first | (simp; done) | (simp; omega)), World.cell?_setCell_other _ _ _ _ (by first | (simp; done) | (simp; omega)), World.cell?_setCell_other _ _ _ _ (by first | (simp; done) | (simp; omega))]; exact World.cell?_setCell_same _ _ _ (by rw [World.cell?_setCell_other _ _ _ _ (by first | (simp; done) | (simp; omega))]; exact h.r1)
 ·rw [World.cell?_setCell_other _ _ _ _ (by first | (simp; done) | (simp; omega)), World.cell?_setCell_other _ _ _ _ (by first | (simp; done) | (simp; omega))]; exact World.cell?_setCell_same _ _ _ (by rw [World.cell?_setCell_other _ _ _ _ (by first | (simp; done) | (simp; omega)), World.cell?_setCell_other _ _ _ _ (by first | (simp; done) | (simp; omega))]; exact h.r2)
 ·rw [World.cell?_setCell_other _ _ _ _ (by first | (simp; done) | (simp; omega))]; exact World.cell?_setCell_same _ _ _ (by rw [World.cell?_setCell_other _ _ _ _ (by first | (simp; done) | (simp; omega)), World.cell?_setCell_other _ _ _ _ (by first | (simp; done) | (simp; omega)), World.cell?_setCell_other _ _ _ _ (by first | (simp; done) | (simp; omega))]; exact h.r3)
 ·exact World.cell?_setCell_same _ _ _ (by rw [World.cell?_setCell_other _ _ _ _ (by first | (simp; done) | (simp; omega)), World.cell?_setCell_other _ _ _ _ (by first | (simp; done) | (simp; omega)), World.cell?_setCell_other _ _ _ _ (by first | (simp; done) | (simp; omega)), World.cell?_setCell_other _ _ _ _ (by first | (simp; done) | (simp; omega))]; exact h.r4)
 ·simp only [World.frozen?_setCell]; exact h.fz i
/-- A call's cells at block N. -/
structure OpAt (w : World) (N : Nat) (o : OpI) : Prop where
 o0 : w.cell? ⟨N, 0, none⟩ = some (.int .i64 o.kind)
 o1 : w.cell? ⟨N, 1, none⟩ = some (.int .i64 o.key)
 o2 : w.cell? ⟨N, 2, none⟩ = some (.int .i64 o.hi)
 o3 : w.cell? ⟨N, 3, none⟩ = some (.int .i64 o.val)
theorem OpAt.keep {w w' : World} {N : Nat} {o : OpI} {T : Nat → Prop} (h : OpAt w N o) (k : Keep T w w') (hn : ¬ T N) : OpAt w' N o := ⟨k.cell h.o0 hn, k.cell h.o1 hn, k.cell h.o2 hn, k.cell h.o3 hn⟩
theorem op_box (w : World) (o : OpI) : ∃ W, w.alloc (.cells #[.int .i64 o.kind, .int .i64 o.key, .int .i64 o.hi, .int .i64 o.val] 31) = W ∧ OpAt W w.heap.size o ∧ Keep (fun _ => False) w W :=
 ⟨_, rfl, ⟨by simp, by simp, by simp, by simp⟩, (Keep.refl _ _).alloc _⟩
end Go.Proofs.Ytalkfnblnlcklaa
/- A Status in a block of its own: its nine cells, what a store of all of them leaves. No condition. -/
namespace Go.Proofs.Ytalkfnblnlcklaa
open Go.ChangeShapes Go.WideShapes Go.ChangeAt Go.RowKit
set_option linter.unusedVariables false
set_option linter.unusedSimpArgs false

/-- A Status's box. -/
structure StAt (w : World) (N : Nat) (u0 u1 u2 u3 u4 u5 u6 u7 u8 : Value) : Prop where
 r0 : w.cell? ⟨N, 0, none⟩ = some u0
 r1 : w.cell? ⟨N, 1, none⟩ = some u1
 r2 : w.cell? ⟨N, 2, none⟩ = some u2
 r3 : w.cell? ⟨N, 3, none⟩ = some u3
 r4 : w.cell? ⟨N, 4, none⟩ = some u4
 r5 : w.cell? ⟨N, 5, none⟩ = some u5
 r6 : w.cell? ⟨N, 6, none⟩ = some u6
 r7 : w.cell? ⟨N, 7, none⟩ = some u7
 r8 : w.cell? ⟨N, 8, none⟩ = some u8
 fz : ∀ i, w.frozen? ⟨N, i, none⟩ = false
theorem st_box (w : World) : ∃ W, w.alloc (.cells #[.bool false, .bool false, .bool false, .int .i64 0, .int .i64 0, .int .i64 0, .int .u64 0, .int .u64 0, .int .i64 0] 62) = W ∧ StAt W w.heap.size (.bool false) (.bool false) (.bool false) (.int .i64 0) (.int .i64 0) (.int .i64 0) (.int .u64 0) (.int .u64 0) (.int .i64 0) ∧ Keep (fun _ => False) w W :=
 ⟨_, rfl, ⟨by simp, by simp, by simp, by simp, by simp, by simp, by simp, by simp, by simp, fun i => by simp⟩, (Keep.refl _ _).alloc _⟩
theorem StAt.keep {w w' : World} {N : Nat} {u0 u1 u2 u3 u4 u5 u6 u7 u8 : Value} {T : Nat → Prop} (h : StAt w N u0 u1 u2 u3 u4 u5 u6 u7 u8) (k : Keep T w w') (hn : ¬ T N) : StAt w' N u0 u1 u2 u3 u4 u5 u6 u7 u8 :=
 ⟨k.cell h.r0 hn, k.cell h.r1 hn, k.cell h.r2 hn, k.cell h.r3 hn, k.cell h.r4 hn, k.cell h.r5 hn, k.cell h.r6 hn, k.cell h.r7 hn, k.cell h.r8 hn, fun i => (k.frozen (a := ⟨N, i, none⟩) (lt_of_cell (a := ⟨N, 0, none⟩) h.r0) hn).trans (h.fz i)⟩
theorem st_set {w6 W7 : World} {N : Nat} {u0 u1 u2 u3 u4 u5 u6 u7 u8 : Value} (h : StAt w6 N u0 u1 u2 u3 u4 u5 u6 u7 u8) (v0 v1 v2 v3 v4 v5 v6 v7 v8 : Value) (e : (((((((((w6.setCell ⟨N, 0, none⟩ v0).setCell ⟨N, 1, none⟩ v1).setCell ⟨N, 2, none⟩ v2).setCell ⟨N, 3, none⟩ v3).setCell ⟨N, 4, none⟩ v4).setCell ⟨N, 5, none⟩ v5).setCell ⟨N, 6, none⟩ v6).setCell ⟨N, 7, none⟩ v7).setCell ⟨N, 8, none⟩ v8) = W7) : StAt W7 N v0 v1 v2 v3 v4 v5 v6 v7 v8 ∧ Keep (fun j => j = N) w6 W7 := by
 subst e
 refine ⟨⟨?_, ?_, ?_, ?_, ?_, ?_, ?_, ?_, ?_, fun i => ?_⟩, ((((((((((Keep.refl (fun j => j = N) w6).setCell (p := ⟨N, 0, none⟩) rfl _).setCell (p := ⟨N, 1, none⟩) rfl _).setCell (p := ⟨N, 2, none⟩) rfl _).setCell (p := ⟨N, 3, none⟩) rfl _).setCell (p := ⟨N, 4, none⟩) rfl _).setCell (p := ⟨N, 5, none⟩) rfl _).setCell (p := ⟨N, 6, none⟩) rfl _).setCell (p := ⟨N, 7, none⟩) rfl _).setCell (p := ⟨N, 8, none⟩) rfl _)⟩
 ·rw [World.cell?_setCell_other _ _ _ _ (by first | (simp; done) | (simp; omega)), World.cell?_setCell_other _ _ _ _ (by first | (simp; done) | (simp; omega)), World.cell?_setCell_other _ _ _ _ (by first | (simp; done) | (simp; omega)), World.cell?_setCell_other _ _ _ _ (by first | (simp; done) | (simp; omega)), World.cell?_setCell_other _ _ _ _ (by first | (simp; done) | (simp; omega)), World.cell?_setCell_other _ _ _ _ (by first | (simp; done) | (simp; omega)), World.cell?_setCell_other _ _ _ _ (by first | (simp; done) | (simp; omega)), World.cell?_setCell_other _ _ _ _ (by first | (simp; done) | (simp; omega))]; exact World.cell?_setCell_same _ _ _ h.r0
 ·rw [World.cell?_setCell_other _ _ _ _ (by first | (simp; done) | (simp; omega)), World.cell?_setCell_other _ _ _ _ (by first | (simp; done) | (simp; omega)), World.cell?_setCell_other _ _ _ _ (by first | (simp; done) | (simp; omega)), World.cell?_setCell_other _ _ _ _ (by first | (simp; done) | (simp; omega)), World.cell?_setCell_other _ _ _ _ (by first | (simp; done) | (simp; omega)), World.cell?_setCell_other _ _ _ _ (by first | (simp; done) | (simp; omega)), World.cell?_setCell_other _ _ _ _ (by first | (simp; done) | (simp; omega))]; exact World.cell?_setCell_same _ _ _ (by rw [World.cell?_setCell_other _ _ _ _ (by first | (simp; done) | (simp; omega))]; exact h.r1)
 ·rw [World.cell?_setCell_other _ _ _ _ (by first | (simp; done) | (simp; omega)), World.cell?_setCell_other _ _ _ _ (by first | (simp; done) | (simp; omega)), World.cell?_setCell_other _ _ _ _ (by first | (simp; done) | (simp; omega)), World.cell?_setCell_other _ _ _ _ (by first | (simp; done) | (simp; omega)), World.cell?_setCell_other _ _ _ _ (by first | (simp; done) | (simp; omega)), World.cell?_setCell_other _ _ _ _ (by first | (simp; done) | (simp; omega))]; exact World.cell?_setCell_same _ _ _ (by rw [World.cell?_setCell_other _ _ _ _ (by first | (simp; done) | (simp; omega)), World.cell?_setCell_other _ _ _ _ (by first | (simp; done) | (simp; omega))]; exact h.r2)
 ·rw [World.cell?_setCell_other _ _ _ _ (by first | (simp; done) | (simp; omega)), World.cell?_setCell_other _ _ _ _ (by first | (simp; done) | (simp; omega)), World.cell?_setCell_other _ _ _ _ (by first | (simp; done) | (simp; omega)), World.cell?_setCell_other _ _ _ _ (by first | (simp; done) | (simp; omega)), World.cell?_setCell_other _ _ _ _ (by first | (simp; done) | (simp; omega))]; exact World.cell?_setCell_same _ _ _ (by rw [World.cell?_setCell_other _ _ _ _ (by first | (simp; done) | (simp; omega)), World.cell?_setCell_other _ _ _ _ (by first | (simp; done) | (simp; omega)), World.cell?_setCell_other _ _ _ _ (by first | (simp; done) | (simp; omega))]; exact h.r3)
 ·rw [World.cell?_setCell_other _ _ _ _ (by first | (simp; done) | (simp; omega)), World.cell?_setCell_other _ _ _ _ (by first | (simp; done) | (simp; omega)), World.cell?_setCell_other _ _ _ _ (by first | (simp; done) | (simp; omega)), World.cell?_setCell_other _ _ _ _ (by first | (simp; done) | (simp; omega))]; exact World.cell?_setCell_same _ _ _ (by rw [World.cell?_setCell_other _ _ _ _ (by first | (simp; done) | (simp; omega)), World.cell?_setCell_other _ _ _ _ (by first | (simp; done) | (simp; omega)), World.cell?_setCell_other _ _ _ _ (by first | (simp; done) | (simp; omega)), World.cell?_setCell_other _ _ _ _ (by first | (simp; done) | (simp; omega))]; exact h.r4)
 ·rw [World.cell?_setCell_other _ _ _ _ (by first | (simp; done) | (simp; omega)), World.cell?_setCell_other _ _ _ _ (by first | (simp; done) | (simp; omega)), World.cell?_setCell_other _ _ _ _ (by first | (simp; done) | (simp; omega))]; exact World.cell?_setCell_same _ _ _ (by rw [World.cell?_setCell_other _ _ _ _ (by first | (simp; done) | (simp; omega)), World.cell?_setCell_other _ _ _ _ (by first | (simp; done) | (simp; omega)), World.cell?_setCell_other _ _ _ _ (by first | (simp; done) | (simp; omega)), World.cell?_setCell_other _ _ _ _ (by first | (simp; done) | (simp; omega)), World.cell?_setCell_other _ _ _ _ (by first | (simp; done) | (simp; omega))]; exact h.r5)
 ·rw [World.cell?_setCell_other _ _ _ _ (by first | (simp; done) | (simp; omega)), World.cell?_setCell_other _ _ _ _ (by first | (simp; done) | (simp; omega))]; exact World.cell?_setCell_same _ _ _ (by rw [World.cell?_setCell_other _ _ _ _ (by first | (simp; done) | (simp; omega)), World.cell?_setCell_other _ _ _ _ (by first | (simp; done) | (simp; omega)), World.cell?_setCell_other _ _ _ _ (by first | (simp; done) | (simp; omega)), World.cell?_setCell_other _ _ _ _ (by first | (simp; done) | (simp; omega)), World.cell?_setCell_other _ _ _ _ (by first | (simp; done) | (simp; omega)), World.cell?_setCell_other _ _ _ _ (by first | (simp; done) | (simp; omega))]; exact h.r6)
 ·rw [World.cell?_setCell_other _ _ _ _ (by first | (simp; done) | (simp; omega))]; exact World.cell?_setCell_same _ _ _ (by rw [World.cell?_setCell_other _ _ _ _ (by first | (simp; done) | (simp; omega)), World.cell?_setCell_other _ _ _ _ (by first | (simp; done) | (simp; omega)), World.cell?_setCell_other _ _ _ _ (by first | (simp; done) | (simp; omega)), World.cell?_setCell_other _ _ _ _ (by first | (simp; done) | (simp; omega)), World.cell?_setCell_other _ _ _ _ (by first | (simp; done) | (simp; omega)), World.cell?_setCell_other _ _ _ _ (by first | (simp; done) | (simp; omega)), World.cell?_setCell_other _ _ _ _ (by first | (simp; done) | (simp; omega))]; exact h.r7)
 ·exact World.cell?_setCell_same _ _ _ (by rw [World.cell?_setCell_other _ _ _ _ (by first | (simp; done) | (simp; omega)), World.cell?_setCell_other _ _ _ _ (by first | (simp; done) | (simp; omega)), World.cell?_setCell_other _ _ _ _ (by first | (simp; done) | (simp; omega)), World.cell?_setCell_other _ _ _ _ (by first | (simp; done) | (simp; omega)), World.cell?_setCell_other _ _ _ _ (by first | (simp; done) | (simp; omega)), World.cell?_setCell_other _ _ _ _ (by first | (simp; done) | (simp; omega)), World.cell?_setCell_other _ _ _ _ (by first | (simp; done) | (simp; omega)), World.cell?_setCell_other _ _ _ _ (by first | (simp; done) | (simp; omega))]; exact h.r8)
 ·simp only [World.frozen?_setCell]; exact h.fz i
end Go.Proofs.Ytalkfnblnlcklaa
/- Slices of api.Op and of vinculumlaw19.Act that came in: what their cells hold; no condition beyond the argument's own reading. -/
namespace Go.Proofs.Ytalkfnblnlcklaa
open Go.ChangeShapes Go.WideShapes Go.ChangeAt Go.RowKit
set_option linter.unusedVariables false

/-- One call of the script. -/
structure ActI where
 kind : Int
 s : Int
 level : Int
 o : OpI
structure ClAt (w : World) (b o : Nat) (x : OpI) : Prop where
 c0 : w.cell? ⟨b, o, none⟩ = some (.int .i64 x.kind)
 c1 : w.cell? ⟨b, o + 1, none⟩ = some (.int .i64 x.key)
 c2 : w.cell? ⟨b, o + 2, none⟩ = some (.int .i64 x.hi)
 c3 : w.cell? ⟨b, o + 3, none⟩ = some (.int .i64 x.val)
structure ClOk (x : OpI) : Prop where
 b0 : -9223372036854775808 ≤ x.kind ∧ x.kind ≤ 9223372036854775807
 b1 : -9223372036854775808 ≤ x.key ∧ x.key ≤ 9223372036854775807
 b2 : -9223372036854775808 ≤ x.hi ∧ x.hi ≤ 9223372036854775807
 b3 : -9223372036854775808 ≤ x.val ∧ x.val ≤ 9223372036854775807
structure ActAt (w : World) (b o : Nat) (x : ActI) : Prop where
 c0 : w.cell? ⟨b, o, none⟩ = some (.int .i64 x.kind)
 c1 : w.cell? ⟨b, o + 1, none⟩ = some (.int .i64 x.s)
 c2 : w.cell? ⟨b, o + 2, none⟩ = some (.int .i64 x.level)
 c3 : w.cell? ⟨b, o + 3, none⟩ = some (.int .i64 x.o.kind)
 c4 : w.cell? ⟨b, o + 4, none⟩ = some (.int .i64 x.o.key)
 c5 : w.cell? ⟨b, o + 5, none⟩ = some (.int .i64 x.o.hi)
 c6 : w.cell? ⟨b, o + 6, none⟩ = some (.int .i64 x.o.val)
structure ActOk (x : ActI) : Prop where
 b0 : -9223372036854775808 ≤ x.kind ∧ x.kind ≤ 9223372036854775807
 b1 : -9223372036854775808 ≤ x.s ∧ x.s ≤ 9223372036854775807
 b2 : -9223372036854775808 ≤ x.level ∧ x.level ≤ 9223372036854775807
 b3 : ClOk x.o
structure IsCl (w : World) (A : Option Addr) (n c : Nat) (f : Nat → OpI) : Prop where
 cap : n ≤ c
 max : c ≤ 9223372036854775807
 cell : 0 < n → ∃ b off, A = some ⟨b, off, none⟩ ∧ b < w.heap.size ∧ ∀ j, j < n → ClAt w b (off + j * 4) (f j)
 ok : ∀ j, j < n → ClOk (f j)
structure IsActs (w : World) (A : Option Addr) (n c : Nat) (f : Nat → ActI) : Prop where
 cap : n ≤ c
 max : c ≤ 9223372036854775807
 cell : 0 < n → ∃ b off, A = some ⟨b, off, none⟩ ∧ b < w.heap.size ∧ ∀ j, j < n → ActAt w b (off + j * 7) (f j)
 ok : ∀ j, j < n → ActOk (f j)
theorem Addr.add_zero' (a : Addr) : a.add 0 = a := by simp [Addr.add]
theorem cells_cl : Try.prog.cellsOf 31 = 4 := by kernel_rfl
theorem cells_int : Try.prog.cellsOf 3 = 1 := by kernel_rfl

set_option maxRecDepth 100000 in
theorem trod_cl {H : Type} {enc : TypeId × Value → H} {w : World} {spare : Nat → Bool} {held : Bool} {m : Nat} {cs : List Value} {d : DataW H × List MemPlace} (hc : cs.length = 4) (ht : DataW.trod enc Try.prog w 0 spare held m 31 cs = some d) :
    ∃ x : OpI, cs = [.int .i64 x.kind, .int .i64 x.key, .int .i64 x.hi, .int .i64 x.val] ∧ ClOk x := by
  obtain ⟨xs, m', _, _, hl4, hxl, hx⟩ := DataW.trod_struct Try.underlying31 ht
  have f0 : DataW.trod enc Try.prog w 0 spare held m' 3 ((cs.drop 0).take (Try.prog.cellsOf 3)) = xs[0]? := hx 0 _ rfl
  have f1 : DataW.trod enc Try.prog w 0 spare held m' 3 ((cs.drop 1).take (Try.prog.cellsOf 3)) = xs[1]? := hx 1 _ rfl
  have f2 : DataW.trod enc Try.prog w 0 spare held m' 3 ((cs.drop 2).take (Try.prog.cellsOf 3)) = xs[2]? := hx 2 _ rfl
  have f3 : DataW.trod enc Try.prog w 0 spare held m' 3 ((cs.drop 3).take (Try.prog.cellsOf 3)) = xs[3]? := hx 3 _ rfl
  match cs, hc, xs, hxl with
  | [x0, x1, x2, x3], _, [y0, y1, y2, y3], _ =>
    simp only [cells_int, List.drop_zero, List.drop_succ_cons, List.take_succ_cons, List.take_zero, List.getElem?_cons_zero, List.getElem?_cons_succ] at f0 f1 f2 f3
    obtain ⟨v0, e0, _, g0⟩ := DataW.trod_int Try.underlying3 f0
    obtain ⟨v1, e1, _, g1⟩ := DataW.trod_int Try.underlying3 f1
    obtain ⟨v2, e2, _, g2⟩ := DataW.trod_int Try.underlying3 f2
    obtain ⟨v3, e3, _, g3⟩ := DataW.trod_int Try.underlying3 f3
    simp only [List.cons.injEq, and_true] at e0 e1 e2 e3
    subst e0 e1 e2 e3
    exact ⟨⟨v0, v1, v2, v3⟩, rfl, ⟨bounds_i64 g0, bounds_i64 g1, bounds_i64 g2, bounds_i64 g3⟩⟩
theorem cells_act : Try.prog.cellsOf 33 = 7 := by kernel_rfl
set_option maxRecDepth 100000 in
set_option maxHeartbeats 1000000 in
theorem is_acts {H : Type} {enc : TypeId × Value → H} {w : World} {spare : Nat → Bool} {held : Bool} {A : Option Addr} {n c : Nat} {d : DataW H} {ps : List MemPlace}
    (h : DataW.Trod enc Try.prog w 0 spare held 22 (.slice A n c) d ps) : ∃ f, IsActs w A n c f := by
  obtain ⟨fuel, hf⟩ := h
  rcases DataW.trod_slice Try.underlying22 hf with ⟨h0, _⟩ | ⟨a, len, cap, elems, rest, m, _, h0, _, _, hl, hm, hlen, hel, _, _⟩
  · simp [Value.cells] at h0
    obtain ⟨rfl, rfl, rfl⟩ := h0
    exact ⟨fun _ => ⟨0, 0, 0, ⟨0, 0, 0, 0⟩⟩, Nat.le_refl _, by omega, fun h => by omega, fun j hj => by omega⟩
  · simp [Value.cells] at h0
    obtain ⟨rfl, rfl, rfl⟩ := h0
    rw [cells_act] at hel
    have each : ∀ j, ∃ x : ActI, j < n → (w.cell? (a.add (j * 7)) = some (.int .i64 x.kind) ∧ w.cell? ((a.add (j * 7)).add 1) = some (.int .i64 x.s) ∧ w.cell? ((a.add (j * 7)).add 2) = some (.int .i64 x.level) ∧ w.cell? ((a.add (j * 7)).add 3) = some (.int .i64 x.o.kind) ∧ w.cell? ((a.add (j * 7)).add 4) = some (.int .i64 x.o.key) ∧ w.cell? ((a.add (j * 7)).add 5) = some (.int .i64 x.o.hi) ∧ w.cell? ((a.add (j * 7)).add 6) = some (.int .i64 x.o.val)) ∧ ActOk x := by
      intro j
      by_cases hj : j < n
      · have he := hel j hj
        rw [List.getElem?_eq_getElem (by omega), Option.bind_eq_some_iff] at he
        obtain ⟨cs, hcs, ht⟩ := he
        obtain ⟨_, hcl, hat⟩ := World.cells?_some hcs
        obtain ⟨xs, m', _, _, hl4, hxl, hx⟩ := DataW.trod_struct Try.underlying33 ht
        have f0 : DataW.trod enc Try.prog w 0 spare held m' 3 ((cs.drop 0).take (Try.prog.cellsOf 3)) = xs[0]? := hx 0 _ rfl
        have f1 : DataW.trod enc Try.prog w 0 spare held m' 3 ((cs.drop 1).take (Try.prog.cellsOf 3)) = xs[1]? := hx 1 _ rfl
        have f2 : DataW.trod enc Try.prog w 0 spare held m' 3 ((cs.drop 2).take (Try.prog.cellsOf 3)) = xs[2]? := hx 2 _ rfl
        have f3 : DataW.trod enc Try.prog w 0 spare held m' 31 ((cs.drop 3).take (Try.prog.cellsOf 31)) = xs[3]? := hx 3 _ rfl
        match cs, hcl, xs, hxl with
        | [x0, x1, x2, x3, x4, x5, x6], _, [y0, y1, y2, y3], _ =>
          simp only [cells_int, cells_cl, List.drop_zero, List.drop_succ_cons, List.take_succ_cons, List.take_zero, List.getElem?_cons_zero, List.getElem?_cons_succ] at f0 f1 f2 f3
          obtain ⟨v0, e0, _, g0⟩ := DataW.trod_int Try.underlying3 f0
          obtain ⟨v1, e1, _, g1⟩ := DataW.trod_int Try.underlying3 f1
          obtain ⟨v2, e2, _, g2⟩ := DataW.trod_int Try.underlying3 f2
          obtain ⟨o, eo, ok⟩ := trod_cl rfl f3
          simp only [List.cons.injEq, and_true] at e0 e1 e2 eo
          obtain ⟨rfl, rfl, rfl, rfl⟩ := eo
          subst e0 e1 e2
          refine ⟨⟨v0, v1, v2, o⟩, fun _ => ⟨⟨?_, hat 1 (by omega), hat 2 (by omega), hat 3 (by omega), hat 4 (by omega), hat 5 (by omega), hat 6 (by omega)⟩, ⟨bounds_i64 g0, bounds_i64 g1, bounds_i64 g2, ok⟩⟩⟩
          have := hat 0 (by omega)
          rwa [Addr.add_zero'] at this
      · exact ⟨⟨0, 0, 0, ⟨0, 0, 0, 0⟩⟩, fun h => absurd h hj⟩
    obtain ⟨f, hf⟩ := Classical.axiomOfChoice each
    refine ⟨f, hl, by unfold maxLen at hm; omega, fun hp => ?_, fun j hj => (hf j hj).2⟩
    obtain ⟨b, off, spot⟩ := a
    have hs0 := (hf 0 hp).1.1
    have hspot : spot = none := by simpa [Addr.add] using World.cell?_spot hs0
    subst hspot
    refine ⟨b, off, rfl, lt_of_cell (by simpa [Addr.add] using hs0), fun j hj => ?_⟩
    obtain ⟨⟨d0, d1, d2, d3, d4, d5, d6⟩, _⟩ := hf j hj
    have ad : ∀ i, (({ block := b, off := off, spot := none } : Addr).add (j * 7)).add i = ⟨b, off + j * 7 + i, none⟩ := fun i => by rw [add_plain, add_plain]
    rw [ad] at d1 d2 d3 d4 d5 d6
    rw [add_plain] at d0
    exact ⟨d0, d1, d2, d3, d4, d5, d6⟩
end Go.Proofs.Ytalkfnblnlcklaa
