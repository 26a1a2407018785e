/- A Table of the package and one of the document's own side by side: what each call leaves as it was; conditions: both in states that calls can bring about. -/
import Derived.Test.YtodmpmnjkfnogaaTabL
import Derived.Test.YtodmpmnjkfnogaaRefT2
import Derived.Test.YtodmpmnjkfnogaaRefT4
import Derived.Test.YtodmpmnjkfnogaaSameN
namespace Go.Proofs.Ytodmpmnjkfnogaa
open Go.ChangeShapes Go.WideShapes Go.ChangeAt Go.RowKit
set_option linter.unusedVariables false

structure BothT (W w : World) (p : Nat) (S : Nat → Prop) (st : TS) (pr : Nat) (v : Value) (sr : TS) : Prop where
  t : Tab W w p S st
  r : RT w pr v sr
  ok : TOk sr
  gF : ∀ k, FootT pr v k → W.heap.size ≤ k
  d : ∀ k, S k → ¬ FootT pr v k
section
variable {W w w' : World} {p : Nat} {S S' : Nat → Prop} {st st' : TS} {pr : Nat} {v v' : Value} {sr sr' : TS}
theorem BothT.tstep (h : BothT W w p S st pr v sr) (ht : Tab W w' p S' st') (k : TKeep S S' w w') : BothT W w' p S' st' pr v sr :=
  ⟨ht, h.r.keep k.1 (fun g hg x => h.d g x hg), h.ok, h.gF, fun x hx y => by rcases k.2 x hx with z | z; exact h.d x z y; have := h.r.foot_lt x y; omega⟩
theorem BothT.rstep (h : BothT W w p S st pr v sr) (ok : TOk sr') (hr : RT w' pr v' sr') (k : Keep (FootT pr v) w w') (g : ∀ k, v'.ownBlock = some k → v.ownBlock = some k ∨ w.heap.size ≤ k) : BothT W w' p S st pr v' sr' := by
  have bs := h.t.b.size
  have gf : ∀ x, FootT pr v' x → FootT pr v x ∨ w.heap.size ≤ x := fun x hx => by
    rcases hx with hx | hx
    · exact .inl (.inl hx)
    · rcases g x hx with y | y
      · exact .inl (.inr y)
      · exact .inr y
  exact ⟨⟨h.t.h.keep k (fun x hx => h.d x hx), h.t.ok, h.t.g, h.t.b.trans (k.below bs h.gF)⟩, hr, ok, fun x hx => by rcases gf x hx with y | y; exact h.gF x y; omega,
    fun x hx y => by rcases gf x y with z | z; exact h.d x hx z; have := h.t.h.lt x hx; omega⟩
theorem BothT.quiet (h : BothT W w p S st pr v sr) (k : Keep (fun _ => False) w w') : BothT W w' p S st pr v sr := ⟨h.t.quiet k, h.r.keep k (by simp), h.ok, h.gF, h.d⟩
/-- The two Tables, and one call of the script in a block of its own. -/
structure BothO (W w : World) (p : Nat) (S : Nat → Prop) (st : TS) (pr : Nat) (v : Value) (sr : TS) (ob : Nat) (id too at' : Int) : Prop where
  h : BothT W w p S st pr v sr
  o1 : w.cell? ⟨ob, 1, none⟩ = some (.int .i64 id)
  o2 : w.cell? ⟨ob, 2, none⟩ = some (.int .i64 too)
  o3 : w.cell? ⟨ob, 3, none⟩ = some (.int .u64 at')
  nS : ¬ S ob
  nF : ¬ FootT pr v ob
section
variable {ob : Nat} {id too at' : Int}
theorem BothO.lt (h : BothO W w p S st pr v sr ob id too at') : ob < w.heap.size := lt_of_cell (a := ⟨ob, 1, none⟩) h.o1
theorem BothO.tstep (h : BothO W w p S st pr v sr ob id too at') (ht : Tab W w' p S' st') (k : TKeep S S' w w') : BothO W w' p S' st' pr v sr ob id too at' :=
  ⟨h.h.tstep ht k, k.1.cell h.o1 h.nS, k.1.cell h.o2 h.nS, k.1.cell h.o3 h.nS, fun x => by rcases k.2 ob x with y | y; exact h.nS y; have := h.lt; omega, h.nF⟩
theorem BothO.rstep (h : BothO W w p S st pr v sr ob id too at') (ok : TOk sr') (hr : RT w' pr v' sr') (k : Keep (FootT pr v) w w') (g : ∀ k, v'.ownBlock = some k → v.ownBlock = some k ∨ w.heap.size ≤ k) : BothO W w' p S st pr v' sr' ob id too at' :=
  ⟨h.h.rstep ok hr k g, k.cell h.o1 h.nF, k.cell h.o2 h.nF, k.cell h.o3 h.nF, h.nS, fun x => by rcases x with x | x; exact h.nF (.inl x); rcases g ob x with y | y; exact h.nF (.inr y); have := h.lt; omega⟩
theorem BothO.quiet (h : BothO W w p S st pr v sr ob id too at') (k : Keep (fun _ => False) w w') : BothO W w' p S st pr v sr ob id too at' :=
  ⟨h.h.quiet k, k.cell h.o1 (by simp), k.cell h.o2 (by simp), k.cell h.o3 (by simp), h.nS, h.nF⟩
theorem ro_make (h : BothO W w p S st pr v sr ob id too at') (lv b : Int) (b0 : 0 ≤ b) (i e : Int) (s' : TS) (hs : sr.make lv b = (i, e, s')) :
    Calls Try.prog 17 #[.pointer (some ⟨pr, 0, none⟩), .int .i64 lv, .int .u64 b] w fun x w' => x = .returned (.tuple #[.int .i64 i, .int .i64 e]) ∧ ∃ v', BothO W w' p S st pr v' s' ob id too at' := by
  have ok := tOk_make h.h.ok lv b b0
  refine (rtmake_any h.h.r h.h.ok lv b b0).mono ?_
  rw [hs] at ok ⊢
  rintro x w1 ⟨rfl, v1, h1, k1, g1⟩
  exact ⟨rfl, v1, h.rstep ok h1 k1 g1⟩
theorem ro_turn (h : BothO W w p S st pr v sr ob id too at') (i t : Int) (i1 : i ≤ 9223372036854775807) (e : Int) (s' : TS) (hs : sr.turn i t = (e, s')) :
    Calls Try.prog 18 #[.pointer (some ⟨pr, 0, none⟩), .int .i64 i, .int .i64 t] w fun x w' => x = .returned (.int .i64 e) ∧ ∃ v', BothO W w' p S st pr v' s' ob id too at' := by
  have ok := tOk_turn h.h.ok i t
  refine (rturn_any h.h.r h.h.ok i t i1).mono ?_
  rw [hs] at ok ⊢
  rintro x w1 ⟨rfl, v1, h1, k1, g1⟩
  exact ⟨rfl, v1, h.rstep ok h1 k1 g1⟩
theorem ro_stop (h : BothO W w p S st pr v sr ob id too at') (i y : Int) (i1 : i ≤ 9223372036854775807) (y0 : 0 ≤ y) (e : Int) (s' : TS) (hs : sr.stop i y = (e, s')) :
    Calls Try.prog 19 #[.pointer (some ⟨pr, 0, none⟩), .int .i64 i, .int .u64 y] w fun x w' => x = .returned (.int .i64 e) ∧ ∃ v', BothO W w' p S st pr v' s' ob id too at' := by
  have ok := tOk_stop h.h.ok i y y0
  refine (rstop_any h.h.r h.h.ok i y i1 y0).mono ?_
  rw [hs] at ok ⊢
  rintro x w1 ⟨rfl, v1, h1, k1, g1⟩
  exact ⟨rfl, v1, h.rstep ok h1 k1 g1⟩
/-- .. and a transaction in a block of its own. -/
structure BothX (W w : World) (p : Nat) (S : Nat → Prop) (st : TS) (pr : Nat) (v : Value) (sr : TS) (ob : Nat) (id too at' : Int) (bx : Nat) (tx : Tx) : Prop where
  h : BothO W w p S st pr v sr ob id too at'
  x0 : w.cell? ⟨bx, 0, none⟩ = some (.int .i64 tx.lv)
  x1 : w.cell? ⟨bx, 1, none⟩ = some (.int .i64 tx.st)
  x2 : w.cell? ⟨bx, 2, none⟩ = some (.int .u64 tx.b)
  x3 : w.cell? ⟨bx, 3, none⟩ = some (.int .u64 tx.e)
  nx : ¬ S bx
theorem BothX.tstep {bx : Nat} {tx : Tx} (h : BothX W w p S st pr v sr ob id too at' bx tx) (ht : Tab W w' p S' st') (k : TKeep S S' w w') : BothX W w' p S' st' pr v sr ob id too at' bx tx :=
  ⟨h.h.tstep ht k, k.1.cell h.x0 h.nx, k.1.cell h.x1 h.nx, k.1.cell h.x2 h.nx, k.1.cell h.x3 h.nx, fun x => by rcases k.2 bx x with y | y; exact h.nx y; have := lt_of_cell (a := ⟨bx, 0, none⟩) h.x0; exact absurd this (Nat.not_lt.2 y)⟩
theorem BothX.quiet {bx : Nat} {tx : Tx} (h : BothX W w p S st pr v sr ob id too at' bx tx) (k : Keep (fun _ => False) w w') : BothX W w' p S st pr v sr ob id too at' bx tx :=
  ⟨h.h.quiet k, k.cell h.x0 (by simp), k.cell h.x1 (by simp), k.cell h.x2 (by simp), k.cell h.x3 (by simp), h.nx⟩
theorem BothX.start (h : BothO W w p S st pr v sr ob id too at') (tx : Tx) : BothX W (w.alloc (txO tx)) p S st pr v sr ob id too at' w.heap.size tx :=
  ⟨h.quiet (Keep.alloc (Keep.refl (fun _ => False) _) _), by simp, by simp, by simp, by simp, fun x => absurd (h.h.t.h.lt _ x) (Nat.lt_irrefl _)⟩
end
end
end Go.Proofs.Ytodmpmnjkfnogaa
