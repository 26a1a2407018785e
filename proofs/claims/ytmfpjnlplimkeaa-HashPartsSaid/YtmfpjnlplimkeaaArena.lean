/- Contracts of package arena, but for Words and Copy: what New, access, Load, Store, CAS, Add, Count and Len return and what becomes of the Arena; conditions: the Arena is one that New made, each number fits its kind. -/
import Derived.Test.YtmfpjnlplimkeaaKeep
import Derived.WalkKit
import Derived.ProofKit
import Derived.OpenShut
import Derived.WalkLawsBesides
import Derived.Below
import Derived.Laws.LoneSync
import Derived.Lib.Hide
namespace Go.Proofs.Ytmfpjnlplimkeaa
open Go.ChangeShapes Go.WideShapes Go.ChangeAt Go.RowKit
set_option linter.unusedVariables false

/-- An Arena at block p: its words zs in block q, its count c. -/
structure Ar (w : World) (p q : Nat) (zs : List Int) (c : Int) : Prop where
  sl : w.cell? ⟨p, 0, none⟩ = some (.slice (some ⟨q, 0, none⟩) zs.length zs.length)
  cn : w.cell? ⟨p, 1, none⟩ = some (.int .i64 c)
  fc : ∀ i, w.frozen? ⟨p, i, none⟩ = false
  ws : RowU w q zs
  ne : p ≠ q
  len : zs.length ≤ 100000
  all : AllU zs
def Two (p q : Nat) (k : Nat) : Prop := k = p ∨ k = q
theorem two_ge {B p q : Nat} (hp : B ≤ p) (hq : B ≤ q) : ∀ k, Two p q k → B ≤ k := fun k h => by rcases h with h | h <;> omega

theorem Ar.keep {S : Nat → Prop} {w w' : World} {p q : Nat} {zs : List Int} {c : Int} (h : Ar w p q zs c) (k : Keep S w w') (hp : ¬ S p) (hq : ¬ S q) : Ar w' p q zs c :=
  ⟨k.cell h.sl hp, k.cell h.cn hp, fun i => (k.frozen (a := ⟨p, i, none⟩) (lt_of_cell (a := ⟨p, 0, none⟩) h.sl) hp).trans (h.fc i), h.ws.keep k hq, h.ne, h.len, h.all⟩
theorem Ar.lt {w : World} {p q : Nat} {zs : List Int} {c : Int} (h : Ar w p q zs c) : p < w.heap.size := lt_of_cell h.sl
theorem Ar.count {w : World} {p q : Nat} {zs : List Int} {c : Int} (h : Ar w p q zs c) (d : Int) : Ar (w.setCell ⟨p, 1, none⟩ (.int .i64 d)) p q zs d := by
  have hq : (⟨q, 0, none⟩ : Addr).block ≠ p := fun e => h.ne e.symm
  refine ⟨?_, World.cell?_setCell_same _ _ _ h.cn, fun i => ?_, ⟨fun i hi => ?_, fun i => ?_, by simpa [World.setCell] using h.ws.lt⟩, h.ne, h.len, h.all⟩
  · rw [World.cell?_setCell_other _ _ _ _ (by simp)]; exact h.sl
  · simpa using h.fc i
  · rw [World.cell?_setCell_other _ _ _ _ (by simp; intro e; exact absurd e h.ne)]; exact h.ws.cell i hi
  · simpa using h.ws.free i
theorem Ar.set {w : World} {p q : Nat} {zs : List Int} {c : Int} (h : Ar w p q zs c) (i : Nat) (hi : i < zs.length) {x : Int} (h0 : 0 ≤ x) (h1 : x ≤ 18446744073709551615) : Ar (w.setCell ⟨q, i, none⟩ (.int .u64 x)) p q (zs.set i x) c := by
  refine ⟨?_, ?_, fun i => by simpa using h.fc i, h.ws.set i hi x, h.ne, by simpa using h.len, h.all.set i h0 h1⟩
  · rw [World.cell?_setCell_other _ _ _ _ (by simp; intro e; exact absurd e.symm h.ne), List.length_set]; exact h.sl
  · rw [World.cell?_setCell_other _ _ _ _ (by simp; intro e; exact absurd e.symm h.ne)]; exact h.cn

/-- The sum of 64 bits. -/
def addU (x y : Int) : Int := (x + y) % 18446744073709551616
theorem addU_b (x y : Int) : 0 ≤ addU x y ∧ addU x y ≤ 18446744073709551615 := by unfold addU; omega
theorem wrapU (x y : Int) : IntKind.u64.wrap (x + y) = addU x y := by rw [IntKind.wrap_u64]; rfl