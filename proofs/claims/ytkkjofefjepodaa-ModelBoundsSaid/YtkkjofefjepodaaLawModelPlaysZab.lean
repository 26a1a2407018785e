/- Several texts, one behind the other: Tk, Tk0. -/
import Derived.Test.YtkkjofefjepodaaLawModelPlaysZaa
import Derived.Deep.RegionHeld3
/- One step of a drawn region, shortly: an operation that may be taken first, or passed by. No dump; no condition. -/
namespace Go.Proofs.Ytkkjofefjepodaa
open Go.ChangeShapes Go.WideShapes Go.ChangeAt Go.RowKit
set_option linter.unusedVariables false
section
variable {P : Program} {md : Region.Mode} {ops : Array Oper} {Q : Exit → Act → World → Prop} {S : World → Prop}
theorem tk (i : Nat) {oi : Oper} {v : Value} {fuel : Nat} {listed : Array Bool} {a : Act} {w : World} (hy : ∀ w, S w → (execOp a.eval oi).run P w = .ok (.value v) w) (h : wpAnyH P md ops Q S fuel (listed.setIfInBounds i true) (a.put oi.dst v) w)
  (hi : ops[i]? = some oi := by rfl) (hs : Region.noSelect ops = true := by kernel_rfl) (hf : Region.free md ops listed i = true := by kernel_rfl) (hr : (Region.ready md ops listed).contains i = true := by kernel_rfl)
  (hw : Region.wanted oi (yielded ops a.tmps) = true := by rfl) (hQ : ∀ c a w, Q (.panic c) (a.put oi.dst v) w → Q (.panic c) a w := by exact fun _ _ _ h => h) (hS : S w := by assumption) : wpAnyH P md ops Q S (fuel + 1) listed a w :=
 wpAnyH_take hi hs hf hr hQ (.inl ⟨hw, hy⟩) hS h
end
end Go.Proofs.Ytkkjofefjepodaa
/- What a row of a drawn region is made plain by, under short names. No dump; no condition. -/
namespace Go.Proofs.Ytkkjofefjepodaa
universe u
theorem tA {α : Type u} {l : List α} {i : Nat} (h : i < l.toArray.size) : l.toArray[i] = l[i]'h := rfl
theorem tS {α : Type u} {a : α} {l : List α} {i : Nat} (h : i + 1 < (a :: l).length) : (a :: l)[i + 1] = l[i]'(Nat.lt_of_succ_lt_succ h) := rfl
theorem tZ {α : Type u} {a : α} {l : List α} (h : 0 < (a :: l).length) : (a :: l)[0] = a := rfl
theorem uS {α : Type u} {l : List α} {i : Nat} {a b : α} : (b :: l).set (i + 1) a = b :: l.set i a := rfl
theorem uZ {α : Type u} {l : List α} {a b : α} : (b :: l).set 0 a = a :: l := rfl
theorem uA {α : Type u} (l : List α) (i : Nat) (a : α) : l.toArray.setIfInBounds i a = (l.set i a).toArray := List.setIfInBounds_toArray l i a
end Go.Proofs.Ytkkjofefjepodaa
