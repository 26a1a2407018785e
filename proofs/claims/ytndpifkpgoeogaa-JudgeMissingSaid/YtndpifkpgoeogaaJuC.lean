/- What the contracts of package judge speak of: function values that tell what is there now, over a set of reads; two sets since one world. No condition. -/
import Derived.Test.YtndpifkpgoeogaaJuI
import Derived.Test.YtndpifkpgoeogaaRdD
namespace Go.Proofs.Ytndpifkpgoeogaa
open Go.ChangeShapes Go.WideShapes Go.ChangeAt Go.RowKit
set_option linter.unusedVariables false

/-- What holds of the world beside the set of reads, whose blocks are S: a call of the set leaves it so. -/
def StayJ (W : World) (t : Nat) (s : RdS) (Q : World → (Nat → Prop) → Prop) : Prop := ∀ {w w' : World} {S S' : Nat → Prop}, Rd W w t S s → Q w S → Rd W w' t S' s → VKeep S S' w w' → Q w' S'
/-- A function value that tells N of each key. -/
structure IsNow (fv : Value) (W : World) (t : Nat) (s : RdS) (Q : World → (Nat → Prop) → Prop) (N : Int → Int) : Prop where
  form : (fv = .nilFunc ∧ ∀ k, N k = 0) ∨ ∃ f caps, fv = .func (.func f) #[] caps ∧ (∀ (a : Array Value) (w : World), (callFunc f a).run Try.prog w = .ok (.enter f a) w) ∧ ∀ (k : Int) (w : World) (S : Nat → Prop), 0 ≤ k → k ≤ 63 → Rd W w t S s → Q w S → Calls Try.prog f (#[.int .i64 k] ++ caps) w fun e w' => e = .returned (.int .u64 (N k)) ∧ ∃ S', Rd W w' t S' s ∧ VKeep S S' w w'
  u64 : ∀ k, 0 ≤ k → k ≤ 63 → U64 (N k)
/-- A function value that tells SP of each range. -/
structure IsSpn (fv : Value) (W : World) (t : Nat) (s : RdS) (Q : World → (Nat → Prop) → Prop) (SP : Int → Int → List Int) : Prop where
  form : (fv = .nilFunc ∧ ∀ a b, SP a b = []) ∨ ∃ f caps, fv = .func (.func f) #[] caps ∧ (∀ (a : Array Value) (w : World), (callFunc f a).run Try.prog w = .ok (.enter f a) w) ∧ ∀ (lo hi : Int) (w : World) (S : Nat → Prop), 0 ≤ lo → lo ≤ hi → hi ≤ 63 → Rd W w t S s → Q w S → Calls Try.prog f (#[.int .i64 lo, .int .i64 hi] ++ caps) w fun e w' => ∃ v S', e = .returned v ∧ Lies w' v (SP lo hi) ∧ Rd W w' t S' s ∧ VKeep S S' w w'
  len : ∀ a b, (SP a b).length ≤ 100000
section
variable {W w w' : World} {t : Nat} {S S' T : Nat → Prop} {s s' : RdS} {Q : World → (Nat → Prop) → Prop} {N : Int → Int} {SP : Int → Int → List Int} {fv gv : Value}
/-- Two sets since one world: what a call of the one leaves of the other. -/
theorem rd_beside {t1 t2 : Nat} {S1 S1' S2 : Nat → Prop} {s1 s1' s2 : RdS} (h1 : Rd W w t1 S1 s1) (h2 : Rd W w t2 S2 s2) (d : ∀ g, S1 g → ¬ S2 g) (h1' : Rd W w' t1 S1' s1') (k : VKeep S1 S1' w w') : Rd W w' t2 S2 s2 ∧ ∀ g, S1' g → ¬ S2 g :=
  ⟨h2.own k.1 (fun g hg => ⟨d g hg, h1.g g hg⟩), fun g hg h => by
    rcases k.2 g hg with y | y
    · exact d g y h
    · have := h2.lt g h; omega⟩
theorem now_nil : IsNow .nilFunc W t s Q (fun _ => 0) := ⟨.inl ⟨rfl, fun _ => rfl⟩, fun _ _ _ => ⟨by omega, by omega⟩⟩
theorem spn_nil : IsSpn .nilFunc W t s Q (fun _ _ => []) := ⟨.inl ⟨rfl, fun _ _ => rfl⟩, fun _ _ => Nat.zero_le _⟩
end
end Go.Proofs.Ytndpifkpgoeogaa
