/- For layer 10's laws: the keys of a set in a row; a block of 64 bools of the law's own; an Index beside it. No condition but those of the Index. -/
import Derived.Test.YtmfpjnlplimkeaaHsD
import Derived.Test.YtmfpjnlplimkeaaGrid
namespace Go.Proofs.Ytmfpjnlplimkeaa
open Go.ChangeShapes Go.WideShapes Go.ChangeAt Go.RowKit
set_option linter.unusedVariables false

/-- The keys below m whose bit is set, rising. -/
def bset (bit : Nat → Bool) : Nat → List Nat
  | 0 => []
  | m + 1 => if bit m = true then bset bit m ++ [m] else bset bit m
theorem bset_mem {bit : Nat → Bool} : ∀ m k, k ∈ bset bit m ↔ k < m ∧ bit k = true
  | 0, k => by simp [bset]
  | m + 1, k => by
    unfold bset
    split
    · rename_i hb
      rw [List.mem_append, bset_mem m k, List.mem_singleton]
      constructor
      · rintro (⟨h1, h2⟩ | rfl)
        · exact ⟨by omega, h2⟩
        · exact ⟨by omega, hb⟩
      · rintro ⟨h1, h2⟩
        by_cases e : k = m
        · exact .inr e
        · exact .inl ⟨by omega, h2⟩
    · rename_i hb
      rw [bset_mem m k]
      constructor
      · rintro ⟨h1, h2⟩; exact ⟨by omega, h2⟩
      · rintro ⟨h1, h2⟩
        by_cases e : k = m
        · subst e; exact absurd h2 hb
        · exact ⟨by omega, h2⟩
section
variable {W w w' : World} {x p n Bk : Nat} {S S' : Nat → Prop} {s s' : RS} {h h' : HS} {D D' : Nat → Nat → Prop} {k k' : Nat} {f f' : Nat → Bool}
/-- An Index, and a block of bools of the law's own. -/
structure HsB (W w : World) (x p n : Nat) (S : Nat → Prop) (s : RS) (h : HS) (D : Nat → Nat → Prop) (k : Nat) (Bk : Nat) (f : Nat → Bool) : Prop where
  r : Hsh W w x p n S s h D k
  bt : Bits64 w Bk f
  nS : ¬ S Bk
  ge : W.heap.size ≤ Bk
theorem HsB.step (b : HsB W w x p n S s h D k Bk f) (hr : Hsh W w' x p n S' s' h' D' k') (kk : VKeep S S' w w') : HsB W w' x p n S' s' h' D' k' Bk f :=
  ⟨hr, b.bt.keep kk.1 b.nS, fun y => by rcases kk.2 _ y with z | z; exact b.nS z; have := b.bt.lt; omega, b.ge⟩
theorem HsB.quiet (b : HsB W w x p n S s h D k Bk f) (kk : Keep (fun _ => False) w w') : HsB W w' x p n S s h D k Bk f := ⟨b.r.quiet kk, b.bt.keep kk (by simp), b.nS, b.ge⟩
theorem HsB.set (b : HsB W w x p n S s h D k Bk f) (i : Nat) (hi : i < 64) (y : Bool) (e : ∀ j, (if j = i then y else f j) = f' j) : HsB W (w.setCell ⟨Bk, i, none⟩ (.bool y)) x p n S s h D k Bk f' := by
  have := b.bt.set i hi y
  rw [show (fun j => if j = i then y else f j) = f' from funext e] at this
  exact ⟨b.r.own (keep_one w ⟨Bk, i, none⟩ (.bool y)) (fun g hg => by have hg : g = Bk := hg; subst hg; exact ⟨b.nS, b.ge⟩), this, b.nS, b.ge⟩
theorem HsB.up (b : HsB W w x p n S s h D k Bk f) {m : Nat} (hk : k ≤ m) : HsB W w x p n S s h D m Bk f := ⟨b.r.up hk, b.bt, b.nS, b.ge⟩
end
end Go.Proofs.Ytmfpjnlplimkeaa
