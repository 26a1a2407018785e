/- Towers whose keys are those of a set, with heights out of a word: what is put, what is dropped; two Towers side by side. No condition. -/
import Derived.Test.YteaanaggcenloaaTwD
import Derived.Test.YteaanaggcenloaaMask
namespace Go.Proofs.Yteaanaggcenloaa
open Go.ChangeShapes Go.WideShapes Go.ChangeAt Go.RowKit
set_option linter.unusedVariables false

def hgB (B k : Nat) : Nat := B / 2 ^ k % 4 + 1
/-- Of the keys of word A those in P, with heights out of word B. -/
def SB (A B : Nat) (P : Nat → Bool) : Nat → Nat := fun j => if P j = true ∧ j < 64 ∧ A.testBit j = true then hgB B j else 0
def plus (P : Nat → Bool) (k : Nat) : Nat → Bool := fun j => P j || decide (j = k)
def minus (P : Nat → Bool) (k : Nat) : Nat → Bool := fun j => P j && !decide (j = k)
def below (k : Nat) : Nat → Bool := fun j => decide (j < k)
section
variable {A B : Nat} {P Q : Nat → Bool} {k : Nat}
theorem hgB_b (B k : Nat) : 1 ≤ hgB B k ∧ hgB B k ≤ 4 := by unfold hgB; omega
theorem SB_same (h : ∀ j, j < 64 → A.testBit j = true → P j = Q j) : SB A B P = SB A B Q := funext fun j => by
  unfold SB
  by_cases h1 : j < 64 ∧ A.testBit j = true
  · rw [h j h1.1 h1.2]
  · rw [if_neg (fun h' => h1 h'.2), if_neg (fun h' => h1 h'.2)]
theorem SB_none : SB A B (fun _ => false) = fun _ => 0 := funext fun j => by unfold SB; rw [if_neg (by simp)]
theorem SB_at (hk : k < 64) (hb : A.testBit k = true) (hp : P k = true) : SB A B P k = hgB B k := by unfold SB; rw [if_pos ⟨hp, hk, hb⟩]
theorem SB_no (h : P k = false) : SB A B P k = 0 := by unfold SB; rw [if_neg (by simp [h])]
theorem SB_put (hk : k < 64) (hb : A.testBit k = true) : putT (SB A B P) k (hgB B k) = (!P k, 0, SB A B (plus P k)) := by
  have h := hgB_b B k
  have tk : (k : Int).toNat = k := by omega
  unfold putT
  rw [if_neg (by omega), tk, show (hgB B k : Int).toNat = hgB B k by omega]
  cases hp : P k with
  | true =>
    rw [if_pos (by rw [SB_at hk hb hp]; omega)]
    have : SB A B P = SB A B (plus P k) := SB_same fun j _ _ => by
      unfold plus
      by_cases e : j = k
      · subst e; simp [hp]
      · simp [e]
    rw [← this]
    rfl
  | false =>
    rw [if_neg (by rw [SB_no hp]; omega)]
    have : (fun j => if j = k then hgB B k else SB A B P j) = SB A B (plus P k) := funext fun j => by
      by_cases e : j = k
      · subst e; rw [if_pos rfl, SB_at hk hb (by simp [plus])]
      · rw [if_neg e]
        unfold SB plus
        simp [e]
    rw [this]
    rfl
theorem SB_skip (hb : A.testBit k = false) : SB A B P = SB A B (plus P k) := SB_same fun j _ h => by
  unfold plus
  by_cases e : j = k
  · subst e; rw [hb] at h; cases h
  · simp [e]
theorem SB_drop (hk : k < 64) (hb : A.testBit k = true) (hp : P k = true) : dropT (SB A B P) k = (true, SB A B (minus P k)) := by
  have h := hgB_b B k
  have tk : (k : Int).toNat = k := by omega
  have eh : hgtT (SB A B P) k = (hgB B k : Int) := by unfold hgtT; rw [if_neg (by omega), tk, SB_at hk hb hp]
  unfold dropT
  rw [eh, if_pos (by omega), tk]
  have : (fun j => if j = k then 0 else SB A B P j) = SB A B (minus P k) := funext fun j => by
    by_cases e : j = k
    · subst e; rw [if_pos rfl, SB_no (by simp [minus])]
    · rw [if_neg e]
      unfold SB minus
      simp [e]
  rw [this]
theorem hgt_nat (th : Nat → Nat) (hk : k < 64) : hgtT th k = (th k : Int) := by unfold hgtT; rw [if_neg (by omega), show (k : Int).toNat = k by omega]
end
/-- Two Towers, each in blocks of its own. -/
structure TT (W w : World) (a : Nat) (SA : Nat → Prop) (tha : Nat → Nat) (b : Nat) (S2 : Nat → Prop) (thb : Nat → Nat) : Prop where
  ra : Twr W w a SA tha
  rb : Twr W w b S2 thb
  d : ∀ g, SA g → ¬ S2 g
section
variable {W w w' : World} {a b : Nat} {SA SA' S2 : Nat → Prop} {tha tha' thb : Nat → Nat}
theorem TT.swap (h : TT W w a SA tha b S2 thb) : TT W w b S2 thb a SA tha := ⟨h.rb, h.ra, fun g h1 h2 => h.d g h2 h1⟩
theorem TT.step (h : TT W w a SA tha b S2 thb) (hr : Twr W w' a SA' tha') (kk : VKeep SA SA' w w') : TT W w' a SA' tha' b S2 thb :=
  ⟨hr, h.rb.own kk.1 (fun g hg => ⟨h.d g hg, h.ra.g g hg⟩), fun g hg hb => by
    rcases kk.2 g hg with y | y
    · exact h.d g y hb
    · have := h.rb.lt g hb; omega⟩
theorem TT.quiet (h : TT W w a SA tha b S2 thb) (kk : Keep (fun _ => False) w w') : TT W w' a SA tha b S2 thb := ⟨h.ra.quiet kk, h.rb.quiet kk, h.d⟩
end
end Go.Proofs.Yteaanaggcenloaa
