/- A Tower in plain lists: each key's height (0: it is not there), its levels, ranges, the next key, how many a look goes by. No dump; no condition. -/
import Derived.Test.YtopnhkogapidhaaKeep
namespace Go.Proofs.Ytopnhkogapidhaa
open Go.ChangeShapes Go.WideShapes Go.ChangeAt Go.RowKit
set_option linter.unusedVariables false

def putT (th : Nat → Nat) (key height : Int) : Bool × Int × (Nat → Nat) :=
  if key < 0 ∨ 63 < key ∨ height < 1 ∨ 4 < height then (false, 1, th) else if 0 < th key.toNat then (false, 0, th) else (true, 0, fun j => if j = key.toNat then height.toNat else th j)
def hgtT (th : Nat → Nat) (key : Int) : Int := if key < 0 ∨ 63 < key then 0 else (th key.toNat : Int)
def dropT (th : Nat → Nat) (key : Int) : Bool × (Nat → Nat) := if 0 < hgtT th key then (true, fun j => if j = key.toNat then 0 else th j) else (false, th)
/-- The keys below m of at least this height, rising. -/
def lvl (th : Nat → Nat) (h : Int) : Nat → List Int
  | 0 => []
  | m + 1 => if h ≤ th m then lvl th h m ++ [(m : Int)] else lvl th h m
def levelT (th : Nat → Nat) (h : Int) : List Int := if 1 ≤ h ∧ h ≤ 4 then lvl th h 64 else []
/-- The keys below m that are there, from lo to hi, rising. -/
def rngT (th : Nat → Nat) (lo hi : Int) : Nat → List Int
  | 0 => []
  | m + 1 => if 0 < th m ∧ lo ≤ m ∧ (m : Int) ≤ hi then rngT th lo hi m ++ [(m : Int)] else rngT th lo hi m
/-- How many keys of one level a look goes by, and the last of them. -/
def stpK (th : Nat → Nat) (key h : Int) (s : Int × Int) : Nat → Int × Int
  | 0 => s
  | m + 1 => if h ≤ th m ∧ (m : Int) < key ∧ (stpK th key h s m).2 < m then ((stpK th key h s m).1 + 1, (m : Int)) else stpK th key h s m
def stpH (th : Nat → Nat) (key : Int) : Nat → Int × Int
  | 0 => (0, -1)
  | i + 1 => stpK th key (4 - (i : Int)) (stpH th key i) 64
def stepsT (th : Nat → Nat) (key : Int) : Int := (stpH th key 4).1
/-- The next key from key on. -/
structure NextT (th : Nat → Nat) (key : Int) (k : Nat) : Prop where
  lt : k < 64
  here : 0 < th k
  le : key ≤ k
  no : ∀ j, j < k → key ≤ j → th j = 0
theorem next_or (th : Nat → Nat) (key : Int) : (∀ j : Nat, j < 64 → key ≤ j → th j = 0) ∨ ∃ k, NextT th key k := by
  have : ∀ m : Nat, m ≤ 64 → (∀ j : Nat, j < m → key ≤ j → th j = 0) ∨ ∃ k, NextT th key k := by
    intro m
    induction m with
    | zero => intro _; exact .inl (fun j hj => absurd hj (Nat.not_lt_zero j))
    | succ m ih =>
      intro hm
      rcases ih (by omega) with h | h
      · by_cases hk : key ≤ m ∧ 0 < th m
        · exact .inr ⟨m, by omega, hk.2, hk.1, h⟩
        · refine .inl fun j hj hkj => ?_
          by_cases e : j = m
          · subst e; omega
          · exact h j (by omega) hkj
      · exact .inr h
  exact this 64 (Nat.le_refl _)
section
variable {th : Nat → Nat}
theorem lvl_len (h : Int) : ∀ m, (lvl th h m).length ≤ m
  | 0 => by simp [lvl]
  | m + 1 => by
    have := lvl_len h m
    unfold lvl
    split
    · simp; omega
    · omega
theorem level_len (h : Int) : (levelT th h).length ≤ 64 := by
  unfold levelT
  split
  · exact lvl_len h 64
  · simp
theorem rng_len (lo hi : Int) : ∀ m, (rngT th lo hi m).length ≤ m
  | 0 => by simp [rngT]
  | m + 1 => by
    have := rng_len lo hi m
    unfold rngT
    split
    · simp; omega
    · omega
theorem lvl_mem (h : Int) : ∀ m (x : Int), x ∈ lvl th h m ↔ ∃ k : Nat, k < m ∧ h ≤ th k ∧ x = (k : Int)
  | 0, x => by simp [lvl]
  | m + 1, x => by
    unfold lvl
    split
    · rename_i hb
      rw [List.mem_append, lvl_mem h m, List.mem_singleton]
      constructor
      · rintro (⟨k, h1, h2, h3⟩ | rfl)
        · exact ⟨k, by omega, h2, h3⟩
        · exact ⟨m, by omega, hb, rfl⟩
      · rintro ⟨k, h1, h2, h3⟩
        by_cases e : k = m
        · subst e; exact .inr h3
        · exact .inl ⟨k, by omega, h2, h3⟩
    · rename_i hb
      rw [lvl_mem h m]
      constructor
      · rintro ⟨k, h1, h2, h3⟩; exact ⟨k, by omega, h2, h3⟩
      · rintro ⟨k, h1, h2, h3⟩
        by_cases e : k = m
        · subst e; exact absurd h2 hb
        · exact ⟨k, by omega, h2, h3⟩
theorem lvl_same {th' : Nat → Nat} (h : Int) : ∀ m, (∀ j, j < m → th j = th' j) → lvl th h m = lvl th' h m
  | 0, _ => rfl
  | m + 1, e => by
    unfold lvl
    rw [e m (by omega), lvl_same h m (fun j hj => e j (by omega))]
theorem rng_same {th' : Nat → Nat} (lo hi : Int) : ∀ m, (∀ j, j < m → th j = th' j) → rngT th lo hi m = rngT th' lo hi m
  | 0, _ => rfl
  | m + 1, e => by
    unfold rngT
    rw [e m (by omega), rng_same lo hi m (fun j hj => e j (by omega))]
end
end Go.Proofs.Ytopnhkogapidhaa
