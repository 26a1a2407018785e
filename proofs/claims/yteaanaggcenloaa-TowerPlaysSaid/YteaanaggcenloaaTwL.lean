/- Facts on a Tower's levels: they rise, each is a row of the one below, a look goes by no more keys than there are below its key. No dump; no condition. -/
import Derived.Test.YteaanaggcenloaaTwI
namespace Go.Proofs.Yteaanaggcenloaa
open Go.ChangeShapes Go.WideShapes Go.ChangeAt Go.RowKit
set_option linter.unusedVariables false
section
variable {th : Nat → Nat}
theorem lvl_rises (h : Int) : ∀ m, (lvl th h m).Pairwise (· < ·)
  | 0 => by simp [lvl]
  | m + 1 => by
    unfold lvl
    split
    · rw [List.pairwise_append]
      refine ⟨lvl_rises h m, by simp, fun a ha b hb => ?_⟩
      obtain ⟨k, h1, _, h3⟩ := (lvl_mem h m a).1 ha
      simp at hb
      omega
    · exact lvl_rises h m
theorem rises_at {l : List Int} (hl : l.Pairwise (· < ·)) {i j : Nat} (hij : i < j) (hj : j < l.length) : l.getD i 0 < l.getD j 0 := by
  have := (List.pairwise_iff_getElem.1 hl) i j (by omega) hj hij
  rw [List.getD_eq_getElem?_getD, List.getD_eq_getElem?_getD, List.getElem?_eq_getElem (by omega), List.getElem?_eq_getElem hj]
  exact this
theorem at_mem {l : List Int} {x : Int} (h : x ∈ l) : ∃ p, p < l.length ∧ l.getD p 0 = x := by
  obtain ⟨p, hp, e⟩ := List.getElem_of_mem h
  exact ⟨p, hp, by rw [List.getD_eq_getElem?_getD, List.getElem?_eq_getElem hp]; exact e⟩
theorem getD_in {l : List Int} {i : Nat} (h : i < l.length) : l.getD i 0 ∈ l := by
  rw [List.getD_eq_getElem?_getD, List.getElem?_eq_getElem h]
  exact List.getElem_mem h
theorem level_sub {h : Int} (h1 : 1 ≤ h) {x : Int} (hx : x ∈ levelT th (h + 1)) : h ≤ 3 ∧ x ∈ levelT th h := by
  unfold levelT at hx ⊢
  split at hx
  · rename_i hc
    rw [if_pos (by omega)]
    obtain ⟨k, a, b, c⟩ := (lvl_mem _ _ _).1 hx
    exact ⟨by omega, (lvl_mem _ _ _).2 ⟨k, a, by omega, c⟩⟩
  · simp at hx
theorem level_hgt {h : Int} {x : Int} (hx : x ∈ levelT th h) : h ≤ hgtT th x := by
  unfold levelT at hx
  split at hx
  · obtain ⟨k, a, b, c⟩ := (lvl_mem _ _ _).1 hx
    unfold hgtT
    rw [if_neg (by omega), c, show (k : Int).toNat = k by omega]
    exact b
  · simp at hx
theorem level_rises (h : Int) : (levelT th h).Pairwise (· < ·) := by
  unfold levelT
  split
  · exact lvl_rises h 64
  · simp
/-- How many keys there are below m, and below K. -/
def cb (th : Nat → Nat) (K : Nat) (m : Nat) : Nat := (rngT th 0 ((K : Int) - 1) m).length
theorem cb_succ (K m : Nat) : cb th K (m + 1) = if 0 < th m ∧ m < K then cb th K m + 1 else cb th K m := by
  unfold cb
  show (if 0 < th m ∧ (0 : Int) ≤ m ∧ (m : Int) ≤ (K : Int) - 1 then rngT th 0 ((K : Int) - 1) m ++ [(m : Int)] else rngT th 0 ((K : Int) - 1) m).length = _
  by_cases h : 0 < th m ∧ m < K
  · rw [if_pos h, if_pos ⟨h.1, by omega, by omega⟩, List.length_append]; rfl
  · rw [if_neg h, if_neg (fun h' => h ⟨h'.1, by omega⟩)]
theorem cb_mono (K : Nat) {m n : Nat} (h : m ≤ n) : cb th K m ≤ cb th K n := by
  induction n with
  | zero => rw [show m = 0 by omega]; exact Nat.le_refl _
  | succ n ih =>
    rw [cb_succ]
    by_cases e : m = n + 1
    · subst e; rw [cb_succ]; exact Nat.le_refl _
    · have := ih (by omega)
      split <;> omega
structure StpI (th : Nat → Nat) (K : Nat) (s : Int × Int) : Prop where
  lo : -1 ≤ s.2
  hi : s.2 < 64
  n0 : 0 ≤ s.1
  nb : s.1 ≤ cb th K (s.2 + 1).toNat
  z : s.1 = 0 ↔ s.2 = -1
theorem stpK_ok {K : Nat} {h : Int} (h1 : 1 ≤ h) {s : Int × Int} (I : StpI th K s) : ∀ m, m ≤ 64 → StpI th K (stpK th K h s m) ∧ s.2 ≤ (stpK th K h s m).2
  | 0, _ => ⟨I, Int.le_refl _⟩
  | m + 1, hm => by
    obtain ⟨ih, ih2⟩ := stpK_ok h1 I m (by omega)
    unfold stpK
    split
    · rename_i hc
      refine ⟨⟨by show -1 ≤ (m : Int); omega, by show (m : Int) < 64; omega, by have := ih.n0; show 0 ≤ _ + 1; omega, ?_, ?_⟩, by show _ ≤ (m : Int); omega⟩
      · show _ + 1 ≤ (cb th K ((m : Int) + 1).toNat : Int)
        have a := ih.nb
        have lo := ih.lo
        have b := cb_mono (th := th) K (m := ((stpK th K h s m).2 + 1).toNat) (n := m) (by omega)
        rw [show ((m : Int) + 1).toNat = m + 1 by omega, cb_succ, if_pos ⟨by omega, by omega⟩]
        omega
      · show _ + 1 = 0 ↔ (m : Int) = -1
        have := ih.n0
        omega
    · exact ⟨ih, ih2⟩
theorem stpK_all {K : Nat} {h : Int} (h1 : 1 ≤ h) {s : Int × Int} (I : StpI th K s) : ∀ m, m ≤ 64 → ∀ j : Nat, j < m → h ≤ th j → j < K → (j : Int) ≤ (stpK th K h s m).2
  | m + 1, hm, j, hj, ht, hk => by
    have lo := (stpK_ok h1 I m (by omega)).1.hi
    by_cases e : j = m
    · subst e
      unfold stpK
      split
      · exact Int.le_refl _
      · rename_i hc
        have : ¬ (stpK th K h s j).2 < j := fun h' => hc ⟨ht, by omega, h'⟩
        omega
    · have ih := stpK_all h1 I m (by omega) j (by omega) ht hk
      unfold stpK
      split
      · show (j : Int) ≤ (m : Int); omega
      · exact ih
theorem stp_start (K : Nat) : StpI th K (0, -1) := ⟨Int.le_refl _, by decide, Int.le_refl _, by show (0 : Int) ≤ _; omega, by simp⟩
theorem steps_ok (K : Nat) : 0 ≤ stepsT th K ∧ stepsT th K ≤ (cb th K 64 : Int) ∧ (stepsT th K = 0 ↔ cb th K 64 = 0) := by
  have I1 := (stpK_ok (K := K) (h := 4 - ((0 : Nat) : Int)) (by omega) (stp_start (th := th) K) 64 (Nat.le_refl _)).1
  have I2 := (stpK_ok (K := K) (h := 4 - ((1 : Nat) : Int)) (by omega) I1 64 (Nat.le_refl _)).1
  have I3 := (stpK_ok (K := K) (h := 4 - ((2 : Nat) : Int)) (by omega) I2 64 (Nat.le_refl _)).1
  have I4 := (stpK_ok (K := K) (h := 4 - ((3 : Nat) : Int)) (by omega) I3 64 (Nat.le_refl _)).1
  have A4 := stpK_all (K := K) (h := 4 - ((3 : Nat) : Int)) (by omega) I3 64 (Nat.le_refl _)
  have e : stepsT th K = (stpK th K (4 - ((3 : Nat) : Int)) (stpK th K (4 - ((2 : Nat) : Int)) (stpK th K (4 - ((1 : Nat) : Int)) (stpK th K (4 - ((0 : Nat) : Int)) (0, -1) 64) 64) 64) 64).1 := rfl
  rw [e]
  obtain ⟨r, er⟩ : ∃ r, (stpK th K (4 - ((3 : Nat) : Int)) (stpK th K (4 - ((2 : Nat) : Int)) (stpK th K (4 - ((1 : Nat) : Int)) (stpK th K (4 - ((0 : Nat) : Int)) (0, -1) 64) 64) 64) 64) = r := ⟨_, rfl⟩
  rw [er] at I4 A4 ⊢
  have mo := cb_mono (th := th) K (m := (r.2 + 1).toNat) (n := 64) (by have := I4.hi; omega)
  have nb := I4.nb
  have n0 := I4.n0
  refine ⟨n0, by omega, fun h => ?_, fun h => by omega⟩
  have hl := I4.z.1 h
  have none : ∀ m, m ≤ 64 → cb th K m = 0 := by
    intro m
    induction m with
    | zero => intro _; rfl
    | succ m ih =>
      intro hm
      rw [cb_succ, if_neg, ih (by omega)]
      rintro ⟨h1, h2⟩
      have := A4 m (by omega) (by omega) h2
      omega
  exact none 64 (Nat.le_refl _)
end
end Go.Proofs.Yteaanaggcenloaa
