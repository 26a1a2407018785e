/- slices.Index and slices.Contains of a list of words of the call's own: the first place of a word, or -1; whether it is there. Condition: the list has 100,000 elements at most. -/
import Derived.Test.YtmfpjnlplimkeaaGreatChAt
namespace Go.Proofs.YtmfpjnlplimkeaaGreat
open Go.ChangeShapes Go.WideShapes Go.ChangeAt Go.RowKit
set_option linter.unusedVariables false

theorem index_loop {B : Nat} {w : World} {v : Value} {l : List Int} (o : OwnU B w v l) (hl : l.length ≤ 100000) (x r : Int) (hr : (x ∉ l ∧ r = -1) ∨ ∃ i : Nat, FirstAt l x i ∧ r = i) :
    Calls Tryz.prog 37 #[v, .int .u64 x] w fun e w' => e = .returned (.int .i64 r) ∧ w = w' := by
  obtain ⟨A, c, rfl, hA0, hA1⟩ : ∃ A c, v = .slice A l.length c ∧ (A = none → l = []) ∧ ∀ ad, A = some ad → ∃ g, ad = ⟨g, 0, none⟩ := by
    rcases o.shape with ⟨h1, h2⟩ | ⟨g, c, h1, _⟩
    · exact ⟨none, 0, by rw [h1, h2]; rfl, fun _ => h2, fun ad h => by cases h⟩
    · exact ⟨_, c, h1, fun h => (by cases h), fun ad h => by cases h; exact ⟨g, rfl⟩⟩
  go_enter Tryz.func37, Tryz.ntmps37
  go_wp2
  go_loop [8] (fun q => ∃ j : Nat, j ≤ l.length ∧ q = .int .i64 j ∧ ∀ m, m < j → l.getD m 0 ≠ x) (fun q => l.length - (intOf q).toNat)
  case atStart => exact ⟨0, Nat.zero_le _, rfl, fun m hm => absurd hm (Nat.not_lt_zero m)⟩
  case round =>
    obtain ⟨j, hj, rfl, hno⟩ := hrel
    by_cases hlt : j < l.length
    · cases A with
      | none => rw [hA0 rfl] at hlt; exact absurd hlt (Nat.not_lt_zero j)
      | some ad =>
        obtain ⟨g, rfl⟩ := hA1 _ rfl
        have cj := OwnU.cell o j hlt
        obtain ⟨y, ey⟩ : ∃ y, l.getD j 0 = y := ⟨_, rfl⟩
        rw [ey] at cj
        have wk : IntKind.i64.wrap ((j : Int) + 1) = (j : Int) + 1 := IntWalk.i64_in _ (by omega)
        by_cases hy : x = y
        · subst hy
          have er : r = j := by
            rcases hr with ⟨h1, _⟩ | ⟨i, h1, h2⟩
            · exact absurd (by rw [← ey]; exact getD_mem hlt) h1
            · rcases Nat.lt_trichotomy i j with h | h | h
              · exact absurd h1.eq (hno i h)
              · rw [h2, h]
              · exact absurd ey (h1.no j h)
          subst er
          clear hr hno ey hA0 hA1
          go_wp2
          go_ret
          exact ⟨rfl, rfl⟩
        · have q0 : (x == y) = false := by simpa using hy
          have hno2 : ∀ m, m < j + 1 → l.getD m 0 ≠ x := fun m hm => by
            by_cases e : m = j
            · subst e; rw [ey]; exact fun z => hy z.symm
            · exact hno m (by omega)
          have HN := Lib.hid hno2
          clear hr hno ey hA0 hA1 hno2 hy
          go_wp2
          go_round
          case rel => exact ⟨j + 1, by omega, by go_num, HN.out⟩
          case measure => simp [intOf]; omega
    · obtain rfl : j = l.length := by omega
      have er : r = -1 := by
        rcases hr with ⟨_, h⟩ | ⟨i, h1, _⟩
        · exact h
        · exact absurd h1.eq (hno i h1.lt)
      subst er
      clear hr hno hA0 hA1
      go_wp2
      go_ret
      exact ⟨rfl, rfl⟩
theorem contains_no {B : Nat} {w : World} {v : Value} {l : List Int} (o : OwnU B w v l) (hl : l.length ≤ 100000) (x : Int) (h : x ∉ l) :
    Calls Tryz.prog 31 #[v, .int .u64 x] w fun e w' => e = .returned (.bool false) ∧ w = w' := by
  have hi := index_loop o hl x _ (.inl ⟨h, rfl⟩)
  go_enter Tryz.func31, Tryz.ntmps31
  go_wp2_with fail
  refine hi.mono ?_
  rintro e w' ⟨rfl, rfl⟩
  go_wp2
  go_ret
  exact ⟨rfl, rfl⟩
theorem contains_yes {B : Nat} {w : World} {v : Value} {l : List Int} (o : OwnU B w v l) (hl : l.length ≤ 100000) (x : Int) (h : x ∈ l) :
    Calls Tryz.prog 31 #[v, .int .u64 x] w fun e w' => e = .returned (.bool true) ∧ w = w' := by
  rcases first_or x l with h1 | ⟨i, h1⟩
  · exact absurd h h1
  have hi := index_loop o hl x _ (.inr ⟨i, h1, rfl⟩)
  clear h h1
  go_enter Tryz.func31, Tryz.ntmps31
  go_wp2_with fail
  refine hi.mono ?_
  rintro e w' ⟨rfl, rfl⟩
  go_wp2
  go_ret
  exact ⟨rfl, rfl⟩
end Go.Proofs.YtmfpjnlplimkeaaGreat
