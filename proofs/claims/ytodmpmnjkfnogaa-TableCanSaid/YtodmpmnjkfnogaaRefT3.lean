/- Contracts of the document's own answer for layer 5: Live, Oldest, Make; conditions: the Table is one that calls have made of an empty one. -/
import Derived.Test.YtodmpmnjkfnogaaRefT
import Derived.Test.YtodmpmnjkfnogaaPushN
namespace Go.Proofs.Ytodmpmnjkfnogaa
open Go.ChangeShapes Go.WideShapes Go.ChangeAt Go.RowKit
set_option linter.unusedVariables false

section
variable {w w' : World} {p : Nat} {v : Value} {s : TS}
def ListPost (zs : List Int) (w : World) (e : Ending) (w' : World) : Prop := ∃ v, e = .returned v ∧ OwnN w.heap.size w' v zs ∧ Below w.heap.size w w'
def LRel (s : TS) (w : World) (k : Nat) (u i : Value) (wr : World) : Prop := k ≤ s.l.length ∧ i = .int .i64 k ∧ OwnN w.heap.size wr u (s.liveTo k) ∧ Below w.heap.size w wr
set_option maxRecDepth 100000 in
theorem rtlive_any (h : RT w p v s) (ok : TOk s) : Calls Try.prog 21 #[.pointer (some ⟨p, 0, none⟩)] w (ListPost s.live w) := by
  have n1 := ok.n1
  go_enter Try.func21, Try.ntmps21
  go_wp2
  go_loopw [3, 4] (fun u i wr => ∃ k : Nat, LRel s w k u i wr) (fun _ i _ => s.l.length - (intOf i).toNat)
  case atStart => exact ⟨0, Nat.zero_le _, rfl, World.ownsRow_nil _ _ _ _, Below.refl _ _⟩
  case round =>
    obtain ⟨k, hk, rfl, ow, br⟩ := hrel
    have hr := h.keep (Keep.of_below br (fun _ => False)) (by simp)
    have g1 := hr.c1
    by_cases hlt : k < s.l.length
    · rcases hr.form with ⟨_, z⟩ | ⟨g, c, rfl, _⟩
      · rw [z] at hlt; simp at hlt
      · obtain ⟨_, k1, _, _⟩ := hr.cells k hlt
        clear h
        have wr1 : IntKind.i64.wrap ((k : Int) + 1) = (k : Int) + 1 := IntWalk.i64_in _ (by omega)
        by_cases hl : (s.tx k).lives = true
        · have es : s.liveTo (k + 1) = s.liveTo k ++ [(k : Int) + 1] := by show (if _ then _ else _) = _; rw [if_pos hl]
          have ES := Lib.hid es
          have ll := liveTo_len s k
          clear es
          rcases (by simpa [Tx.lives] using hl : (s.tx k).st = 1 ∨ (s.tx k).st = 2) with h1 | h1
          all_goals
            rw [h1] at k1
            clear hl h1
            go_wp2_with (with_reducible refine wp_stop 38 rfl ?_)
            intro _
            refine wp_pushN rfl (.tmp 34) (.tmp 37) rfl w.heap.size br.size u3 (s.liveTo k) rfl ow ((k : Int) + 1) rfl (by omega) ?_
            intro g2 c2 w3 o3 k3 hg
            have b3 := br.trans (k3.below br.size (fun x hx => (ow.lt hx).1))
            rw [← ES.out] at o3
            have el : (s.liveTo k).length + 1 = (s.liveTo (k + 1)).length := by rw [ES.out]; simp
            rw [el] at o3 ⊢
            clear ow k3 hg br
            go_wp2
            go_roundw
            case rel => exact ⟨k + 1, by omega, by go_num, o3, b3⟩
            case measure => simp [intOf]; omega
        · have es : s.liveTo (k + 1) = s.liveTo k := by show (if _ then _ else _) = _; rw [if_neg hl]
          have ES := Lib.hid es
          clear es
          have h1 : ¬ ((s.tx k).st = 1) ∧ ¬ ((s.tx k).st = 2) := by simpa [Tx.lives] using hl
          have q1 : ((s.tx k).st == 1) = false := by simpa using h1.1
          have q2 : ((s.tx k).st == 2) = false := by simpa using h1.2
          clear hl h1
          go_wp2
          go_roundw
          case rel => exact ⟨k + 1, by omega, by go_num, by rw [ES.out]; exact ow, br⟩
          case measure => simp [intOf]; omega
    · obtain rfl : k = s.l.length := by omega
      rcases hr.form with ⟨rfl, z⟩ | ⟨g, c, rfl, _⟩
      · have z0 : s.l.length = 0 := by rw [z]; rfl
        have Z0 := Lib.hid z0
        rw [z0] at ow ⊢
        clear z0 z hk hlt
        go_wp2
        go_ret
        exact ⟨_, rfl, by unfold TS.live; rw [Z0.out]; exact ow, br⟩
      · go_wp2
        go_ret
        exact ⟨_, rfl, ow, br⟩
end
end Go.Proofs.Ytodmpmnjkfnogaa
