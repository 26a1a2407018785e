/- Contracts of the document's own answer for layer 5: Turn, End; conditions: the Table is one that calls have made of an empty one. -/
import Derived.Test.YtodmpmnjkfnogaaRefT
namespace Go.Proofs.Ytodmpmnjkfnogaa
open Go.ChangeShapes Go.WideShapes Go.ChangeAt Go.RowKit
set_option linter.unusedVariables false

section
variable {w w' : World} {p : Nat} {v : Value} {s : TS}
theorem inside {s : TS} {id : Int} (h : ¬ s.out id) : ∃ i : Nat, id = (i : Int) + 1 ∧ i < s.l.length ∧ (id - 1).toNat = i := by
  unfold TS.out at h
  exact ⟨(id - 1).toNat, by omega, by omega, rfl⟩
theorem rturn_any (h : RT w p v s) (ok : TOk s) (id tt : Int) (i1 : id ≤ 9223372036854775807) : Calls Try.prog 18 #[.pointer (some ⟨p, 0, none⟩), .int .i64 id, .int .i64 tt] w (RTPost (.int .i64 (s.turn id tt).1) p v (s.turn id tt).2 w) := by
  by_cases ho : s.out id
  · have e : s.turn id tt = (11, s) := by unfold TS.turn; rw [if_pos ho]
    rw [e]
    go_enter Try.func18, Try.ntmps18
    go_wp2_with fail
    refine (rthere_out h id ho).mono ?_
    rintro e w1 ⟨rfl, rfl⟩
    go_wp2
    go_ret
    exact RTPost.same h rfl (Keep.refl _ _)
  · obtain ⟨i, rfl, hi, hti⟩ := inside ho
    have g1 := h.c1
    rcases h.form with ⟨_, z⟩ | ⟨g, c, rfl, _⟩
    · rw [z] at hi; simp at hi
    · obtain ⟨k0, k1, k2, k3⟩ := h.cells i hi
      have n1 := ok.n1
      have wr : IntKind.i64.wrap ((i : Int) + 1 - 1) = i := by rw [IntWalk.i64_in _ (by omega)]; omega
      cases hc : canI (s.tx i).st tt with
      | false =>
        have e : s.turn ((i : Int) + 1) tt = (7, s) := by unfold TS.turn; rw [if_neg ho, hti, hc]; rfl
        rw [e]
        clear e
        go_enter Try.func18, Try.ntmps18
        go_wp2_with fail
        refine (rthere_in h i hi).mono ?_
        rintro e w1 ⟨rfl, rfl⟩
        go_wp2_with (go_at_call 24; refine (canr_any _ _ _).mono ?_; rintro e w1 ⟨rfl, rfl⟩)
        go_ret
        exact RTPost.same h rfl (Keep.refl _ _)
      | true =>
        have e : s.turn ((i : Int) + 1) tt = (0, s.put i { s.tx i with st := tt }) := by unfold TS.turn; rw [if_neg ho, hti, hc]; rfl
        rw [e]
        clear e
        have z1 := h.ow.free (i * 4 + 1)
        have a1 := h.setS i hi tt
        go_enter Try.func18, Try.ntmps18
        go_wp2_with fail
        refine (rthere_in h i hi).mono ?_
        rintro e w1 ⟨rfl, rfl⟩
        go_wp2_with (go_at_call 24; refine (canr_any _ _ _).mono ?_; rintro e w1 ⟨rfl, rfl⟩)
        go_ret
        exact ⟨rfl, _, a1, (Keep.refl _ _).setCell (.inr rfl) _, fun k hk => .inl hk⟩
set_option maxRecDepth 100000 in
theorem rstop_any (h : RT w p v s) (ok : TOk s) (id x : Int) (i1 : id ≤ 9223372036854775807) (x0 : 0 ≤ x) : Calls Try.prog 19 #[.pointer (some ⟨p, 0, none⟩), .int .i64 id, .int .u64 x] w (RTPost (.int .i64 (s.stop id x).1) p v (s.stop id x).2 w) := by
  by_cases ho : s.out id
  · have e : s.stop id x = (11, s) := by unfold TS.stop; rw [if_pos ho]
    rw [e]
    go_enter Try.func19, Try.ntmps19
    go_wp2_with fail
    refine (rthere_out h id ho).mono ?_
    rintro e w1 ⟨rfl, rfl⟩
    go_wp2
    go_ret
    exact RTPost.same h rfl (Keep.refl _ _)
  · obtain ⟨i, rfl, hi, hti⟩ := inside ho
    have g1 := h.c1
    rcases h.form with ⟨_, z⟩ | ⟨g, c, rfl, _⟩
    · rw [z] at hi; simp at hi
    · obtain ⟨k0, k1, k2, k3⟩ := h.cells i hi
      have n1 := ok.n1
      have wr : IntKind.i64.wrap ((i : Int) + 1 - 1) = i := by rw [IntWalk.i64_in _ (by omega)]; omega
      have hr := rthere_in h i hi
      have a1 := h.setE i hi x
      have z1 := h.ow.free (i * 4 + 3)
      have e0 : s.stop ((i : Int) + 1) x = if (s.tx i).st ≠ 2 ∨ (s.tx i).e ≠ 0 then (7, s) else if x = 0 ∨ 1099511627776 < x ∨ x ≤ (s.tx i).b then (1, s) else (0, s.put i { s.tx i with e := x }) := by unfold TS.stop; rw [if_neg ho, hti]
      rw [e0]
      clear e0 wr
      have wr : IntKind.i64.wrap ((i : Int) + 1 - 1) = i := by rw [IntWalk.i64_in _ (by omega)]; omega
      by_cases h1 : (s.tx i).st = 2
      · rw [h1] at k1
        by_cases h2 : (s.tx i).e = 0
        · rw [h2] at k3
          rw [if_neg (by omega)]
          by_cases h3 : x = 0
          · subst h3
            rw [if_pos (by omega)]
            go_enter Try.func19, Try.ntmps19
            go_wp2_with fail
            refine hr.mono ?_
            rintro e w1 ⟨rfl, rfl⟩
            go_wp2
            go_ret
            exact RTPost.same h rfl (Keep.refl _ _)
          · have q3 : (x == 0) = false := by simpa using h3
            by_cases h4 : 1099511627776 < x
            · rw [if_pos (by omega)]
              go_enter Try.func19, Try.ntmps19
              go_wp2_with fail
              refine hr.mono ?_
              rintro e w1 ⟨rfl, rfl⟩
              go_wp2
              go_ret
              exact RTPost.same h rfl (Keep.refl _ _)
            · by_cases h5 : x ≤ (s.tx i).b
              · rw [if_pos (by omega)]
                go_enter Try.func19, Try.ntmps19
                go_wp2_with fail
                refine hr.mono ?_
                rintro e w1 ⟨rfl, rfl⟩
                go_wp2
                go_ret
                exact RTPost.same h rfl (Keep.refl _ _)
              · rw [if_neg (by omega)]
                obtain ⟨y, ey⟩ : ∃ y, (s.tx i).b = y := ⟨_, rfl⟩
                rw [ey] at k2 h5
                have d5 : decide (x ≤ y) = false := decide_eq_false h5
                have d4 : decide (1099511627776 < x) = false := decide_eq_false h4
                clear h5 h4
                have A1 := Lib.hid a1
                clear a1 ey ok hti ho h1 h2 k0 x0 n1
                go_enter Try.func19, Try.ntmps19
                go_wp2_with fail
                refine hr.mono ?_
                rintro e w1 ⟨rfl, rfl⟩
                clear hr
                go_wp2
                go_ret
                have a1 := A1.out
                exact ⟨rfl, _, a1, (Keep.refl _ _).setCell (.inr rfl) _, fun k hk => .inl hk⟩
        · have q2 : ((s.tx i).e == 0) = false := by simpa using h2
          have q3 : ((s.tx i).e != 0) = true := by simpa using h2
          rw [if_pos (by omega)]
          go_enter Try.func19, Try.ntmps19
          go_wp2_with fail
          refine hr.mono ?_
          rintro e w1 ⟨rfl, rfl⟩
          go_wp2
          go_ret
          exact RTPost.same h rfl (Keep.refl _ _)
      · have q1 : ((s.tx i).st == 2) = false := by simpa using h1
        have q3 : ((s.tx i).st != 2) = true := by simpa using h1
        rw [if_pos (by omega)]
        go_enter Try.func19, Try.ntmps19
        go_wp2_with fail
        refine hr.mono ?_
        rintro e w1 ⟨rfl, rfl⟩
        go_wp2
        go_ret
        exact RTPost.same h rfl (Keep.refl _ _)
end
end Go.Proofs.Ytodmpmnjkfnogaa
