/- Contracts of vinculumref1's Key, Same (any two rows), Span; conditions: the rows lie somewhere, at most 100,000 words. -/
import Derived.Test.YtndpifkpgoeogaaJuI
import Derived.Test.YtndpifkpgoeogaaRdD
import Derived.Deep.QuietTactic
import Derived.BigQuiet
namespace Go.Proofs.Ytndpifkpgoeogaa
open Go.ChangeShapes Go.WideShapes Go.ChangeAt Go.RowKit
set_option linter.unusedVariables false

theorem rkey_any (lv link now : Int) (r : Bool) (hs : keyJ lv link now = r) (w : World) : Calls Try.prog 21 #[.int .i64 lv, .int .u64 link, .int .u64 now] w fun e w' => e = .returned (.bool r) ∧ w = w' := by
  subst hs
  unfold keyJ
  by_cases h1 : lv = 1
  · subst h1
    go_enter Try.func21, Try.ntmps21
    go_wp2
    go_ret
    exact ⟨rfl, rfl⟩
  · have d1 : (lv == 1) = false := by simpa using h1
    rw [if_neg h1]
    by_cases h2 : lv = 2
    · subst h2
      by_cases h0 : link = 0
      · subst h0
        go_enter Try.func21, Try.ntmps21
        go_wp2
        go_ret
        exact ⟨rfl, rfl⟩
      · have d0 : (link == 0) = false := by simpa using h0
        rw [if_pos rfl, decide_eq_false h0, Bool.false_or]
        go_enter Try.func21, Try.ntmps21
        go_wp2
        go_ret
        exact ⟨rfl, rfl⟩
    · have d2 : (lv == 2) = false := by simpa using h2
      rw [if_neg h2]
      by_cases h3 : lv = 3
      · subst h3
        rw [if_pos rfl]
        go_enter Try.func21, Try.ntmps21
        go_wp2
        go_ret
        exact ⟨rfl, rfl⟩
      · have d3 : (lv == 3) = false := by simpa using h3
        rw [if_neg h3]
        go_enter Try.func21, Try.ntmps21
        go_wp2
        go_ret
        exact ⟨rfl, rfl⟩
theorem take_eq_succ {xs ys : List Int} {k : Nat} (h1 : k < xs.length) (h2 : k < ys.length) (h : xs.take k = ys.take k) (e : xs.getD k 0 = ys.getD k 0) : xs.take (k + 1) = ys.take (k + 1) := by
  rw [List.take_add_one, List.take_add_one, h, List.getElem?_eq_getElem h1, List.getElem?_eq_getElem h2]
  rw [List.getD_eq_getElem?_getD, List.getD_eq_getElem?_getD, List.getElem?_eq_getElem h1, List.getElem?_eq_getElem h2] at e
  have e' : xs[k] = ys[k] := by simpa using e
  rw [e']
theorem sameL_d (u v : Value) (xs ys : List Int) (hx : xs.length ≤ 100000) (hy : ys.length ≤ 100000) (r : Bool) (hs : decide (xs = ys) = r) (w : World) (h1 : Lies w u xs) (h2 : Lies w v ys) : Calls Try.prog 28 #[u, v] w fun e w' => e = .returned (.bool r) ∧ ∃ d, w' = w.drewN d := by
  have ER := Lib.hid hs
  clear hs
  obtain ⟨A1, c1, rfl, _, f1⟩ := h1
  obtain ⟨A2, c2, rfl, _, f2⟩ := h2
  by_cases hl : xs.length = ys.length
  · have dl : ((xs.length : Int) != (ys.length : Int)) = false := by simp [hl]
    have DL := Lib.hid hl
    have LE : ys.length = xs.length := hl.symm
    rw [LE] at f2 hy ⊢
    have LE := Lib.hid LE
    clear hl dl
    go_enter Try.func28, Try.ntmps28
    go_wp2
    go_loopw [5] (fun i wr => ∃ k d : Nat, k ≤ xs.length ∧ i = .int .i64 k ∧ wr = w.drewN d ∧ xs.take k = ys.take k) (fun i _ => xs.length - (intOf i).toNat)
    case atStart => exact ⟨0, 0, Nat.zero_le _, rfl, rfl, rfl⟩
    case round =>
      obtain ⟨k, d, hk, rfl, rfl, ht⟩ := hrel
      by_cases hlt : k < xs.length
      · obtain ⟨b1, o1, rfl, _, g1⟩ := f1 (by omega)
        obtain ⟨b2, o2, rfl, _, g2⟩ := f2 (by omega)
        have e1 := g1 k hlt
        have e2 := g2 k hlt
        obtain ⟨x, ex⟩ : ∃ x, xs.getD k 0 = x := ⟨_, rfl⟩
        obtain ⟨y, ey⟩ : ∃ y, ys.getD k 0 = y := ⟨_, rfl⟩
        rw [ex] at e1
        rw [ey] at e2
        by_cases hxy : x = y
        · have d1 : (x != y) = false := by simpa using hxy
          have HT := Lib.hid (take_eq_succ hlt (by rw [LE.out]; exact hlt) ht (ex.trans (hxy.trans ey.symm)))
          clear f1 f2 g1 g2 ex ey hxy ht
          go_wp2_with fail
          go_quiet (fail)
          go_wp2
          go_roundw
          case rel => exact ⟨k + 1, _, by omega, by go_num, rfl, HT.out⟩
          case measure => simp [intOf]; omega
        · have d1 : (x != y) = true := by simpa using hxy
          have hne : decide (xs = ys) = false := decide_eq_false (fun e => hxy (by rw [← ex, ← ey, e]))
          obtain rfl : r = false := ER.out.symm.trans hne
          clear f1 f2 g1 g2 ex ey hxy ht hne
          go_wp2_with fail
          go_quiet (fail)
          go_wp2
          go_ret
          exact ⟨rfl, _, World.drewN_drewN _ _ _⟩
      · obtain rfl : k = xs.length := by omega
        have hne : decide (xs = ys) = true := decide_eq_true (by
          rw [List.take_length] at ht
          rw [ht, ← LE.out, List.take_length])
        obtain rfl : r = true := ER.out.symm.trans hne
        clear f1 f2 hne ht
        go_wp2
        go_ret
        exact ⟨rfl, _, rfl⟩
  · have dl : ((xs.length : Int) != (ys.length : Int)) = true := by simp; omega
    have hne : decide (xs = ys) = false := decide_eq_false (fun e => hl (by rw [e]))
    obtain rfl : r = false := ER.out.symm.trans hne
    clear hne f1 f2 hl
    go_enter Try.func28, Try.ntmps28
    go_wp2
    go_ret
    exact ⟨rfl, 0, rfl⟩
theorem sameL_any (u v : Value) (xs ys : List Int) (hx : xs.length ≤ 100000) (hy : ys.length ≤ 100000) (r : Bool) (hs : decide (xs = ys) = r) (w : World) (h1 : Lies w u xs) (h2 : Lies w v ys) : Calls Try.prog 28 #[u, v] w fun e w' => e = .returned (.bool r) ∧ Keep (fun _ => False) w w' :=
  (sameL_d u v xs ys hx hy r hs w h1 h2).mono (by rintro e w' ⟨rfl, d, rfl⟩; exact ⟨rfl, drewN_keep _ _ _⟩)
theorem rspan_d (lv : Int) (u v : Value) (xs ys : List Int) (hx : xs.length ≤ 100000) (hy : ys.length ≤ 100000) (r : Bool) (hs : spanJ lv xs ys = r) (w : World) (h1 : Lies w u xs) (h2 : Lies w v ys) : Calls Try.prog 23 #[.int .i64 lv, u, v] w fun e w' => e = .returned (.bool r) ∧ ∃ d, w' = w.drewN d := by
  subst hs
  unfold spanJ
  by_cases h12 : lv = 1 ∨ lv = 2
  · rw [if_pos h12]
    rcases h12 with rfl | rfl
    · go_enter Try.func23, Try.ntmps23
      go_wp2
      go_ret
      exact ⟨rfl, 0, rfl⟩
    · go_enter Try.func23, Try.ntmps23
      go_wp2
      go_ret
      exact ⟨rfl, 0, rfl⟩
  · rw [if_neg h12]
    have d1 : (lv == 1) = false := by simp; omega
    have d2 : (lv == 2) = false := by simp; omega
    by_cases h3 : lv = 3
    · subst h3
      rw [if_pos rfl]
      have hS := sameL_d u v xs ys hx hy _ rfl w h1 h2
      obtain ⟨b, eb⟩ : ∃ b, decide (xs = ys) = b := ⟨_, rfl⟩
      rw [eb] at hS ⊢
      clear eb h12
      go_enter Try.func23, Try.ntmps23
      go_wp2_with fail
      refine hS.mono ?_
      rintro e w1 ⟨rfl, d, rfl⟩
      go_wp2
      go_ret
      exact ⟨rfl, d, rfl⟩
    · have d3 : (lv == 3) = false := by simpa using h3
      rw [if_neg h3]
      clear h12
      go_enter Try.func23, Try.ntmps23
      go_wp2
      go_ret
      exact ⟨rfl, 0, rfl⟩
theorem rspan_any (lv : Int) (u v : Value) (xs ys : List Int) (hx : xs.length ≤ 100000) (hy : ys.length ≤ 100000) (r : Bool) (hs : spanJ lv xs ys = r) (w : World) (h1 : Lies w u xs) (h2 : Lies w v ys) : Calls Try.prog 23 #[.int .i64 lv, u, v] w fun e w' => e = .returned (.bool r) ∧ Keep (fun _ => False) w w' :=
  (rspan_d lv u v xs ys hx hy r hs w h1 h2).mono (by rintro e w' ⟨rfl, d, rfl⟩; exact ⟨rfl, drewN_keep _ _ _⟩)
end Go.Proofs.Ytndpifkpgoeogaa
