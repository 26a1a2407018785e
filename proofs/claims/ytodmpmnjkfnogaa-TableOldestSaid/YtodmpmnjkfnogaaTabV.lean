/- Package table: Live, Oldest, New, Make; conditions: the Table is one that calls have made of an empty one. -/
import Derived.Test.YtodmpmnjkfnogaaTabT
import Derived.Test.YtodmpmnjkfnogaaRefT4
namespace Go.Proofs.Ytodmpmnjkfnogaa
open Go.ChangeShapes Go.WideShapes Go.ChangeAt Go.RowKit
set_option linter.unusedVariables false

theorem froz_new (w : World) (c : Array Value) (t : TypeId) (i : Nat) : (w.alloc (.cells c t)).frozen? ⟨w.heap.size, i, none⟩ = false := by simp
section
variable {w w' : World} {p : Nat} {v : Value} {bs : List Nat} {s : TS}
set_option maxRecDepth 100000 in
theorem tliveL (h : QT w p v bs s) (ok : TOk s) : Calls Try.prog 16 #[.pointer (some ⟨p, 0, none⟩)] w (ListPost s.live w) := by
  have n1 := ok.n1
  have g1 := h.cv
  obtain ⟨A, c, hv, hA, hA2⟩ := h.form
  subst hv
  go_enter Try.func16, Try.ntmps16
  go_wp2
  go_loopw [3, 11] (fun u i wr => ∃ k : Nat, LRel s w k u i wr) (fun _ i _ => s.l.length - (intOf i).toNat)
  case atStart => exact ⟨0, Nat.zero_le _, rfl, World.ownsRow_nil _ _ _ _, Below.refl _ _⟩
  case round =>
    obtain ⟨k, hk, rfl, ow, br⟩ := hrel
    have hr := h.keep entL (Keep.of_below br (fun _ => False)) (by simp)
    by_cases hlt : k < s.l.length
    · obtain ⟨g, c2, hs, gc⟩ := hr.slot k hlt
      unfold ptrV at gc
      obtain ⟨rfl, rfl⟩ : A = some ⟨g, 0, none⟩ ∧ c = c2 := by simpa using hs
      have QL := qlives (bs.getD k 0) (s.tx k) (hr.en k hlt) (ok.x k hlt)
      clear hs h hA hA2
      obtain ⟨b, eb⟩ : ∃ b, bs.getD k 0 = b := ⟨_, rfl⟩
      rw [eb] at gc QL
      clear eb
      have wr1 : IntKind.i64.wrap ((k : Int) + 1) = (k : Int) + 1 := IntWalk.i64_in _ (by omega)
      cases hl : (s.tx k).lives with
      | true =>
        rw [hl] at QL
        have es : s.liveTo (k + 1) = s.liveTo k ++ [(k : Int) + 1] := by show (if _ then _ else _) = _; rw [if_pos hl]
        have ES := Lib.hid es
        have ll := liveTo_len s k
        clear es hl
        go_wp2_with fail
        refine QL.mono ?_
        rintro e w1 ⟨rfl, rfl⟩
        go_wp2_with (with_reducible refine wp_stop 22 rfl ?_)
        intro _
        refine wp_pushN rfl (.tmp 18) (.tmp 21) rfl w.heap.size br.size u3 (s.liveTo k) rfl ow ((k : Int) + 1) rfl (by omega) ?_
        intro g2 c2 w3 o3 k3 hg
        have b3 := br.trans (k3.below br.size (fun x hx => (ow.lt hx).1))
        rw [← ES.out] at o3
        have el : (s.liveTo k).length + 1 = (s.liveTo (k + 1)).length := by rw [ES.out]; simp
        rw [el] at o3 ⊢
        clear ow k3 hg br
        go_wp2
        go_roundw
        case rel => exact ⟨k + 1, by omega, by go_num, o3, b3⟩
        case measure => simp [intOf]; omega
      | false =>
        rw [hl] at QL
        have es : s.liveTo (k + 1) = s.liveTo k := by show (if _ then _ else _) = _; rw [if_neg (by simp [hl])]
        have ES := Lib.hid es
        clear es hl
        go_wp2_with fail
        refine QL.mono ?_
        rintro e w1 ⟨rfl, rfl⟩
        go_wp2
        go_roundw
        case rel => exact ⟨k + 1, by omega, by go_num, by rw [ES.out]; exact ow, br⟩
        case measure => simp [intOf]; omega
    · obtain rfl : k = s.l.length := by omega
      go_wp2
      go_ret
      exact ⟨_, rfl, ow, br⟩
def ORelL (s : TS) (now : Int) (w : World) (k : Nat) (u i : Value) (wr : World) : Prop := k ≤ s.l.length ∧ i = .int .i64 k ∧ u = .int .u64 (s.oldTo now k) ∧ w = wr
theorem toldL (h : QT w p v bs s) (ok : TOk s) (now : Int) : Calls Try.prog 14 #[.pointer (some ⟨p, 0, none⟩), .int .u64 now] w fun e w' => e = .returned (.int .u64 (s.old now)) ∧ w = w' := by
  have n1 := ok.n1
  have g1 := h.cv
  obtain ⟨A, c, hv, hA, hA2⟩ := h.form
  subst hv
  go_enter Try.func14, Try.ntmps14
  go_wp2
  go_loopw [1, 12] (fun u i wr => ∃ k : Nat, ORelL s now w k u i wr) (fun _ i _ => s.l.length - (intOf i).toNat)
  case atStart => exact ⟨0, Nat.zero_le _, rfl, rfl, rfl⟩
  case round =>
    obtain ⟨k, hk, rfl, rfl, rfl⟩ := hrel
    by_cases hlt : k < s.l.length
    · obtain ⟨g, c2, hs, gc⟩ := h.slot k hlt
      unfold ptrV at gc
      obtain ⟨rfl, rfl⟩ : A = some ⟨g, 0, none⟩ ∧ c = c2 := by simpa using hs
      have en := h.en k hlt
      have QL := qlives (bs.getD k 0) (s.tx k) en (ok.x k hlt)
      clear hs h hA hA2
      obtain ⟨b, eb⟩ : ∃ b, bs.getD k 0 = b := ⟨_, rfl⟩
      rw [eb] at gc QL en
      clear eb
      have wr1 : IntKind.i64.wrap ((k : Int) + 1) = (k : Int) + 1 := IntWalk.i64_in _ (by omega)
      cases hl : (s.tx k).lives with
      | true =>
        rw [hl] at QL
        have es : s.oldTo now (k + 1) = min (s.oldTo now k) (s.tx k).b := by show (if _ then _ else _) = _; rw [if_pos hl]
        have c1 := en.c1
        obtain ⟨a, ea⟩ : ∃ a, s.oldTo now k = a := ⟨_, rfl⟩
        obtain ⟨y, ey⟩ : ∃ y, (s.tx k).b = y := ⟨_, rfl⟩
        rw [ea, ey] at es
        rw [ey] at c1
        rw [ea]
        have ES := Lib.hid es
        clear es hl ea ey en
        go_wp2_with fail
        refine QL.mono ?_
        rintro e w1 ⟨rfl, rfl⟩
        rcases Int.lt_or_le y a with hab | hab
        · have e1 : (if y < a then y else a) = y := if_pos hab
          have E2 := Lib.hid (show min a y = y by omega)
          go_wp2
          go_roundw
          case rel => exact ⟨k + 1, by omega, by go_num, by rw [ES.out, E2.out], rfl⟩
          case measure => simp [intOf]; omega
        · have e1 : (if y < a then y else a) = a := if_neg (by omega)
          have E2 := Lib.hid (show min a y = a by omega)
          go_wp2
          go_roundw
          case rel => exact ⟨k + 1, by omega, by go_num, by rw [ES.out, E2.out], rfl⟩
          case measure => simp [intOf]; omega
      | false =>
        rw [hl] at QL
        have es : s.oldTo now (k + 1) = s.oldTo now k := by show (if _ then _ else _) = _; rw [if_neg (by simp [hl])]
        have ES := Lib.hid es
        clear es hl
        go_wp2_with fail
        refine QL.mono ?_
        rintro e w1 ⟨rfl, rfl⟩
        go_wp2
        go_roundw
        case rel => exact ⟨k + 1, by omega, by go_num, by rw [ES.out], rfl⟩
        case measure => simp [intOf]; omega
    · obtain rfl : k = s.l.length := by omega
      go_wp2
      go_ret
      exact ⟨rfl, rfl⟩
theorem push_foot {x : Tx} {g c : Nat} {w2 : World} (h : QT w p v bs s) (b : Nat) (hb : w.heap.size ≤ b) (k0 : Keep (fun _ => False) w w2) (hg : v.ownBlock = some g ∨ w2.heap.size ≤ g) :
    ∀ k, PFoot p (.slice (some ⟨g, 0, none⟩) (bs.length + 1) c) (bs ++ [b]) ({ s with l := s.l ++ [x] } : TS).l.length k → PFoot p v bs s.l.length k ∨ w.heap.size ≤ k := by
  intro k hk
  have k0s := k0.size
  rcases hk with rfl | hk | ⟨i, hi, rfl⟩
  · exact .inl (.inl rfl)
  · simp only [Value.ownBlock, Option.some.injEq] at hk
    subst hk
    rcases hg with y | y
    · exact .inl (.inr (.inl y))
    · exact .inr (by omega)
  · simp only [List.getD_eq_getElem?_getD, List.getElem?_append, h.bl]
    by_cases e : i < s.l.length
    · exact .inl (.inr (.inr ⟨i, e, by simp [e, List.getD_eq_getElem?_getD]⟩))
    · have e2 : i = s.l.length := by simp at hi; omega
      subst e2
      exact .inr (by simpa using hb)
def QNew (n : Int) (w : World) (e : Ending) (w' : World) : Prop :=
  ∃ p, e = .returned (.tuple #[.pointer (some ⟨p, 0, none⟩), .int .i64 0]) ∧ QT w' p (.slice none 0 0) [] (TS.new n) ∧ w.heap.size ≤ p ∧ Below w.heap.size w w'
theorem tnew_no (n : Int) (w : World) (h : n < 1 ∨ 65535 < n) : Calls Try.prog 8 #[.int .i64 n] w fun e w' => e = .returned (.tuple #[.pointer none, .int .i64 1]) ∧ w = w' := by
  rcases (by omega : n < 1 ∨ (¬ n < 1 ∧ 65535 < n)) with h1 | ⟨h1, h2⟩
  all_goals
    clear h
    go_enter Try.func8, Try.ntmps8
    go_wp2
    go_ret2
    exact ⟨rfl, rfl⟩
theorem tnewL (n : Int) (w : World) (h0 : 1 ≤ n) (h1 : n ≤ 65535) : Calls Try.prog 8 #[.int .i64 n] w (QNew n w) := by
  go_enter Try.func8, Try.ntmps8
  go_wp2
  go_ret2
  refine ⟨w.heap.size, rfl, ⟨by simp [TS.new], by simp, by simp, Own.nil, rfl, fun i hi => by simp [TS.new] at hi, fun i j _ hj => by simp [TS.new] at hj, fun i hi => by simp [TS.new] at hi, fun i hi => by simp [TS.new] at hi, by simp [Value.ownBlock]⟩, Nat.le_refl _, (Below.refl _ _).alloc (Nat.le_refl _) _⟩
set_option maxRecDepth 100000 in
theorem tmakeL (h : QT w p v bs s) (ok : TOk s) (lv b : Int) (b0 : 0 ≤ b) : Calls Try.prog 9 #[.pointer (some ⟨p, 0, none⟩), .int .i64 lv, .int .u64 b] w (QPost (.tuple #[.int .i64 (s.make lv b).1, .int .i64 (s.make lv b).2.1]) p v bs s (s.make lv b).2.2 w) := by
  have n1 := ok.n1
  have g0 := h.cm
  have g1 := h.cv
  by_cases hb : lv < 1 ∨ 3 < lv ∨ 1099511627776 < b
  · have e : s.make lv b = (0, 1, s) := by unfold TS.make; rw [if_pos hb]
    rw [e]
    clear e
    rcases (by omega : lv < 1 ∨ (¬ lv < 1 ∧ 3 < lv) ∨ (¬ lv < 1 ∧ ¬ 3 < lv ∧ 1099511627776 < b)) with hb | ⟨hb, h2⟩ | ⟨hb, h2, h3⟩
    all_goals
      go_enter Try.func9, Try.ntmps9
      go_wp2
      go_ret2
      exact QPost.same h rfl (Keep.refl _ _)
  · have x1 : ¬ lv < 1 := by omega
    have x2 : ¬ 3 < lv := by omega
    have x3 : ¬ 1099511627776 < b := by omega
    obtain ⟨A, c, hv, hA, hA2⟩ := h.form
    by_cases hm : s.most ≤ s.l.length
    · have e : s.make lv b = (0, 65, s) := by unfold TS.make; rw [if_neg hb, if_pos hm]
      rw [e]
      clear e hb
      subst hv
      have d1 : decide (s.most ≤ (s.l.length : Int)) = true := decide_eq_true hm
      clear hA hA2
      go_enter Try.func9, Try.ntmps9
      go_wp2
      go_quiet (fail)
      go_wp2
      go_ret2
      exact QPost.same h rfl (drewN_keep _ _ _)
    · have e : s.make lv b = ((s.l.length : Int) + 1, 0, { s with l := s.l ++ [⟨lv, 1, b, 0⟩] }) := by unfold TS.make; rw [if_neg hb, if_neg hm]
      rw [e]
      clear e hb
      subst hv
      have d1 : decide (s.most ≤ (s.l.length : Int)) = false := decide_eq_false hm
      clear hA hA2 hm
      go_enter Try.func9, Try.ntmps9
      go_wp2
      go_quiet (fail)
      go_wp2_with fail
      have k1 : Keep (fun _ => False) w ((w.drewN nq).alloc (.cells #[.int .i64 lv, .int .u64 b, .int .u64 0, .int .u32 0, .int .i32 0, .int .u32 0] 78)) := Keep.alloc (drewN_keep _ _ _) _
      have y : ∀ i, ((w.drewN nq).alloc (.cells #[.int .i64 lv, .int .u64 b, .int .u64 0, .int .u32 0, .int .i32 0, .int .u32 0] 78)).cell? ⟨w.heap.size, i, none⟩ = #[Value.int .i64 lv, .int .u64 b, .int .u64 0, .int .u32 0, .int .i32 0, .int .u32 0][i]? := fun i => World.cell?_alloc_new (w.drewN nq) _ _ _
      have z : ∀ i, ((w.drewN nq).alloc (.cells #[.int .i64 lv, .int .u64 b, .int .u64 0, .int .u32 0, .int .i32 0, .int .u32 0] 78)).frozen? ⟨w.heap.size, i, none⟩ = false := fun i => froz_new (w.drewN nq) _ _ i
      have sz : ((w.drewN nq).alloc (.cells #[.int .i64 lv, .int .u64 b, .int .u64 0, .int .u32 0, .int .i32 0, .int .u32 0] 78)).heap.size = w.heap.size + 1 := by simp
      obtain ⟨w1, e1⟩ : ∃ w1, (w.drewN nq).alloc (.cells #[.int .i64 lv, .int .u64 b, .int .u64 0, .int .u32 0, .int .i32 0, .int .u32 0] 78) = w1 := ⟨_, rfl⟩
      rw [e1] at k1 y z sz ⊢
      obtain ⟨N, eN⟩ : ∃ N, w.heap.size = N := ⟨_, rfl⟩
      have EN := Lib.hid eN
      have SZ := Lib.hid sz
      rw [eN] at y z ⊢
      have K0 : ∀ w, Calls Try.prog 26 #[.int .i64 1, .int .u64 0] w fun r w' => r = .returned (.int .u64 1) ∧ w = w' := fun w => qpack 1 0 (by omega) (by omega) (by omega) (by omega) w
      have C := storeUint64 ⟨N, 2, none⟩ (.int .u64 0) 1 w1.drew (y 2) (z 2) rfl
      have en2 : EntL (w1.drew.setCell ⟨N, 2, none⟩ (.int .u64 1)) N ⟨lv, 1, b, 0⟩ := by
        refine ⟨?_, ?_, World.cell?_setCell_same _ _ _ (y 2), ?_, ?_, fun j => by simpa using z j⟩
        · rw [World.cell?_setCell_other _ _ _ _ (by first | (simp; done) | (simp; omega))]; exact y 0
        · rw [World.cell?_setCell_other _ _ _ _ (by first | (simp; done) | (simp; omega))]; exact y 1
        · rw [World.cell?_setCell_other _ _ _ _ (by first | (simp; done) | (simp; omega))]; exact y 3
        · rw [World.cell?_setCell_other _ _ _ _ (by first | (simp; done) | (simp; omega))]; exact y 4
      have k2 : Keep (fun _ => False) w (w1.drew.setCell ⟨N, 2, none⟩ (.int .u64 1)) := by
        have := (k1.mono (T := fun j => j = N) (by simp)).trans ((Keep.refl (fun j => j = N) w1).drew.setCell (p := ⟨N, 2, none⟩) rfl (.int .u64 1))
        exact ⟨this.os, this.tape, this.output, this.size, fun j hj n => this.block j hj (by omega)⟩
      clear e1 eN sz y z k1 g0 d1
      go_still_tail 4, (by kernel_rfl)
      still_call ((K0 _).mono (by rintro e w1 ⟨rfl, rfl⟩; exact ⟨rfl, rfl⟩))
      try refine wpStill_nil ?_
      change wpList _ _ _ _ _ w1.drew
      go_wp2_with fail
      refine C.mono ?_
      rintro e w2 ⟨rfl, rfl⟩
      have s2 : (w1.drew.setCell ⟨N, 2, none⟩ (.int .u64 1)).heap.size = N + 1 := by rw [World.size_setCell]; have := SZ.out; have := EN.out; show w1.heap.size = _; omega
      obtain ⟨w2, e2⟩ : ∃ w2, w1.drew.setCell ⟨N, 2, none⟩ (.int .u64 1) = w2 := ⟨_, rfl⟩
      rw [e2] at en2 k2 s2 ⊢
      have h2 := h.keep entL k2 (by simp)
      have S2 := Lib.hid s2
      clear e2 C K0 s2 g1
      have g1 := h2.cv
      have z1 := h2.fz 1
      go_wp2_with (with_reducible refine wp_stop 45 rfl ?_)
      intro _
      refine wp_push1 (f := ptrV) (t := 58) (e := 61) (z := .pointer none) (bytes := 8) Try.underlying58 (by kernel_rfl) rfl (by omega) ptrV_one rfl (.tmp 42) (.tmp 44) rfl 0 (Nat.zero_le _) (.slice A s.l.length c) bs rfl (show OwnAt 0 ptrV 61 w2 (.slice A s.l.length c) bs from h2.ow) N rfl (by have := h.bl; omega) ?_
      intro g3 c3 w3 o3 k3 hg3
      have P := h.push entL k2 (by have := EN.out; omega) (by have := S2.out; omega) en2 o3 k3 hg3 (by decide)
      have PF := push_foot (x := ⟨lv, 1, b, 0⟩) (c := c3) h N (by have := EN.out; omega) k2 hg3
      have c5 := k3.cell g1 h2.vp
      have f5 := (k3.frozen (a := ⟨p, 1, none⟩) (lt_of_cell (a := ⟨p, 0, none⟩) h2.cm) h2.vp).trans z1
      have lb : bs.length + 1 = s.l.length + 1 := by rw [h2.bl]
      have cl : ((bs.length : Int) + 1) = (s.l.length : Int) + 1 := by rw [h2.bl]
      rw [lb] at P PF
      have P := Lib.hid P
      clear g1 z1 o3 en2 x1 x2 x3
      go_wp2
      go_ret2
      exact ⟨rfl, _, _, P.out.1, P.out.2, PF⟩
end
end Go.Proofs.Ytodmpmnjkfnogaa
