/- Package table: Can, Turn, Get; conditions: the Table is one that calls have made of an empty one. -/
import Derived.Test.YtodmpmnjkfnogaaTabU
namespace Go.Proofs.Ytodmpmnjkfnogaa
open Go.ChangeShapes Go.WideShapes Go.ChangeAt Go.RowKit
set_option linter.unusedVariables false

theorem can_any (f t : Int) (w : World) : Calls Try.prog 23 #[.int .i64 f, .int .i64 t] w fun e w' => e = .returned (.bool (canI f t)) ∧ w = w' := by
  obtain ⟨r, er⟩ : ∃ r, canI f t = r := ⟨_, rfl⟩
  rw [er]
  unfold canI at er
  rcases (by omega : f = 1 ∨ f = 2 ∨ f = 3 ∨ f = 4 ∨ ¬ (1 ≤ f ∧ f ≤ 4)) with rfl | rfl | rfl | rfl | hf
  · rcases (by omega : t = 2 ∨ t = 4 ∨ (t ≠ 2 ∧ t ≠ 4)) with rfl | rfl | ⟨h1, h2⟩
    · obtain rfl : true = r := by simpa using er
      clear er
      go_enter Try.func23, Try.ntmps23
      go_wp2
      go_ret
      exact ⟨rfl, rfl⟩
    · obtain rfl : true = r := by simpa using er
      clear er
      go_enter Try.func23, Try.ntmps23
      go_wp2
      go_ret
      exact ⟨rfl, rfl⟩
    · have q1 : (t == 2) = false := by simpa using h1
      have q2 : (t == 4) = false := by simpa using h2
      obtain rfl : false = r := by simpa [q1, q2] using er
      clear er
      go_enter Try.func23, Try.ntmps23
      go_wp2
      go_ret
      exact ⟨rfl, rfl⟩
  · rcases (by omega : t = 3 ∨ t = 4 ∨ (t ≠ 3 ∧ t ≠ 4)) with rfl | rfl | ⟨h1, h2⟩
    · obtain rfl : true = r := by simpa using er
      clear er
      go_enter Try.func23, Try.ntmps23
      go_wp2
      go_ret
      exact ⟨rfl, rfl⟩
    · obtain rfl : true = r := by simpa using er
      clear er
      go_enter Try.func23, Try.ntmps23
      go_wp2
      go_ret
      exact ⟨rfl, rfl⟩
    · have q1 : (t == 3) = false := by simpa using h1
      have q2 : (t == 4) = false := by simpa using h2
      obtain rfl : false = r := by simpa [q1, q2] using er
      clear er
      go_enter Try.func23, Try.ntmps23
      go_wp2
      go_ret
      exact ⟨rfl, rfl⟩
  · by_cases h1 : t = 5
    · subst h1
      obtain rfl : true = r := by simpa using er
      clear er
      go_enter Try.func23, Try.ntmps23
      go_wp2
      go_ret
      exact ⟨rfl, rfl⟩
    · have q1 : (t == 5) = false := by simpa using h1
      obtain rfl : false = r := by simpa [q1] using er
      clear er
      go_enter Try.func23, Try.ntmps23
      go_wp2
      go_ret
      exact ⟨rfl, rfl⟩
  · by_cases h1 : t = 5
    · subst h1
      obtain rfl : true = r := by simpa using er
      clear er
      go_enter Try.func23, Try.ntmps23
      go_wp2
      go_ret
      exact ⟨rfl, rfl⟩
    · have q1 : (t == 5) = false := by simpa using h1
      obtain rfl : false = r := by simpa [q1] using er
      clear er
      go_enter Try.func23, Try.ntmps23
      go_wp2
      go_ret
      exact ⟨rfl, rfl⟩
  · have q1 : (f == 1) = false := by rw [beq_eq_false_iff_ne]; omega
    have q2 : (f == 2) = false := by rw [beq_eq_false_iff_ne]; omega
    have q3 : (f == 3) = false := by rw [beq_eq_false_iff_ne]; omega
    have q4 : (f == 4) = false := by rw [beq_eq_false_iff_ne]; omega
    obtain rfl : false = r := by rw [if_neg (by omega), if_neg (by omega), if_neg (by omega)] at er; exact er
    clear er
    go_enter Try.func23, Try.ntmps23
    go_wp2
    go_ret
    exact ⟨rfl, rfl⟩
section
variable {w w' : World} {p : Nat} {v : Value} {bs : List Nat} {s : TS}
def QPost (r : Value) (p : Nat) (v : Value) (bs : List Nat) (s s' : TS) (w : World) (e : Ending) (w' : World) : Prop :=
  e = .returned r ∧ ∃ v' bs', QT w' p v' bs' s' ∧ Keep (PFoot p v bs s.l.length) w w' ∧ ∀ k, PFoot p v' bs' s'.l.length k → PFoot p v bs s.l.length k ∨ w.heap.size ≤ k
theorem QPost.same (h : QT w p v bs s) {r : Value} {e : Ending} (he : e = .returned r) (k : Keep (fun _ => False) w w') : QPost r p v bs s s w e w' :=
  ⟨he, v, bs, h.keep entL k (by simp), k.mono (by simp), fun k hk => .inl hk⟩
theorem QPost.put (h : QT w p v bs s) {r : Value} {e : Ending} (he : e = .returned r) (i : Nat) (hi : i < s.l.length) {x : Tx} (k : Keep (fun j => j = bs.getD i 0) w w') (hx : EntL w' (bs.getD i 0) x) : QPost r p v bs s (s.put i x) w e w' :=
  ⟨he, v, bs, h.put entL i hi k hx, k.mono (fun j hj => .inr (.inr ⟨i, hi, hj.symm⟩)), fun j hj => .inl (by rwa [TS.put_len] at hj)⟩
theorem can_st {f t : Int} (h : canI f t = true) : (f ≤ 2 ∧ (t = 3 ∨ t = 4)) ∨ (f = 1 ∧ t = 2) ∨ (3 ≤ f ∧ t = 5) := by
  unfold canI at h
  split at h
  · simp at h; omega
  · split at h
    · simp at h; omega
    · split at h
      · simp at h; omega
      · cases h
set_option maxRecDepth 100000 in
theorem tturnL (h : QT w p v bs s) (ok : TOk s) (id t : Int) (i1 : id ≤ 9223372036854775807) :
    Calls Try.prog 11 #[.pointer (some ⟨p, 0, none⟩), .int .i64 id, .int .i64 t] w (QPost (.int .i64 (s.turn id t).1) p v bs s (s.turn id t).2 w) := by
  by_cases ho : s.out id
  · have e : s.turn id t = (11, s) := by unfold TS.turn; rw [if_pos ho]
    rw [e]
    go_enter Try.func11, Try.ntmps11
    go_wp2_with fail
    refine (qfind_out h id ho).mono ?_
    rintro e w1 ⟨rfl, rfl⟩
    go_wp2
    go_ret
    exact QPost.same h rfl (Keep.refl _ _)
  · obtain ⟨i, rfl, hi, hti⟩ := inside ho
    have en := h.en i hi
    have xo := ok.x i hi
    have ha := qfind_in h i hi ok.n1
    obtain ⟨b, eb⟩ : ∃ b, bs.getD i 0 = b := ⟨_, rfl⟩
    have EB := Lib.hid eb
    rw [eb] at en ha
    have s0 := xo.s0
    have s1 := xo.s1
    have e0 := xo.e0
    have e1 := xo.e1
    have L := loadUint64 ⟨b, 2, none⟩ _ w en.c2 rfl
    have U := qunpack (s.tx i).st (s.tx i).e (by omega) (by omega) e0 e1 w
    obtain ⟨z, ez⟩ : ∃ z, (s.tx i).e * 8 + (s.tx i).st = z := ⟨_, rfl⟩
    have EZ := Lib.hid ez
    rw [ez] at L U
    have hc := can_any (s.tx i).st t
    cases hx : canI (s.tx i).st t with
    | false =>
      have e : s.turn ((i : Int) + 1) t = (7, s) := by unfold TS.turn; rw [if_neg ho, hti, hx]; rfl
      rw [e]
      rw [hx] at hc
      clear e eb ez
      go_enter Try.func11, Try.ntmps11
      go_wp2_with fail
      refine ha.mono ?_
      rintro e w1 ⟨rfl, rfl⟩
      go_wp2
      go_loopw [8] (fun i wr => w = wr) (fun _ _ => 0)
      case atStart => exact rfl
      case round =>
        obtain rfl := hrel
        go_wp2_with fail
        refine L.mono ?_
        rintro e w1 ⟨rfl, rfl⟩
        go_wp2_with fail
        refine U.mono ?_
        rintro e w1 ⟨rfl, rfl⟩
        go_wp2_with fail
        refine (hc _).mono ?_
        rintro e w1 ⟨rfl, rfl⟩
        go_wp2
        go_ret
        exact QPost.same h rfl (Keep.refl _ _)
    | true =>
      have e : s.turn ((i : Int) + 1) t = (0, s.put i { s.tx i with st := t }) := by unfold TS.turn; rw [if_neg ho, hti, hx]; rfl
      rw [e]
      rw [hx] at hc
      have cs := can_st hx
      clear e eb ez hx
      rcases cs with ⟨f2, ht⟩ | cs
      · have SY := settle_yes b (s.tx i) t (by omega) (by omega) w en xo f2
        rcases ht with rfl | rfl
        all_goals
          go_enter Try.func11, Try.ntmps11
          go_wp2_with fail
          refine ha.mono ?_
          rintro e w1 ⟨rfl, rfl⟩
          go_wp2
          go_loopw [8] (fun i wr => w = wr) (fun _ _ => 0)
          case atStart => exact rfl
          case round =>
            obtain rfl := hrel
            go_wp2_with fail
            refine L.mono ?_
            rintro e w1 ⟨rfl, rfl⟩
            go_wp2_with fail
            refine U.mono ?_
            rintro e w1 ⟨rfl, rfl⟩
            go_wp2_with fail
            refine (hc _).mono ?_
            rintro e w1 ⟨rfl, rfl⟩
            go_wp2_with fail
            refine SY.mono ?_
            rintro e w1 ⟨rfl, en1, k1⟩
            go_wp2
            go_ret
            have eb := EB.out
            subst eb
            exact QPost.put h rfl i hi k1 en1
      · have q3 : (t == 3) = false := by rw [beq_eq_false_iff_ne]; omega
        have q4 : (t == 4) = false := by rw [beq_eq_false_iff_ne]; omega
        have K := qpack t (s.tx i).e (by omega) (by omega) e0 e1
        have c2 := en.c2
        rw [EZ.out] at c2
        have C := casUint64 ⟨b, 2, none⟩ z ((s.tx i).e * 8 + t) w.drew c2 (en.fz 2) rfl
        have en2 : EntL (w.drew.setCell ⟨b, 2, none⟩ (.int .u64 ((s.tx i).e * 8 + t))) b { s.tx i with st := t } := by
          refine ⟨?_, ?_, World.cell?_setCell_same _ _ _ c2, ?_, ?_, fun j => by simpa using en.fz j⟩
          · rw [World.cell?_setCell_other _ _ _ _ (by first | (simp; done) | (simp; omega))]; exact en.c0
          · rw [World.cell?_setCell_other _ _ _ _ (by first | (simp; done) | (simp; omega))]; exact en.c1
          · rw [World.cell?_setCell_other _ _ _ _ (by first | (simp; done) | (simp; omega))]
            have c3 := en.c3
            have : (if t ≤ 2 then (0 : Int) else 1) = if (s.tx i).st ≤ 2 then 0 else 1 := by
              rcases cs with ⟨h1, h2⟩ | ⟨h1, h2⟩
              · rw [if_pos (by omega), if_pos (by omega)]
              · rw [if_neg (by omega), if_neg (by omega)]
            show _ = some (Value.int .u32 (if t ≤ 2 then (0 : Int) else 1))
            rw [this]; exact c3
          · rw [World.cell?_setCell_other _ _ _ _ (by first | (simp; done) | (simp; omega))]; exact en.c4
        have k2 : Keep (fun j => j = b) w (w.drew.setCell ⟨b, 2, none⟩ (.int .u64 ((s.tx i).e * 8 + t))) := (Keep.refl (fun j => j = b) w).drew.setCell (p := ⟨b, 2, none⟩) rfl _
        obtain ⟨y, ey⟩ : ∃ y, (s.tx i).e * 8 + t = y := ⟨_, rfl⟩
        rw [ey] at K C en2 k2
        clear ey cs
        go_enter Try.func11, Try.ntmps11
        go_wp2_with fail
        refine ha.mono ?_
        rintro e w1 ⟨rfl, rfl⟩
        go_wp2
        go_loopw [8] (fun i wr => w = wr) (fun _ _ => 0)
        case atStart => exact rfl
        case round =>
          obtain rfl := hrel
          go_wp2_with fail
          refine L.mono ?_
          rintro e w1 ⟨rfl, rfl⟩
          go_wp2_with fail
          refine U.mono ?_
          rintro e w1 ⟨rfl, rfl⟩
          go_wp2_with fail
          refine (hc _).mono ?_
          rintro e w1 ⟨rfl, rfl⟩
          go_wp2_with fail
          go_still_tail 7, (by kernel_rfl)
          still_call ((K _).mono (by rintro e w1 ⟨rfl, rfl⟩; exact ⟨rfl, rfl⟩))
          try refine wpStill_nil ?_
          change wpList _ _ _ _ _ w.drew
          go_wp2_with fail
          refine C.mono ?_
          rintro e w1 ⟨rfl, rfl⟩
          go_wp2
          go_ret
          have eb := EB.out
          subst eb
          exact QPost.put h rfl i hi k2 en2
end
end Go.Proofs.Ytodmpmnjkfnogaa
