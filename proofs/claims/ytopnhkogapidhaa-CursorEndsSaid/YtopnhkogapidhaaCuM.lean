/- Package cursor over a Tower: New, Next, At, Done, Span of any Cursor; conditions: 'Tow': the Tower's words lead from key to key; 'CuAt': the Cursor's cells are those of one that has looked for keys from 0 to 63. -/
import Derived.Test.YtopnhkogapidhaaTwE
import Derived.Test.YtopnhkogapidhaaOnceDo
namespace Go.Proofs.Ytopnhkogapidhaa
open Go.ChangeShapes Go.WideShapes Go.ChangeAt Go.RowKit
set_option linter.unusedVariables false

/-- Where a Cursor is: its range, the key that it told last (-1: none), whether it is done. -/
structure CS where
  lo : Int
  hi : Int
  at' : Int
  done : Bool
def CS.new (lo hi : Int) : CS := ⟨lo, hi, -1, false⟩
def CS.from' (x : CS) : Int := if x.at' < 0 then x.lo else x.at' + 1
/-- What a Next tells, and where the Cursor is then. -/
def nextC (th : Nat → Nat) (x : CS) : Int × Bool × CS :=
  match (if x.done = true then [] else rngT th x.from' x.hi 64) with
  | [] => (0, false, { x with done := true })
  | k :: _ => (k, true, { x with at' := k })
/-- A range of a Tower's keys: empty, or it begins with the next one. -/
theorem rng_head {th : Nat → Nat} {lo hi : Int} : ∀ m, m ≤ 64 → (rngT th lo hi m = [] ∧ ∀ j : Nat, j < m → lo ≤ j → (j : Int) ≤ hi → th j = 0) ∨ ∃ (k : Nat) (t : List Int), rngT th lo hi m = (k : Int) :: t ∧ k < m ∧ 0 < th k ∧ lo ≤ k ∧ (k : Int) ≤ hi ∧ ∀ j : Nat, j < k → lo ≤ j → th j = 0
  | 0, _ => .inl ⟨rfl, fun j hj => absurd hj (Nat.not_lt_zero j)⟩
  | m + 1, hm => by
    rcases rng_head m (by omega) (th := th) (lo := lo) (hi := hi) with ⟨h1, h2⟩ | ⟨k, t, h1, h2, h3, h4, h5, h6⟩
    · by_cases hc : 0 < th m ∧ lo ≤ m ∧ (m : Int) ≤ hi
      · refine .inr ⟨m, [], ?_, by omega, hc.1, hc.2.1, hc.2.2, fun j hj hl => h2 j hj hl (by omega)⟩
        unfold rngT
        rw [if_pos hc, h1]
        rfl
      · refine .inl ⟨?_, fun j hj hl hh => ?_⟩
        · unfold rngT
          rw [if_neg hc, h1]
        · by_cases e : j = m
          · subst e; omega
          · exact h2 j (by omega) hl hh
    · refine .inr ⟨k, if 0 < th m ∧ lo ≤ m ∧ (m : Int) ≤ hi then t ++ [(m : Int)] else t, ?_, by omega, h3, h4, h5, h6⟩
      unfold rngT
      rw [h1]
      split <;> rfl
def twV (d : Bool) (t : Nat) : Value := match d with | true => .pointer none | false => .pointer (some ⟨t, 0, none⟩)
def onV (d : Bool) : Int := match d with | true => 1 | false => 0
/-- A Cursor at block c over the Tower t. -/
structure CuAt (w : World) (t c : Nat) (x : CS) : Prop where
  c0 : w.cell? ⟨c, 0, none⟩ = some (twV x.done t)
  c1 : w.cell? ⟨c, 1, none⟩ = some (.int .i64 x.lo)
  c2 : w.cell? ⟨c, 2, none⟩ = some (.int .i64 x.hi)
  c3 : w.cell? ⟨c, 3, none⟩ = some (.int .i64 x.at')
  c4 : w.cell? ⟨c, 4, none⟩ = some (.int .u32 (onV x.done))
  c5 : w.cell? ⟨c, 5, none⟩ = some (.int .i32 0)
  fz : ∀ i, w.frozen? ⟨c, i, none⟩ = false
  l0 : 0 ≤ x.lo
  h63 : x.hi ≤ 63
  a0 : -1 ≤ x.at'
  a1 : x.at' ≤ 63
  al : x.at' = -1 ∨ x.lo ≤ x.at'
section
theorem Keep.setUp {S : Nat → Prop} {a w : World} (h : Keep S a w) {p : Addr} (hp : a.heap.size ≤ p.block) (u : Value) : Keep S a (w.setCell p u) :=
  ⟨h.os, h.tape, h.output, by have := h.size; simpa [World.setCell] using this, fun k hk n => (Below.heap_setCell _ _ _ _ (by omega)).trans (h.block k hk n)⟩
variable {w w' : World} {t p q c : Nat} {th : Nat → Nat} {x : CS} {T : Nat → Prop}
theorem CuAt.lt (h : CuAt w t c x) : c < w.heap.size := lt_of_cell (a := ⟨c, 0, none⟩) h.c0
theorem CuAt.keep (h : CuAt w t c x) (k : Keep T w w') (hc : ¬ T c) : CuAt w' t c x :=
  ⟨k.cell h.c0 hc, k.cell h.c1 hc, k.cell h.c2 hc, k.cell h.c3 hc, k.cell h.c4 hc, k.cell h.c5 hc, fun i => (k.frozen (a := ⟨c, i, none⟩) h.lt hc).trans (h.fz i), h.l0, h.h63, h.a0, h.a1, h.al⟩
theorem cat_any (h : CuAt w t c x) (k : Int) (hs : x.at' = k) :
    Calls Try.prog 14 #[.pointer (some ⟨c, 0, none⟩)] w fun y w' => y = .returned (.int .i64 k) ∧ w = w' := by
  subst hs
  have g3 := h.c3
  obtain ⟨v, ev⟩ : ∃ v, x.at' = v := ⟨_, rfl⟩
  rw [ev] at g3 ⊢
  clear ev h
  go_enter Try.func14, Try.ntmps14
  go_wp2
  go_ret
  exact ⟨rfl, rfl⟩
set_option maxRecDepth 100000 in
theorem cdone_any (h : CuAt w t c x) (d : Bool) (hs : x.done = d) :
    Calls Try.prog 12 #[.pointer (some ⟨c, 0, none⟩)] w fun y w' => y = .returned (.bool d) ∧ w = w' := by
  subst hs
  have g0 := h.c0
  obtain ⟨v, ev⟩ : ∃ v, x.done = v := ⟨_, rfl⟩
  rw [ev] at g0 ⊢
  clear ev h
  cases v with
  | true =>
    replace g0 : w.cell? ⟨c, 0, none⟩ = some (.pointer none) := g0
    go_enter Try.func12, Try.ntmps12
    go_wp2
    go_ret
    exact ⟨rfl, rfl⟩
  | false =>
    replace g0 : w.cell? ⟨c, 0, none⟩ = some (.pointer (some ⟨t, 0, none⟩)) := g0
    go_enter Try.func12, Try.ntmps12
    go_wp2
    go_ret
    exact ⟨rfl, rfl⟩
theorem cspan_any (h : CuAt w t c x) (lo hi : Int) (hs : x.lo = lo ∧ x.hi = hi) :
    Calls Try.prog 17 #[.pointer (some ⟨c, 0, none⟩)] w fun y w' => y = .returned (.agg #[.int .i64 lo, .int .i64 hi]) ∧ Keep (fun _ => False) w w' := by
  have g1 := h.c1
  have g2 := h.c2
  rw [hs.1] at g1
  rw [hs.2] at g2
  clear h hs
  have KA := Keep.alloc (Keep.refl (fun _ => False) w) (.cells #[.int .i64 0, .int .i64 0] 50)
  have g1 := KA.cell g1 (by simp)
  have g2 := KA.cell g2 (by simp)
  go_enter Try.func17, Try.ntmps17
  go_wp2
  exact bodyPost_ret (v := .agg #[.int .i64 lo, .int .i64 hi]) (by simp [results, Try.results17, go_sem]) rfl ⟨rfl, Keep.alloc (Keep.refl _ _) _⟩
theorem ciskey_any (n : Int) (w : World) : Calls Try.prog 23 #[.int .i64 n] w fun y w' => y = .returned (.bool (decide (0 ≤ n ∧ n ≤ 63))) ∧ w = w' := by
  by_cases h0 : 0 ≤ n
  · by_cases h1 : n ≤ 63
    · go_enter Try.func23, Try.ntmps23
      go_wp2
      go_ret
      exact ⟨by simp; omega, rfl⟩
    · go_enter Try.func23, Try.ntmps23
      go_wp2
      go_ret
      exact ⟨by simp; omega, rfl⟩
  · go_enter Try.func23, Try.ntmps23
    go_wp2
    go_ret
    exact ⟨by simp; omega, rfl⟩
set_option maxRecDepth 100000 in
theorem cnew_ok (t : Nat) (lo hi : Int) (hl : 0 ≤ lo ∧ hi ≤ 63 ∧ lo ≤ hi) (w : World) :
    Calls Try.prog 9 #[.pointer (some ⟨t, 0, none⟩), .int .i64 lo, .int .i64 hi] w fun y w' => ∃ c, y = .returned (.tuple #[.pointer (some ⟨c, 0, none⟩), .int .i64 0]) ∧ CuAt w' t c (CS.new lo hi) ∧ w.heap.size ≤ c ∧ Keep (fun _ => False) w w' := by
  have d1 : decide (0 ≤ lo ∧ lo ≤ 63) = true := decide_eq_true (by omega)
  have d2 : decide (0 ≤ hi ∧ hi ≤ 63) = true := decide_eq_true (by omega)
  have d3 : decide (hi < lo) = false := decide_eq_false (by omega)
  have i1 := ciskey_any lo
  have i2 := ciskey_any hi
  rw [d1] at i1
  rw [d2] at i2
  go_enter Try.func9, Try.ntmps9
  go_wp2_with fail
  refine (i1 _).mono ?_
  rintro e w1 ⟨rfl, rfl⟩
  go_wp2_with fail
  refine (i2 _).mono ?_
  rintro e w1 ⟨rfl, rfl⟩
  clear i1 i2
  go_wp2
  have KA := Keep.alloc (Keep.refl (fun _ => False) w) (.cells #[.pointer (some ⟨t, 0, none⟩), .int .i64 lo, .int .i64 hi, .int .i64 (-1), .int .u32 0, .int .i32 0, .int .u32 0] 80)
  go_ret2
  exact ⟨w.heap.size, rfl, ⟨by simp [CS.new, twV], by simp [CS.new], by simp [CS.new], by simp [CS.new], by simp [CS.new, onV], by simp, fun i => by simp, hl.1, hl.2.1, by simp [CS.new], by simp [CS.new], .inl rfl⟩, Nat.le_refl _, KA⟩
theorem cnew_no (tv : Value) (htv : tv = .pointer none ∨ ∃ t, tv = .pointer (some ⟨t, 0, none⟩)) (lo hi : Int) (hl : tv = .pointer none ∨ ¬ (0 ≤ lo ∧ hi ≤ 63 ∧ lo ≤ hi)) (w : World) :
    Calls Try.prog 9 #[tv, .int .i64 lo, .int .i64 hi] w fun y w' => y = .returned (.tuple #[.pointer none, .int .i64 1]) ∧ w = w' := by
  rcases htv with rfl | ⟨t, rfl⟩
  · clear hl
    go_enter Try.func9, Try.ntmps9
    go_wp2
    go_ret2
    exact ⟨rfl, rfl⟩
  · have hl : ¬ (0 ≤ lo ∧ hi ≤ 63 ∧ lo ≤ hi) := by rcases hl with h | h; cases h; exact h
    have i1 := ciskey_any lo
    have i2 := ciskey_any hi
    by_cases h1 : 0 ≤ lo ∧ lo ≤ 63
    · rw [decide_eq_true h1] at i1
      by_cases h2 : 0 ≤ hi ∧ hi ≤ 63
      · rw [decide_eq_true h2] at i2
        have d3 : decide (hi < lo) = true := decide_eq_true (by omega)
        go_enter Try.func9, Try.ntmps9
        go_wp2_with fail
        refine (i1 _).mono ?_
        rintro e w1 ⟨rfl, rfl⟩
        go_wp2_with fail
        refine (i2 _).mono ?_
        rintro e w1 ⟨rfl, rfl⟩
        clear i1 i2
        go_wp2
        go_ret2
        exact ⟨rfl, rfl⟩
      · rw [decide_eq_false h2] at i2
        go_enter Try.func9, Try.ntmps9
        go_wp2_with fail
        refine (i1 _).mono ?_
        rintro e w1 ⟨rfl, rfl⟩
        go_wp2_with fail
        refine (i2 _).mono ?_
        rintro e w1 ⟨rfl, rfl⟩
        clear i1 i2
        go_wp2
        go_ret2
        exact ⟨rfl, rfl⟩
    · rw [decide_eq_false h1] at i1
      go_enter Try.func9, Try.ntmps9
      go_wp2_with fail
      refine (i1 _).mono ?_
      rintro e w1 ⟨rfl, rfl⟩
      clear i1 i2
      go_wp2
      go_ret2
      exact ⟨rfl, rfl⟩
theorem ahead_done (h : CuAt w t c x) (hd : x.done = true) :
    Calls Try.prog 25 #[.pointer (some ⟨c, 0, none⟩)] w fun y w' => y = .returned (.tuple #[.int .i64 0, .bool false]) ∧ w = w' := by
  have hD := cdone_any h true hd
  go_enter Try.func25, Try.ntmps25
  go_wp2_with fail
  refine hD.mono ?_
  rintro e w1 ⟨rfl, rfl⟩
  clear hD
  go_wp2
  go_ret2
  exact ⟨rfl, rfl⟩
/-- What From tells, and what ahead makes of it. -/
inductive AhdFrom (th : Nat → Nat) (f hi : Int) : Int → Bool → Int → Bool → Prop where
  | none : (∀ j : Nat, j < 64 → f ≤ j → th j = 0) → AhdFrom th f hi 0 false 0 false
  | far (k : Nat) : NextT th f k → hi < k → AhdFrom th f hi k true 0 false
  | here (k : Nat) : NextT th f k → (k : Int) ≤ hi → AhdFrom th f hi k true k true
theorem ahd_or {k : Int} {ok : Bool} {x' : CS} (h63 : x.hi ≤ 63) (hd : x.done = false) (hs : nextC th x = (k, ok, x')) :
    ∃ k0 ok0, AhdFrom th x.from' x.hi k0 ok0 k ok ∧ ((ok = false ∧ x' = { x with done := true }) ∨ (ok = true ∧ x' = { x with at' := k } ∧ x.from' ≤ k ∧ k ≤ 63 ∧ 0 ≤ k)) := by
  unfold nextC at hs
  rw [hd, if_neg (by simp)] at hs
  rcases rng_head 64 (Nat.le_refl _) (th := th) (lo := x.from') (hi := x.hi) with ⟨h1, h2⟩ | ⟨j, l, h1, h2, h3, h4, h5, h6⟩
  · rw [h1] at hs
    cases hs
    rcases next_or th x.from' with hn | ⟨j, hj⟩
    · exact ⟨0, false, .none hn, .inl ⟨rfl, rfl⟩⟩
    · refine ⟨(j : Int), true, .far j hj ?_, .inl ⟨rfl, rfl⟩⟩
      rcases Int.lt_or_le x.hi (j : Int) with e | e
      · exact e
      · have := h2 j hj.lt hj.le e
        have := hj.here
        omega
  · rw [h1] at hs
    cases hs
    exact ⟨(j : Int), true, .here j ⟨h2, h3, h4, h6⟩ h5, .inr ⟨rfl, by rw [hd], h4, by omega, by omega⟩⟩
set_option maxRecDepth 100000 in
set_option maxHeartbeats 4000000 in
theorem ahead_live (h : CuAt w t c x) (T : Tow w t p q th) (hc : ¬ Two p q c) (hd : x.done = false) (k0 k : Int) (ok0 ok : Bool) (ha : AhdFrom th x.from' x.hi k0 ok0 k ok) :
    Calls Try.prog 25 #[.pointer (some ⟨c, 0, none⟩)] w fun y w' => y = .returned (.tuple #[.int .i64 k, .bool ok]) ∧ Tow w' t p q th ∧ Keep (Two p q) w w' := by
  have hD := cdone_any h false hd
  have g0 := h.c0
  rw [hd] at g0
  replace g0 : w.cell? ⟨c, 0, none⟩ = some (.pointer (some ⟨t, 0, none⟩)) := g0
  have g1 := h.c1
  have g2 := h.c2
  have g3 := h.c3
  have a0 := h.a0
  have a1 := h.a1
  have al := h.al
  have l0 := h.l0
  obtain ⟨f, ef⟩ : ∃ f, x.from' = f := ⟨_, rfl⟩
  obtain ⟨lo, elo⟩ : ∃ v, x.lo = v := ⟨_, rfl⟩
  obtain ⟨at0, eat⟩ : ∃ v, x.at' = v := ⟨_, rfl⟩
  obtain ⟨hi, ehi⟩ : ∃ v, x.hi = v := ⟨_, rfl⟩
  have ef2 : (if at0 < 0 then lo else at0 + 1) = f := by rw [← ef, ← elo, ← eat]; rfl
  rw [elo] at g1 al l0
  rw [eat] at g3 a0 a1 al
  rw [ehi] at g2 ha
  rw [ef] at ha
  have w1 : IntKind.i64.wrap (at0 + 1) = at0 + 1 := IntWalk.i64_in _ (by omega)
  have hm : (if lo < IntKind.i64.wrap (at0 + 1) then IntKind.i64.wrap (at0 + 1) else lo) = f := by
    rw [← ef2, w1]
    split <;> split <;> omega
  obtain ⟨m, em⟩ : ∃ m, IntKind.i64.wrap (at0 + 1) = m := ⟨_, rfl⟩
  have kd := (Keep.refl (fun _ => False) w).drew
  have Td := T.quiet kd
  clear ef2 em w1 al l0 a0 a1 elo eat ehi ef h hd
  have hF : Calls Try.prog 32 #[.pointer (some ⟨t, 0, none⟩), .int .i64 f] w.drew fun y w' => y = .returned (.tuple #[.int .i64 k0, .bool ok0]) ∧ Tow w' t p q th ∧ Keep (Two p q) w.drew w' := by
    cases ha with
    | none hn => exact from_no Td f hn
    | far j hj _ => exact from_yes Td f j hj
    | here j hj _ => exact from_yes Td f j hj
  have hk : (ok0 = false ∧ k0 = 0 ∧ k = 0 ∧ ok = false) ∨ (ok0 = true ∧ hi < k0 ∧ k = 0 ∧ ok = false) ∨ (ok0 = true ∧ k0 ≤ hi ∧ k = k0 ∧ ok = true) := by
    cases ha with
    | none hn => exact .inl ⟨rfl, rfl, rfl, rfl⟩
    | far j hj hl => exact .inr (.inl ⟨rfl, hl, rfl, rfl⟩)
    | here j hj hl => exact .inr (.inr ⟨rfl, hl, rfl, rfl⟩)
  clear ha Td T
  go_enter Try.func25, Try.ntmps25
  go_wp2_with fail
  refine hD.mono ?_
  rintro e w1 ⟨rfl, rfl⟩
  clear hD
  go_wp2_with fail
  refine wp_region_held_drew (S := fun w' => w'.cell? ⟨c, 0, none⟩ = some (.pointer (some ⟨t, 0, none⟩)) ∧ w'.cell? ⟨c, 1, none⟩ = some (.int .i64 lo) ∧ w'.cell? ⟨c, 2, none⟩ = some (.int .i64 hi) ∧ w'.cell? ⟨c, 3, none⟩ = some (.int .i64 at0)) (by kernel_rfl) ⟨g0, g1, g2, g3⟩ (fun hHeld => ?_)
  clear g0 g1 g2 g3
  refine wpAnyH_take (i := 0) (v := ?qvu0) rfl (by kernel_rfl) (by kernel_rfl) (by kernel_rfl) (fun _ _ _ h => h) (Or.inl ⟨by rfl, ?qyu0⟩) (by assumption) ?qru0; case qyu0 => ((intro w hSw; (try dsimp only at hSw); go_simp); try (with_reducible rfl))
  ((try simp only [List.getElem_toArray]); (try simp only [List.getElem_cons_succ]); (try simp only [List.getElem_cons_zero]); (try simp only [Act.put]); (try simp only [List.setIfInBounds_toArray]); (try simp only [List.set_cons_succ]); (try simp only [List.set_cons_zero]))
  refine wpAnyH_take (i := 1) (v := ?qvu1) rfl (by kernel_rfl) (by kernel_rfl) (by kernel_rfl) (fun _ _ _ h => h) (Or.inl ⟨by rfl, ?qyu1⟩) (by assumption) ?qru1; case qyu1 => ((intro w hSw; (try dsimp only at hSw); go_simp); try (with_reducible rfl))
  ((try simp only [List.getElem_toArray]); (try simp only [List.getElem_cons_succ]); (try simp only [List.getElem_cons_zero]); (try simp only [Act.put]); (try simp only [List.setIfInBounds_toArray]); (try simp only [List.set_cons_succ]); (try simp only [List.set_cons_zero]))
  refine wpAnyH_take (i := 2) (v := ?qvu2) rfl (by kernel_rfl) (by kernel_rfl) (by kernel_rfl) (fun _ _ _ h => h) (Or.inl ⟨by rfl, ?qyu2⟩) (by assumption) ?qru2; case qyu2 => ((intro w hSw; (try dsimp only at hSw); go_simp); try (with_reducible rfl))
  ((try simp only [List.getElem_toArray]); (try simp only [List.getElem_cons_succ]); (try simp only [List.getElem_cons_zero]); (try simp only [Act.put]); (try simp only [List.setIfInBounds_toArray]); (try simp only [List.set_cons_succ]); (try simp only [List.set_cons_zero]))
  refine wpAnyH_take (i := 3) (v := ?qvu3) rfl (by kernel_rfl) (by kernel_rfl) (by kernel_rfl) (fun _ _ _ h => h) (Or.inl ⟨by rfl, ?qyu3⟩) (by assumption) ?qru3; case qyu3 => ((intro w hSw; (try dsimp only at hSw); go_simp); try (with_reducible rfl))
  ((try simp only [List.getElem_toArray]); (try simp only [List.getElem_cons_succ]); (try simp only [List.getElem_cons_zero]); (try simp only [Act.put]); (try simp only [List.setIfInBounds_toArray]); (try simp only [List.set_cons_succ]); (try simp only [List.set_cons_zero]))
  refine wpAnyH_take (i := 4) (v := ?qvu4) rfl (by kernel_rfl) (by kernel_rfl) (by kernel_rfl) (fun _ _ _ h => h) (Or.inl ⟨by rfl, ?qyu4⟩) (by assumption) ?qru4; case qyu4 => ((intro w hSw; (try dsimp only at hSw); go_simp); try (with_reducible rfl))
  ((try simp only [List.getElem_toArray]); (try simp only [List.getElem_cons_succ]); (try simp only [List.getElem_cons_zero]); (try simp only [Act.put]); (try simp only [List.setIfInBounds_toArray]); (try simp only [List.set_cons_succ]); (try simp only [List.set_cons_zero]))
  refine wpAnyH_take (i := 5) (v := ?qvu5) rfl (by kernel_rfl) (by kernel_rfl) (by kernel_rfl) (fun _ _ _ h => h) (Or.inl ⟨by rfl, ?qyu5⟩) (by assumption) ?qru5; case qyu5 => ((intro w hSw; (try dsimp only at hSw); go_simp); try (with_reducible rfl))
  ((try simp only [List.getElem_toArray]); (try simp only [List.getElem_cons_succ]); (try simp only [List.getElem_cons_zero]); (try simp only [Act.put]); (try simp only [List.setIfInBounds_toArray]); (try simp only [List.set_cons_succ]); (try simp only [List.set_cons_zero]))
  refine wpAnyH_take (i := 6) (v := ?qvu6) rfl (by kernel_rfl) (by kernel_rfl) (by kernel_rfl) (fun _ _ _ h => h) (Or.inl ⟨by rfl, ?qyu6⟩) (by assumption) ?qru6; case qyu6 => ((intro w hSw; (try dsimp only at hSw); go_simp); try (with_reducible rfl))
  ((try simp only [List.getElem_toArray]); (try simp only [List.getElem_cons_succ]); (try simp only [List.getElem_cons_zero]); (try simp only [Act.put]); (try simp only [List.setIfInBounds_toArray]); (try simp only [List.set_cons_succ]); (try simp only [List.set_cons_zero]))
  refine wpAnyH_take (i := 7) (v := ?qvu7) rfl (by kernel_rfl) (by kernel_rfl) (by kernel_rfl) (fun _ _ _ h => h) (Or.inl ⟨by rfl, ?qyu7⟩) (by assumption) ?qru7; case qyu7 => ((intro w hSw; (try dsimp only at hSw); go_simp); try (with_reducible rfl))
  ((try simp only [List.getElem_toArray]); (try simp only [List.getElem_cons_succ]); (try simp only [List.getElem_cons_zero]); (try simp only [Act.put]); (try simp only [List.setIfInBounds_toArray]); (try simp only [List.set_cons_succ]); (try simp only [List.set_cons_zero]))
  refine wpAnyH_take (i := 8) (v := ?qvu8) rfl (by kernel_rfl) (by kernel_rfl) (by kernel_rfl) (fun _ _ _ h => h) (Or.inl ⟨by rfl, ?qyu8⟩) (by assumption) ?qru8; case qyu8 => ((intro w hSw; (try dsimp only at hSw); go_simp); try (with_reducible rfl))
  ((try simp only [List.getElem_toArray]); (try simp only [List.getElem_cons_succ]); (try simp only [List.getElem_cons_zero]); (try simp only [Act.put]); (try simp only [List.setIfInBounds_toArray]); (try simp only [List.set_cons_succ]); (try simp only [List.set_cons_zero]))
  refine wpAnyH_take (i := 9) (v := ?qvu9) rfl (by kernel_rfl) (by kernel_rfl) (by kernel_rfl) (fun _ _ _ h => h) (Or.inl ⟨by rfl, ?qyu9⟩) (by assumption) ?qru9; case qyu9 => ((intro w hSw; (try dsimp only at hSw); go_simp); try (with_reducible rfl))
  ((try simp only [List.getElem_toArray]); (try simp only [List.getElem_cons_succ]); (try simp only [List.getElem_cons_zero]); (try simp only [Act.put]); (try simp only [List.setIfInBounds_toArray]); (try simp only [List.set_cons_succ]); (try simp only [List.set_cons_zero]))
  refine wpAnyH_take (i := 10) (v := ?qvu10) rfl (by kernel_rfl) (by kernel_rfl) (by kernel_rfl) (fun _ _ _ h => h) (Or.inl ⟨by rfl, ?qyu10⟩) (by assumption) ?qru10; case qyu10 => ((intro w hSw; (try dsimp only at hSw); go_simp); try (with_reducible rfl))
  ((try simp only [List.getElem_toArray]); (try simp only [List.getElem_cons_succ]); (try simp only [List.getElem_cons_zero]); (try simp only [Act.put]); (try simp only [List.setIfInBounds_toArray]); (try simp only [List.set_cons_succ]); (try simp only [List.set_cons_zero]))
  refine wpAnyH_take (i := 11) (v := ?qvu11) rfl (by kernel_rfl) (by kernel_rfl) (by kernel_rfl) (fun _ _ _ h => h) (Or.inl ⟨by rfl, ?qyu11⟩) (by assumption) ?qru11; case qyu11 => ((intro w hSw; (try dsimp only at hSw); go_simp); try (with_reducible rfl))
  ((try simp only [List.getElem_toArray]); (try simp only [List.getElem_cons_succ]); (try simp only [List.getElem_cons_zero]); (try simp only [Act.put]); (try simp only [List.setIfInBounds_toArray]); (try simp only [List.set_cons_succ]); (try simp only [List.set_cons_zero]))
  refine wpAnyH_take (i := 12) (v := ?qvu12) rfl (by kernel_rfl) (by kernel_rfl) (by kernel_rfl) (fun _ _ _ h => h) (Or.inl ⟨by rfl, ?qyu12⟩) (by assumption) ?qru12; case qyu12 => ((intro w hSw; (try dsimp only at hSw); go_simp); try (with_reducible rfl))
  ((try simp only [List.getElem_toArray]); (try simp only [List.getElem_cons_succ]); (try simp only [List.getElem_cons_zero]); (try simp only [Act.put]); (try simp only [List.setIfInBounds_toArray]); (try simp only [List.set_cons_succ]); (try simp only [List.set_cons_zero]))
  refine wpAnyH_take (i := 13) (v := ?qvu13) rfl (by kernel_rfl) (by kernel_rfl) (by kernel_rfl) (fun _ _ _ h => h) (Or.inl ⟨by rfl, ?qyu13⟩) (by assumption) ?qru13; case qyu13 => ((intro w hSw; (try dsimp only at hSw); go_simp); try (with_reducible rfl))
  ((try simp only [List.getElem_toArray]); (try simp only [List.getElem_cons_succ]); (try simp only [List.getElem_cons_zero]); (try simp only [Act.put]); (try simp only [List.setIfInBounds_toArray]); (try simp only [List.set_cons_succ]); (try simp only [List.set_cons_zero]))
  refine wpAnyH_take (i := 14) (v := ?qvu14) rfl (by kernel_rfl) (by kernel_rfl) (by kernel_rfl) (fun _ _ _ h => h) (Or.inl ⟨by rfl, ?qyu14⟩) (by assumption) ?qru14; case qyu14 => ((intro w hSw; (try dsimp only at hSw); go_simp); try (with_reducible rfl))
  ((try simp only [List.getElem_toArray]); (try simp only [List.getElem_cons_succ]); (try simp only [List.getElem_cons_zero]); (try simp only [Act.put]); (try simp only [List.setIfInBounds_toArray]); (try simp only [List.set_cons_succ]); (try simp only [List.set_cons_zero]))
  refine wpAnyH_ready (rs := [15]) (by kernel_rfl) (by simp) ?_
  refine AllReadyH.cons rfl (fun K hK => ?_) AllReadyH.nil
  go_simp
  refine hF.mono ?_
  rintro e w2 ⟨rfl, T2, k2⟩
  refine hK.out _ _ ⟨k2.cell hHeld.1 hc, k2.cell hHeld.2.1 hc, k2.cell hHeld.2.2.1 hc, k2.cell hHeld.2.2.2 hc⟩ (fun hHeld => ?_)
  clear hK K
  ((try simp only [List.getElem_toArray]); (try simp only [List.getElem_cons_succ]); (try simp only [List.getElem_cons_zero]); (try simp only [Act.put]); (try simp only [List.setIfInBounds_toArray]); (try simp only [List.set_cons_succ]); (try simp only [List.set_cons_zero]))
  refine wpAnyH_take (i := 16) (v := ?qvu15) rfl (by kernel_rfl) (by kernel_rfl) (by kernel_rfl) (fun _ _ _ h => h) (Or.inl ⟨by rfl, ?qyu15⟩) (by assumption) ?qru15; case qyu15 => ((intro w hSw; (try dsimp only at hSw); go_simp); try (with_reducible rfl))
  ((try simp only [List.getElem_toArray]); (try simp only [List.getElem_cons_succ]); (try simp only [List.getElem_cons_zero]); (try simp only [Act.put]); (try simp only [List.setIfInBounds_toArray]); (try simp only [List.set_cons_succ]); (try simp only [List.set_cons_zero]))
  refine wpAnyH_take (i := 17) (v := ?qvu16) rfl (by kernel_rfl) (by kernel_rfl) (by kernel_rfl) (fun _ _ _ h => h) (Or.inl ⟨by rfl, ?qyu16⟩) (by assumption) ?qru16; case qyu16 => ((intro w hSw; (try dsimp only at hSw); go_simp); try (with_reducible rfl))
  ((try simp only [List.getElem_toArray]); (try simp only [List.getElem_cons_succ]); (try simp only [List.getElem_cons_zero]); (try simp only [Act.put]); (try simp only [List.setIfInBounds_toArray]); (try simp only [List.set_cons_succ]); (try simp only [List.set_cons_zero]))
  refine wpAnyH_take (i := 18) (v := ?qvu17) rfl (by kernel_rfl) (by kernel_rfl) (by kernel_rfl) (fun _ _ _ h => h) (Or.inl ⟨by rfl, ?qyu17⟩) (by assumption) ?qru17; case qyu17 => ((intro w hSw; (try dsimp only at hSw); go_simp); try (with_reducible rfl))
  ((try simp only [List.getElem_toArray]); (try simp only [List.getElem_cons_succ]); (try simp only [List.getElem_cons_zero]); (try simp only [Act.put]); (try simp only [List.setIfInBounds_toArray]); (try simp only [List.set_cons_succ]); (try simp only [List.set_cons_zero]))
  refine wpAnyH_take (i := 19) (v := ?qvu18) rfl (by kernel_rfl) (by kernel_rfl) (by kernel_rfl) (fun _ _ _ h => h) (Or.inl ⟨by rfl, ?qyu18⟩) (by assumption) ?qru18; case qyu18 => ((intro w hSw; (try dsimp only at hSw); go_simp); try (with_reducible rfl))
  ((try simp only [List.getElem_toArray]); (try simp only [List.getElem_cons_succ]); (try simp only [List.getElem_cons_zero]); (try simp only [Act.put]); (try simp only [List.setIfInBounds_toArray]); (try simp only [List.set_cons_succ]); (try simp only [List.set_cons_zero]))
  refine wpAnyH_take (i := 20) (v := ?qvu19) rfl (by kernel_rfl) (by kernel_rfl) (by kernel_rfl) (fun _ _ _ h => h) (Or.inl ⟨by rfl, ?qyu19⟩) (by assumption) ?qru19; case qyu19 => ((intro w hSw; (try dsimp only at hSw); go_simp); try (with_reducible rfl))
  ((try simp only [List.getElem_toArray]); (try simp only [List.getElem_cons_succ]); (try simp only [List.getElem_cons_zero]); (try simp only [Act.put]); (try simp only [List.setIfInBounds_toArray]); (try simp only [List.set_cons_succ]); (try simp only [List.set_cons_zero]))
  refine wpAnyH_done (by kernel_rfl) ?_ _
  skip
  obtain ⟨y0, y1, y2, y3⟩ := hHeld
  have K := (kd.mono (T := Two p q) (by simp)).trans k2
  rcases hk with ⟨rfl, rfl, rfl, rfl⟩ | ⟨rfl, hlt, rfl, rfl⟩ | ⟨rfl, hle, rfl, rfl⟩
  · go_wp2
    go_ret2
    exact ⟨rfl, T2, K⟩
  · have d1 : decide (hi < k0) = true := decide_eq_true hlt
    go_wp2
    go_ret2
    exact ⟨rfl, T2, K⟩
  · have d1 : decide (hi < k) = false := decide_eq_false (by omega)
    go_wp2
    go_ret2
    exact ⟨rfl, T2, K⟩
theorem CuAt.told (h : CuAt w t c x) (k : Int) (hk : x.from' ≤ k ∧ k ≤ 63 ∧ 0 ≤ k) : CuAt (w.setCell ⟨c, 3, none⟩ (.int .i64 k)) t c { x with at' := k } := by
  have a0 := h.a0
  have al := h.al
  have l0 := h.l0
  have e : x.lo ≤ k := by
    have := hk.1
    unfold CS.from' at this
    split at this <;> omega
  exact ⟨(World.cell?_setCell_other _ _ _ _ (by simp)).trans h.c0, (World.cell?_setCell_other _ _ _ _ (by simp)).trans h.c1, (World.cell?_setCell_other _ _ _ _ (by simp)).trans h.c2, World.cell?_setCell_same _ _ _ h.c3, (World.cell?_setCell_other _ _ _ _ (by simp)).trans h.c4, (World.cell?_setCell_other _ _ _ _ (by simp)).trans h.c5, fun i => by rw [World.frozen?_setCell]; exact h.fz i, h.l0, h.h63, by show -1 ≤ k; omega, hk.2.1, .inr e⟩
theorem cend_any (h0 : w.cell? ⟨c, 0, none⟩ = some (.pointer (some ⟨t, 0, none⟩))) (f0 : w.frozen? ⟨c, 0, none⟩ = false) :
    Calls Try.prog 27 #[.pointer (some ⟨c, 0, none⟩)] w fun y w' => y = .returned (.tuple #[]) ∧ w' = w.setCell ⟨c, 0, none⟩ (.pointer none) := by
  go_enter Try.func27, Try.ntmps27
  go_wp2
  go_end0
  exact ⟨rfl, rfl⟩
theorem cstop (h : CuAt w t c x) (hd : x.done = false) :
    Calls Try.prog 26 #[.pointer (some ⟨c, 4, none⟩), .func (.func 27) #[.pointer (some ⟨c, 0, none⟩)] #[]] w fun y w' => y = .returned (.tuple #[]) ∧ CuAt w' t c { x with done := true } ∧ Keep (fun j => j = c) w w' := by
  have f5 : w.frozen? ⟨c, 4 + 1, none⟩ = false := h.fz 5
  have c4 : w.cell? ⟨c, 4, none⟩ = some (.int .u32 0) := by have := h.c4; rw [hd] at this; exact this
  have c0 : w.cell? ⟨c, 0, none⟩ = some (.pointer (some ⟨t, 0, none⟩)) := by have := h.c0; rw [hd] at this; exact this
  have c1 := h.c1
  have c2 := h.c2
  have c3 := h.c3
  have c5 := h.c5
  have fz := h.fz
  have l0 := h.l0
  have h63 := h.h63
  have a0 := h.a0
  have a1 := h.a1
  have al := h.al
  refine (once_firstE c 4 _ (fun w2 => w2 = (w.setCell ⟨c, 4 + 1, none⟩ (.int .i32 1)).setCell ⟨c, 0, none⟩ (.pointer none)) w c4 c5 f5 ((cend_any (t := t) ((World.cell?_setCell_other _ _ _ _ (by simp)).trans c0) (by rw [World.frozen?_setCell]; exact fz 0)).mono ?_)).mono ?_
  · rintro e w2 ⟨rfl, rfl⟩
    refine ⟨rfl, rfl, ?_, ?_, ?_, ?_⟩
    · rw [World.cell?_setCell_other _ _ _ _ (by simp), World.cell?_setCell_other _ _ _ _ (by simp)]; exact c4
    · rw [World.cell?_setCell_other _ _ _ _ (by simp)]; exact World.cell?_setCell_same _ _ _ c5
    · rw [World.frozen?_setCell, World.frozen?_setCell]; exact fz 4
    · rw [World.frozen?_setCell, World.frozen?_setCell]; exact fz 5
  · rintro e w' ⟨rfl, w2, rfl, rfl⟩
    refine ⟨rfl, ⟨?_, ?_, ?_, ?_, ?_, ?_, fun i => ?_, l0, h63, a0, a1, al⟩, ?_⟩
    · rw [World.cell?_setCell_other _ _ _ _ (by simp), World.cell?_setCell_other _ _ _ _ (by simp)]
      exact World.cell?_setCell_same _ _ _ ((World.cell?_setCell_other _ _ _ _ (by simp)).trans c0)
    · rw [World.cell?_setCell_other _ _ _ _ (by simp), World.cell?_setCell_other _ _ _ _ (by simp)]
      exact (World.cell?_setCell_other _ _ _ _ (by simp)).trans ((World.cell?_setCell_other _ _ _ _ (by simp)).trans c1)
    · rw [World.cell?_setCell_other _ _ _ _ (by simp), World.cell?_setCell_other _ _ _ _ (by simp)]
      exact (World.cell?_setCell_other _ _ _ _ (by simp)).trans ((World.cell?_setCell_other _ _ _ _ (by simp)).trans c2)
    · rw [World.cell?_setCell_other _ _ _ _ (by simp), World.cell?_setCell_other _ _ _ _ (by simp)]
      exact (World.cell?_setCell_other _ _ _ _ (by simp)).trans ((World.cell?_setCell_other _ _ _ _ (by simp)).trans c3)
    · rw [World.cell?_setCell_other _ _ _ _ (by simp)]
      exact World.cell?_setCell_same _ _ _ ((World.cell?_setCell_other _ _ _ _ (by simp)).trans ((World.cell?_setCell_other _ _ _ _ (by simp)).trans c4))
    · exact World.cell?_setCell_same _ _ _ ((World.cell?_setCell_other _ _ _ _ (by simp)).trans ((World.cell?_setCell_other _ _ _ _ (by simp)).trans (World.cell?_setCell_same _ _ _ c5)))
    · rw [World.frozen?_setCell, World.frozen?_setCell]
      show ((w.setCell _ _).setCell _ _).frozen? _ = false
      rw [World.frozen?_setCell, World.frozen?_setCell]
      exact fz i
    · exact (((((Keep.refl (fun j => j = c) w).setCell (p := ⟨c, 4 + 1, none⟩) rfl _).setCell (p := ⟨c, 0, none⟩) rfl _).drew).setCell (p := ⟨c, 4, none⟩) rfl _).setCell (p := ⟨c, 4 + 1, none⟩) rfl _
/-- A Next leaves this: the Cursor where it is to be, the Tower as it was. -/
def NextP (t c p q : Nat) (th : Nat → Nat) (x' : CS) (w w' : World) : Prop := CuAt w' t c x' ∧ Tow w' t p q th ∧ Keep (fun j => j = c ∨ Two p q j) w w'
set_option maxRecDepth 100000 in
theorem cnext_any (h : CuAt w t c x) (T : Tow w t p q th) (ht : c ≠ t) (hc : ¬ Two p q c) (k : Int) (ok : Bool) (x' : CS) (hs : nextC th x = (k, ok, x')) :
    Calls Try.prog 11 #[.pointer (some ⟨c, 0, none⟩)] w fun y w' => y = .returned (.tuple #[.int .i64 k, .bool ok]) ∧ NextP t c p q th x' w w' := by
  have kc : ∀ {w1 w2 : World}, Tow w1 t p q th → Keep (fun j => j = c) w1 w2 → Tow w2 t p q th := fun T1 k1 => T1.keep k1 (fun e => ht e.symm) (fun e => hc (.inl e.symm)) (fun e => hc (.inr e.symm))
  cases hd : x.done with
  | true =>
    have e : (k, ok, x') = (0, false, x) := by
      rw [← hs]
      unfold nextC
      rw [hd, if_pos rfl]
      cases x
      cases hd
      rfl
    cases e
    have c4 : w.cell? ⟨c, 4, none⟩ = some (.int .u32 1) := by have := h.c4; rw [hd] at this; exact this
    have hA := ahead_done h hd
    have hO := once_done c 4 (.func (.func 27) #[.pointer (some ⟨c, 0, none⟩)] #[]) w c4
    have P : NextP t c p q th x w w := ⟨h, T, Keep.refl _ _⟩
    clear h hs hd c4 kc
    go_enter Try.func11, Try.ntmps11
    go_wp2_with fail
    refine hA.mono ?_
    rintro e w1 ⟨rfl, rfl⟩
    go_wp2_with fail
    refine hO.mono ?_
    rintro e w1 ⟨rfl, rfl⟩
    clear hA hO
    go_wp2
    go_ret2
    exact ⟨rfl, P⟩
  | false =>
    obtain ⟨k0, ok0, ha, hx⟩ := ahd_or h.h63 hd hs
    have hA := ahead_live h T hc hd k0 k ok0 ok ha
    have fr : ∀ {w1 : World}, Keep (Two p q) w w1 → CuAt w1 t c x := fun k1 => h.keep k1 hc
    clear ha hs
    rcases hx with ⟨rfl, rfl⟩ | ⟨rfl, rfl, hk⟩
    · go_enter Try.func11, Try.ntmps11
      go_wp2_with fail
      refine hA.mono ?_
      rintro e w1 ⟨rfl, T1, k1⟩
      have hO := cstop (fr k1) hd
      have P : ∀ w2, CuAt w2 t c { x with done := true } → Keep (fun j => j = c) w1 w2 → NextP t c p q th { x with done := true } w w2 := fun w2 h2 k2 => ⟨h2, kc T1 k2, (k1.mono (fun j e => .inr e)).trans (k2.mono (fun j e => .inl e))⟩
      have P := Lib.hid P
      clear hA h T fr kc T1 k1 hd
      go_wp2_with fail
      refine hO.mono ?_
      rintro e w2 ⟨rfl, h2, k2⟩
      have Q := P.out _ h2 k2
      clear hO h2 k2 P
      go_wp2
      go_ret2
      exact ⟨rfl, Q⟩
    · go_enter Try.func11, Try.ntmps11
      go_wp2_with fail
      refine hA.mono ?_
      rintro e w1 ⟨rfl, T1, k1⟩
      have h1 := fr k1
      have c3 := h1.c3
      have f3 := h1.fz 3
      have P : NextP t c p q th { x with at' := k } w (w1.setCell ⟨c, 3, none⟩ (.int .i64 k)) := ⟨h1.told k hk, kc T1 (keep_one w1 ⟨c, 3, none⟩ _), (k1.mono (fun j e => .inr e)).trans ((keep_one w1 ⟨c, 3, none⟩ _).mono (fun j e => .inl e))⟩
      obtain ⟨v3, e3⟩ : ∃ v, x.at' = v := ⟨_, rfl⟩
      rw [e3] at c3
      have P := Lib.hid P
      clear hA h T fr kc T1 k1 hd h1 e3 hk
      go_wp2
      go_ret2
      exact ⟨rfl, P.out⟩
end
end Go.Proofs.Ytopnhkogapidhaa
