/- Package table, the parts: what a transaction's block holds, pack, unpack, find, live, New, Len, Can; conditions: the Table is one that calls have made of an empty one. -/
import Derived.Test.YtodmpmnjkfnogaaPTab
import Derived.Test.YtodmpmnjkfnogaaRefT2
import Derived.Test.YtodmpmnjkfnogaaBits
import Derived.Test.YtodmpmnjkfnogaaAtom
namespace Go.Proofs.Ytodmpmnjkfnogaa
open Go.ChangeShapes Go.WideShapes Go.ChangeAt Go.RowKit
set_option linter.unusedVariables false

/-- The word of a transaction. -/
theorem pk_or (st e : Int) (s0 : 0 ≤ st) (s1 : st ≤ 7) (e0 : 0 ≤ e) (e1 : e ≤ 1099511627776) : bits .or .u64 (e * 8) st = e * 8 + st := by
  obtain ⟨m, rfl⟩ := Int.eq_ofNat_of_zero_le s0
  obtain ⟨n, rfl⟩ := Int.eq_ofNat_of_zero_le e0
  have k := nat_join 3 (n * 8) m (by omega) (by omega)
  have c1 : (n : Int) * 8 = ((n * 8 : Nat) : Int) := by omega
  rw [c1, u64_or_nat _ _ (by omega) (by omega), k]; omega
theorem pk_and (st e : Int) (s0 : 0 ≤ st) (s1 : st ≤ 7) (e0 : 0 ≤ e) (e1 : e ≤ 1099511627776) : bits .and .u64 (e * 8 + st) 7 = st := by
  rw [u64_mask3 _ (by omega) (by omega)]; omega
theorem qpack (st e : Int) (s0 : 0 ≤ st) (s1 : st ≤ 7) (e0 : 0 ≤ e) (e1 : e ≤ 1099511627776) (w : World) : Calls Try.prog 26 #[.int .i64 st, .int .u64 e] w fun x w' => x = .returned (.int .u64 (e * 8 + st)) ∧ w = w' := by
  have h := pk_or st e s0 s1 e0 e1
  go_enter Try.func26, Try.ntmps26
  go_wp2
  go_ret
  exact ⟨rfl, rfl⟩
theorem qunpack (st e : Int) (s0 : 0 ≤ st) (s1 : st ≤ 7) (e0 : 0 ≤ e) (e1 : e ≤ 1099511627776) (w : World) : Calls Try.prog 30 #[.int .u64 (e * 8 + st)] w fun x w' => x = .returned (.tuple #[.int .i64 st, .int .u64 e]) ∧ w = w' := by
  have h := pk_and st e s0 s1 e0 e1
  have h2 : (e * 8 + st) / 8 = e := by omega
  have h3 : wrap64 st = st := by unfold wrap64; omega
  obtain ⟨a, ea⟩ : ∃ a, e * 8 + st = a := ⟨_, rfl⟩
  rw [ea] at h h2 ⊢
  clear ea
  go_enter Try.func30, Try.ntmps30
  go_wp2
  go_ret2
  exact ⟨rfl, rfl⟩
structure EntL (w : World) (b : Nat) (x : Tx) : Prop where
  c0 : w.cell? ⟨b, 0, none⟩ = some (.int .i64 x.lv)
  c1 : w.cell? ⟨b, 1, none⟩ = some (.int .u64 x.b)
  c2 : w.cell? ⟨b, 2, none⟩ = some (.int .u64 (x.e * 8 + x.st))
  c3 : w.cell? ⟨b, 3, none⟩ = some (.int .u32 (if x.st ≤ 2 then 0 else 1))
  c4 : w.cell? ⟨b, 4, none⟩ = some (.int .i32 0)
  fz : ∀ i, w.frozen? ⟨b, i, none⟩ = false
theorem entL : Ents EntL :=
  ⟨fun h k n => ⟨k.cell h.c0 n, k.cell h.c1 n, k.cell h.c2 n, k.cell h.c3 n, k.cell h.c4 n, fun i => (k.frozen (a := ⟨_, i, none⟩) (lt_of_cell (a := ⟨_, 0, none⟩) h.c0) n).trans (h.fz i)⟩, fun h => lt_of_cell (a := ⟨_, 0, none⟩) h.c0⟩
abbrev QT (w : World) (p : Nat) (v : Value) (bs : List Nat) (s : TS) : Prop := PT EntL 0 1 61 w p v bs s
section
variable {w w' : World} {p : Nat} {v : Value} {bs : List Nat} {s : TS}
theorem qfind_in (h : QT w p v bs s) (i : Nat) (hi : i < s.l.length) (n1 : s.l.length ≤ 65535) : Calls Try.prog 27 #[.pointer (some ⟨p, 0, none⟩), .int .i64 ((i : Int) + 1)] w fun e w' => e = .returned (.pointer (some ⟨bs.getD i 0, 0, none⟩)) ∧ w = w' := by
  have g1 := h.cv
  obtain ⟨g, c, rfl, gc⟩ := h.slot i hi
  unfold ptrV at gc
  have wr : IntKind.i64.wrap ((i : Int) + 1 - 1) = i := by rw [IntWalk.i64_in _ (by omega)]; omega
  have d1 : decide ((s.l.length : Int) < (i : Int) + 1) = false := decide_eq_false (by omega)
  obtain ⟨b, eb⟩ : ∃ b, bs.getD i 0 = b := ⟨_, rfl⟩
  rw [eb] at gc ⊢
  go_enter Try.func27, Try.ntmps27
  go_wp2
  go_ret
  exact ⟨rfl, rfl⟩
theorem qfind_out (h : QT w p v bs s) (id : Int) (ho : s.out id) : Calls Try.prog 27 #[.pointer (some ⟨p, 0, none⟩), .int .i64 id] w fun e w' => e = .returned (.pointer none) ∧ w = w' := by
  have g1 := h.cv
  obtain ⟨A, c, rfl, _⟩ := h.form
  unfold TS.out at ho
  rcases (by omega : id < 1 ∨ (¬ id < 1 ∧ (s.l.length : Int) < id)) with ho | ⟨ho, h2⟩
  all_goals
    go_enter Try.func27, Try.ntmps27
    go_wp2
    go_ret
    exact ⟨rfl, rfl⟩
theorem qlen (h : QT w p v bs s) : Calls Try.prog 20 #[.pointer (some ⟨p, 0, none⟩)] w fun e w' => e = .returned (.int .i64 s.l.length) ∧ w = w' := by
  have g1 := h.cv
  obtain ⟨A, c, rfl, _⟩ := h.form
  go_enter Try.func20, Try.ntmps20
  go_wp2
  go_ret
  exact ⟨rfl, rfl⟩
theorem qlives (b : Nat) (x : Tx) (h : EntL w b x) (ok : TxOk x) : Calls Try.prog 32 #[.pointer (some ⟨b, 0, none⟩)] w fun e w' => e = .returned (.bool x.lives) ∧ w = w' := by
  have c2 := h.c2
  have L := loadUint64 ⟨b, 2, none⟩ _ w c2 rfl
  have U := qunpack x.st x.e (by have := ok.s0; omega) (by have := ok.s1; omega) ok.e0 ok.e1 w
  obtain ⟨t, et⟩ : ∃ t, x.e * 8 + x.st = t := ⟨_, rfl⟩
  rw [et] at c2 L U
  obtain ⟨r, er⟩ : ∃ r, x.lives = r := ⟨_, rfl⟩
  rw [er]
  unfold Tx.lives at er
  obtain ⟨y, ey⟩ : ∃ y, x.st = y := ⟨_, rfl⟩
  rw [ey] at U er
  clear et ey
  by_cases h1 : y = 1
  · subst h1
    obtain rfl : true = r := by simpa using er
    clear er
    go_enter Try.func32, Try.ntmps32
    go_wp2_with fail
    refine L.mono ?_
    rintro e w1 ⟨rfl, rfl⟩
    go_wp2_with fail
    refine U.mono ?_
    rintro e w1 ⟨rfl, rfl⟩
    go_wp2
    go_ret
    exact ⟨rfl, rfl⟩
  · have q1 : (y == 1) = false := by simpa using h1
    by_cases h2 : y = 2
    · subst h2
      obtain rfl : true = r := by simpa using er
      clear er
      go_enter Try.func32, Try.ntmps32
      go_wp2_with fail
      refine L.mono ?_
      rintro e w1 ⟨rfl, rfl⟩
      go_wp2_with fail
      refine U.mono ?_
      rintro e w1 ⟨rfl, rfl⟩
      go_wp2
      go_ret
      exact ⟨rfl, rfl⟩
    · have q2 : (y == 2) = false := by simpa using h2
      obtain rfl : false = r := by simpa [q1, q2] using er
      clear er
      go_enter Try.func32, Try.ntmps32
      go_wp2_with fail
      refine L.mono ?_
      rintro e w1 ⟨rfl, rfl⟩
      go_wp2_with fail
      refine U.mono ?_
      rintro e w1 ⟨rfl, rfl⟩
      go_wp2
      go_ret
      exact ⟨rfl, rfl⟩
end
end Go.Proofs.Ytodmpmnjkfnogaa
