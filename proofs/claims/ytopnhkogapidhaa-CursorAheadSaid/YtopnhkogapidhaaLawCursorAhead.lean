/- Proved here: vinculumlaw12.CursorAhead returns true and leaves its arguments as they were, for any word and three ints; no further condition. -/
import Derived.Test.YtopnhkogapidhaaCuD
import Derived.Test.YtopnhkogapidhaaMask
import Derived.ChangeOld
import Derived.BigRegion
import Derived.Deep.CutRange
import Derived.Deep.RegionHeld3
namespace Go.Proofs.Ytopnhkogapidhaa.cursorAhead
open Go.ChangeShapes Go.WideShapes Go.ChangeAt Go.RowKit
set_option linter.unusedVariables false

/-- The heights th are of the keys that M tells. -/
structure Of (th : Nat → Nat) (M : Nat) : Prop where
  yes : ∀ j, j < 64 → M.testBit j = true → 0 < th j
  no : ∀ j, j < 64 → M.testBit j = false → th j = 0
  out : ∀ j, 64 ≤ j → th j = 0
  le : M ≤ 18446744073709551615
def low (M : Nat) (k : Nat) : Nat → Nat := fun j => if j < k ∧ M.testBit j = true then 1 else 0
theorem low_start (M : Nat) : low M 0 = fun _ => 0 := funext fun j => by unfold low; rw [if_neg (by omega)]
theorem low_end {M : Nat} (h : M ≤ 18446744073709551615) : Of (low M 64) M :=
  ⟨fun j hj hb => by unfold low; rw [if_pos ⟨hj, hb⟩]; omega, fun j hj hb => by unfold low; rw [if_neg (by simp [hb])], fun j hj => by unfold low; rw [if_neg (by omega)], h⟩
theorem low_put {M k : Nat} (hk : k < 64) (hb : M.testBit k = true) : putT (low M k) (k : Int) 1 = (true, 0, low M (k + 1)) := by
  unfold putT
  rw [if_neg (by omega), show (k : Int).toNat = k by omega, if_neg (by unfold low; rw [if_neg (by omega)]; exact Nat.lt_irrefl 0)]
  have : (fun j => if j = k then (1 : Int).toNat else low M k j) = low M (k + 1) := funext fun j => by
    unfold low
    by_cases e : j = k
    · subst e; rw [if_pos rfl, if_pos ⟨by omega, hb⟩]; rfl
    · rw [if_neg e]
      have e2 : (j < k + 1) = (j < k) := propext ⟨fun _ => by omega, fun _ => by omega⟩
      simp only [e2]
  rw [this]
theorem low_skip {M k : Nat} (hb : M.testBit k = false) : low M k = low M (k + 1) := funext fun j => by
  unfold low
  by_cases e : j = k
  · subst e; rw [if_neg (by omega), if_neg (by simp [hb])]
  · have e2 : (j < k + 1) = (j < k) := propext ⟨fun _ => by omega, fun _ => by omega⟩
    simp only [e2]
/-- What a Next tells of the keys of M, of a Cursor over 0 .. 63. -/
theorem tells {th : Nat → Nat} {M : Nat} (o : Of th M) (a : Int) (h1 : -1 ≤ a) (h2 : a < 64) :
    ∃ (T : Nat) (ok : Bool) (kk : Int) (x' : CS), a + 1 ≤ T ∧ T ≤ 64 ∧ (∀ j : Nat, a + 1 ≤ j → j < T → M.testBit j = false) ∧ (T < 64 → M.testBit T = true) ∧
      nextC th ⟨0, 63, a, false⟩ = (kk, ok, x') ∧ ((T < 64 ∧ ok = true ∧ kk = (T : Int) ∧ x' = ⟨0, 63, (T : Int), false⟩) ∨ (T = 64 ∧ ok = false ∧ kk = 0 ∧ x' = ⟨0, 63, a, true⟩)) := by
  have ef : CS.from' ⟨0, 63, a, false⟩ = a + 1 := by
    unfold CS.from'
    show (if a < 0 then (0 : Int) else a + 1) = a + 1
    split <;> omega
  have bitf : ∀ j, j < 64 → th j = 0 → M.testBit j = false := fun j hj h0 => by
    cases e : M.testBit j
    · rfl
    · have := o.yes j hj e; omega
  rcases rng_head 64 (Nat.le_refl _) (th := th) (lo := a + 1) (hi := 63) with ⟨h3, h4⟩ | ⟨k, t, h3, h4, h5, h6, h7, h8⟩
  · refine ⟨64, false, 0, ⟨0, 63, a, true⟩, by omega, Nat.le_refl _, fun j g1 g2 => bitf j g2 (h4 j g2 g1 (by omega)), fun h => absurd h (Nat.lt_irrefl _), ?_, .inr ⟨rfl, rfl, rfl, rfl⟩⟩
    unfold nextC
    rw [if_neg (by simp), ef, h3]
  · refine ⟨k, true, k, ⟨0, 63, k, false⟩, h6, by omega, fun j g1 g2 => bitf j (by omega) (h8 j g2 g1), fun _ => ?_, ?_, .inl ⟨h4, rfl, rfl, rfl⟩⟩
    · cases e : M.testBit k
      · have := o.no k h4 e; omega
      · rfl
    · unfold nextC
      rw [if_neg (by simp), ef, h3]
/-- The keys when b has gone and c has come. -/
def turned (M b c : Nat) : Nat := (M &&& (18446744073709551615 - 2 ^ b)) ||| 2 ^ c
theorem two_le {k : Nat} (h : k < 64) : 2 ^ k ≤ 9223372036854775808 := Nat.le_trans (Nat.pow_le_pow_right (by omega) (show k ≤ 63 by omega)) (by decide)
theorem turned_bit {M b c j : Nat} (hb : b < 64) (hj : j < 64) : (turned M b c).testBit j = ((M.testBit j && !decide (b = j)) || decide (c = j)) := by
  unfold turned
  rw [Nat.testBit_or, less_bit M (2 ^ b) j (by have := two_le hb; omega) hj, Nat.testBit_two_pow, Nat.testBit_two_pow]
theorem turned_le {M b c : Nat} (h : M ≤ 18446744073709551615) (hc : c < 64) : turned M b c ≤ 18446744073709551615 := by
  have h1 : M &&& (18446744073709551615 - 2 ^ b) < 2 ^ 64 := by have := and_le M (18446744073709551615 - 2 ^ b) h; omega
  have h2 : 2 ^ c < 2 ^ 64 := by have := two_le hc; omega
  have := Nat.or_lt_two_pow h1 h2
  unfold turned
  omega
theorem drop_hgt {th : Nat → Nat} {b : Nat} (hb : b < 64) : ∃ r, dropT th (b : Int) = (r, fun j => if j = b then 0 else th j) := by
  have eh : hgtT th (b : Int) = (th b : Int) := by unfold hgtT; rw [if_neg (by omega), show (b : Int).toNat = b by omega]
  unfold dropT
  rw [eh, show (b : Int).toNat = b by omega]
  by_cases h : 0 < th b
  · exact ⟨true, by rw [if_pos (by omega)]⟩
  · refine ⟨false, ?_⟩
    rw [if_neg (by omega)]
    have : th = fun j => if j = b then 0 else th j := funext fun j => by
      by_cases e : j = b
      · subst e; rw [if_pos rfl]; omega
      · rw [if_neg e]
    exact congrArg (Prod.mk false) this
theorem put_hgt {th : Nat → Nat} {c : Nat} (hc : c < 64) : ∃ r th2, putT th (c : Int) 2 = (r, 0, th2) ∧ 0 < th2 c ∧ ∀ j, j ≠ c → th2 j = th j := by
  unfold putT
  rw [if_neg (by omega), show (c : Int).toNat = c by omega]
  by_cases h : 0 < th c
  · exact ⟨false, th, by rw [if_pos h], h, fun _ _ => rfl⟩
  · refine ⟨true, _, by rw [if_neg h], ?_, fun j hj => if_neg hj⟩
    rw [if_pos rfl]
    decide
theorem turned_of {th : Nat → Nat} {M b c : Nat} (o : Of th M) (hb : b < 64) (hc : c < 64) : ∃ r1 th1 r2 th2, dropT th (b : Int) = (r1, th1) ∧ putT th1 (c : Int) 2 = (r2, 0, th2) ∧ Of th2 (turned M b c) := by
  obtain ⟨r1, e1⟩ := drop_hgt (th := th) hb
  obtain ⟨r2, th2, e2, h1, h2⟩ := put_hgt (th := fun j => if j = b then 0 else th j) hc
  refine ⟨r1, _, r2, th2, e1, e2, fun j hj hbit => ?_, fun j hj hbit => ?_, fun j hj => ?_, turned_le o.le hc⟩
  · rw [turned_bit hb hj] at hbit
    by_cases e : j = c
    · subst e; exact h1
    · have ec : decide (c = j) = false := decide_eq_false fun h => e h.symm
      have eb : ¬ j = b := fun h => by subst h; rw [ec] at hbit; simp at hbit
      rw [h2 j e, if_neg eb]
      refine o.yes j hj ?_
      rw [ec] at hbit
      cases hm : M.testBit j
      · rw [hm] at hbit; simp at hbit
      · rfl
  · rw [turned_bit hb hj] at hbit
    have e : j ≠ c := fun h => by subst h; simp at hbit
    rw [h2 j e]
    by_cases eb : j = b
    · rw [if_pos eb]
    · rw [if_neg eb]
      refine o.no j hj ?_
      have ebb : decide (b = j) = false := decide_eq_false fun h => eb h.symm
      rw [ebb] at hbit
      cases hm : M.testBit j
      · rfl
      · rw [hm] at hbit; simp at hbit
  · rw [h2 j (by omega), if_neg (by omega)]
    exact o.out j hj
def R1 (w : World) (t M : Nat) (i : Value) (wr : World) : Prop := ∃ (k : Nat) (S : Nat → Prop), k ≤ 64 ∧ i = .int .i64 k ∧ Cu w wr t S (low M k) (fun _ => none)
def R2 (w : World) (t q : Nat) (at' r mk : Value) (wr : World) : Prop := ∃ (a : Int) (n M : Nat) (th : Nat → Nat) (S : Nat → Prop) (cs : Nat → Option CS),
  -1 ≤ a ∧ a < 64 ∧ (n : Int) ≤ a + 1 ∧ at' = .int .i64 a ∧ r = .int .i64 n ∧ mk = .int .u64 M ∧ Of th M ∧ cs q = some ⟨0, 63, a, false⟩ ∧ Cu w wr t S th cs
def R3 (y : World) (a : Int) (T : Nat) (v : Value) (wr : World) : Prop := y = wr ∧ ∃ j : Nat, a + 1 ≤ j ∧ j ≤ T ∧ v = .int .i64 j
set_option maxRecDepth 100000 in
set_option maxHeartbeats 8000000 in
theorem walk (a0 a1 a2 a3 : Int) (w : World) (w0 : (Lit.int .u64 a0).wf = true) (w1 : (Lit.int .i64 a1).wf = true) (w2 : (Lit.int .i64 a2).wf = true) (w3 : (Lit.int .i64 a3).wf = true) :
    Calls Try.prog 3 #[.int .u64 a0, .int .i64 a1, .int .i64 a2, .int .i64 a3] w fun e w' => e = .returned (.bool true) ∧ Below w.heap.size w w' := by
  obtain ⟨M, rfl⟩ : ∃ n : Nat, a0 = (n : Int) := ⟨a0.toNat, by have := bounds_u64 w0; omega⟩
  have hM : M ≤ 18446744073709551615 := by have := bounds_u64 w0; omega
  obtain ⟨c, ec⟩ : ∃ n : Nat, a2 % 64 = (n : Int) := ⟨(a2 % 64).toNat, by omega⟩
  obtain ⟨b, eb⟩ : ∃ n : Nat, a3 % 64 = (n : Int) := ⟨(a3 % 64).toNat, by omega⟩
  have hc : c < 64 := by omega
  have hb : b < 64 := by omega
  have m2 : bits .and .i64 a2 63 = (c : Int) := (i64_mask a2 6 (by decide)).trans ec
  have m3 : bits .and .i64 a3 63 = (b : Int) := (i64_mask a3 6 (by decide)).trans eb
  clear ec eb w0 w1 w2 w3
  go_enter Try.func3, Try.ntmps3
  go_wp2_with fail
  refine (k_tnew _).mono ?_
  rintro e y0 ⟨t, S0, rfl, C0⟩
  rw [← low_start M] at C0
  go_wp2_with fail
  go_loopw [10] (fun i wr => R1 w t M i wr) (fun i _ => 64 - (intOf i).toNat)
  case atStart => exact ⟨0, S0, Nat.zero_le _, rfl, C0⟩
  case round =>
    clear C0
    obtain ⟨k, S, k64, rfl, C1⟩ := hrel
    have wk : IntKind.i64.wrap ((k : Int) + 1) = (k : Int) + 1 := IntWalk.i64_in _ (by omega)
    by_cases hlt : k < 64
    · cases hbt : M.testBit k with
      | true =>
        have ba := bit_true hM hbt
        go_wp2_with fail
        refine (k_put C1 _ _ _ _ _ (low_put hlt hbt)).mono ?_
        rintro e y3 ⟨rfl, S3, C3, k3⟩
        go_wp2_with fail
        go_roundw
        case rel => exact ⟨k + 1, S3, by omega, by go_num, C3⟩
        case measure => simp [intOf]; omega
      | false =>
        have ba := bit_false hM hbt
        rw [low_skip hbt] at C1
        go_wp2_with fail
        go_roundw
        case rel => exact ⟨k + 1, S, by omega, by go_num, C1⟩
        case measure => simp [intOf]; omega
    · obtain rfl : k = 64 := by omega
      clear hlt k64 wk m2 m3
      obtain ⟨p, ep⟩ : ∃ n : Nat, a1 % 256 = (n : Int) := ⟨(a1 % 256).toNat, by omega⟩
      have m1 : bits .and .i64 a1 255 = (p : Int) := (i64_mask8 a1).trans ep
      have p256 : p < 256 := by omega
      clear ep
      go_wp2_with fail
      refine (k_new C1 0 63 ⟨by omega, by omega, by omega⟩).mono ?_
      rintro e z1 ⟨q, S2, rfl, hq, C2, _⟩
      clear C1
      obtain ⟨P, eP⟩ : ∃ P : Int, Int.tmod (p : Int) 20 = P := ⟨_, rfl⟩
      go_wp2_with fail
      go_loopw [13, 14, 15] (fun av rv mv wr => R2 w t q av rv mv wr) (fun av _ _ _ => (64 - intOf av).toNat)
      case atStart => exact ⟨-1, 0, M, low M 64, S2, _, by omega, by omega, by omega, rfl, rfl, rfl, low_end hM, updC_at, C2⟩
      case round =>
        clear C2 hM
        obtain ⟨a, n, M1, th1, S3, cs1, a1', a64, na, rfl, rfl, rfl, o1, hcs1, C3⟩ := hrel
        have wn : IntKind.i64.wrap ((n : Int) + 1) = (n : Int) + 1 := IntWalk.i64_in _ (by omega)
        have wa : IntKind.i64.wrap (a + 1) = a + 1 := IntWalk.i64_in _ (by omega)
        go_upto_if 55 with fail
        go_cut [15] from 53 to 108 (fun mv wx => ∃ (M2 : Nat) (th2 : Nat → Nat) (S4 : Nat → Prop), mv = .int .u64 M2 ∧ Of th2 M2 ∧ Cu w wx t S4 th2 cs1)
        case first =>
          by_cases hn : (n : Int) = P
          · subst hn
            obtain ⟨r1, th5, r2, th6, d1, d2, o2⟩ := turned_of o1 hb hc
            obtain ⟨B, eB⟩ : ∃ B : Nat, 2 ^ b = B := ⟨_, rfl⟩
            obtain ⟨C, eC⟩ : ∃ C : Nat, 2 ^ c = C := ⟨_, rfl⟩
            have lB : B ≤ 9223372036854775808 := by rw [← eB]; exact two_le hb
            have lC : C ≤ 9223372036854775808 := by rw [← eC]; exact two_le hc
            have iB : (2 : Int) ^ b = (B : Int) := by rw [← eB]; simp
            have iC : (2 : Int) ^ c = (C : Int) := by rw [← eC]; simp
            have sB : IntKind.u64.wrap ((2 : Int) ^ b) = (B : Int) := by rw [iB]; exact IntWalk.u64_in _ (by omega)
            have sC : IntKind.u64.wrap ((2 : Int) ^ c) = (C : Int) := by rw [iC]; exact IntWalk.u64_in _ (by omega)
            have x1 := u64_lessN M1 B o1.le (by omega)
            obtain ⟨X, eX⟩ : ∃ X : Nat, M1 &&& (18446744073709551615 - B) = X := ⟨_, rfl⟩
            have lX : X ≤ 18446744073709551615 := by rw [← eX]; exact and_le _ _ o1.le
            rw [eX] at x1
            have x2 := u64_or_nat X C (by omega) (by omega)
            have e9 : X ||| C = turned M1 b c := by rw [← eX, ← eB, ← eC]; rfl
            rw [e9] at x2
            clear iB iC eB eC eX lX e9 lB lC
            go_wp2_with fail
            refine (k_drop C3 _ _ _ d1).mono ?_
            rintro e y5 ⟨rfl, S5, C5, _⟩
            go_wp2_with fail
            refine (k_put C5 _ _ _ _ _ d2).mono ?_
            rintro e y6 ⟨rfl, S6, C6, _⟩
            go_wp2_with fail
            have C6 := C6.quiet (Keep.refl (fun _ => False) _).drew
            refine wp_region_held_drew (S := (fun _ => True)) (by kernel_rfl) trivial (fun hHeld => ?_)
            refine wpAnyH_take (i := 0) (v := ?qvu20) rfl (by kernel_rfl) (by kernel_rfl) (by kernel_rfl) (fun _ _ _ h => h) (Or.inl ⟨by rfl, ?qyu20⟩) (by assumption) ?qru20; case qyu20 => ((intro w hSw; (try dsimp only at hSw); go_simp); try (with_reducible rfl))
            ((try simp only [List.getElem_toArray]); (try simp only [List.getElem_cons_succ]); (try simp only [List.getElem_cons_zero]); (try simp only [Act.put]); (try simp only [List.setIfInBounds_toArray]); (try simp only [List.set_cons_succ]); (try simp only [List.set_cons_zero]))
            refine wpAnyH_take (i := 1) (v := ?qvu21) rfl (by kernel_rfl) (by kernel_rfl) (by kernel_rfl) (fun _ _ _ h => h) (Or.inl ⟨by rfl, ?qyu21⟩) (by assumption) ?qru21; case qyu21 => ((intro w hSw; (try dsimp only at hSw); go_simp); try (with_reducible rfl))
            ((try simp only [List.getElem_toArray]); (try simp only [List.getElem_cons_succ]); (try simp only [List.getElem_cons_zero]); (try simp only [Act.put]); (try simp only [List.setIfInBounds_toArray]); (try simp only [List.set_cons_succ]); (try simp only [List.set_cons_zero]))
            refine wpAnyH_take (i := 2) (v := ?qvu22) rfl (by kernel_rfl) (by kernel_rfl) (by kernel_rfl) (fun _ _ _ h => h) (Or.inl ⟨by rfl, ?qyu22⟩) (by assumption) ?qru22; case qyu22 => ((intro w hSw; (try dsimp only at hSw); go_simp); try (with_reducible rfl))
            ((try simp only [List.getElem_toArray]); (try simp only [List.getElem_cons_succ]); (try simp only [List.getElem_cons_zero]); (try simp only [Act.put]); (try simp only [List.setIfInBounds_toArray]); (try simp only [List.set_cons_succ]); (try simp only [List.set_cons_zero]))
            refine wpAnyH_take (i := 3) (v := ?qvu23) rfl (by kernel_rfl) (by kernel_rfl) (by kernel_rfl) (fun _ _ _ h => h) (Or.inl ⟨by rfl, ?qyu23⟩) (by assumption) ?qru23; case qyu23 => ((intro w hSw; (try dsimp only at hSw); go_simp); try (with_reducible rfl))
            ((try simp only [List.getElem_toArray]); (try simp only [List.getElem_cons_succ]); (try simp only [List.getElem_cons_zero]); (try simp only [Act.put]); (try simp only [List.setIfInBounds_toArray]); (try simp only [List.set_cons_succ]); (try simp only [List.set_cons_zero]))
            refine wpAnyH_take (i := 4) (v := ?qvu24) rfl (by kernel_rfl) (by kernel_rfl) (by kernel_rfl) (fun _ _ _ h => h) (Or.inl ⟨by rfl, ?qyu24⟩) (by assumption) ?qru24; case qyu24 => ((intro w hSw; (try dsimp only at hSw); go_simp); try (with_reducible rfl))
            ((try simp only [List.getElem_toArray]); (try simp only [List.getElem_cons_succ]); (try simp only [List.getElem_cons_zero]); (try simp only [Act.put]); (try simp only [List.setIfInBounds_toArray]); (try simp only [List.set_cons_succ]); (try simp only [List.set_cons_zero]))
            refine wpAnyH_take (i := 5) (v := ?qvu25) rfl (by kernel_rfl) (by kernel_rfl) (by kernel_rfl) (fun _ _ _ h => h) (Or.inl ⟨by rfl, ?qyu25⟩) (by assumption) ?qru25; case qyu25 => ((intro w hSw; (try dsimp only at hSw); go_simp); try (with_reducible rfl))
            ((try simp only [List.getElem_toArray]); (try simp only [List.getElem_cons_succ]); (try simp only [List.getElem_cons_zero]); (try simp only [Act.put]); (try simp only [List.setIfInBounds_toArray]); (try simp only [List.set_cons_succ]); (try simp only [List.set_cons_zero]))
            refine wpAnyH_take (i := 6) (v := ?qvu26) rfl (by kernel_rfl) (by kernel_rfl) (by kernel_rfl) (fun _ _ _ h => h) (Or.inl ⟨by rfl, ?qyu26⟩) (by assumption) ?qru26; case qyu26 => ((intro w hSw; (try dsimp only at hSw); go_simp); try (with_reducible rfl))
            ((try simp only [List.getElem_toArray]); (try simp only [List.getElem_cons_succ]); (try simp only [List.getElem_cons_zero]); (try simp only [Act.put]); (try simp only [List.setIfInBounds_toArray]); (try simp only [List.set_cons_succ]); (try simp only [List.set_cons_zero]))
            refine wpAnyH_take (i := 7) (v := ?qvu27) rfl (by kernel_rfl) (by kernel_rfl) (by kernel_rfl) (fun _ _ _ h => h) (Or.inl ⟨by rfl, ?qyu27⟩) (by assumption) ?qru27; case qyu27 => ((intro w hSw; (try dsimp only at hSw); go_simp); try (with_reducible rfl))
            ((try simp only [List.getElem_toArray]); (try simp only [List.getElem_cons_succ]); (try simp only [List.getElem_cons_zero]); (try simp only [Act.put]); (try simp only [List.setIfInBounds_toArray]); (try simp only [List.set_cons_succ]); (try simp only [List.set_cons_zero]))
            refine wpAnyH_done (by kernel_rfl) ?_ _
            go_wp2_with fail
            go_meet
            case rel => exact ⟨_, _, S6, rfl, o2, C6⟩
          · go_wp2_with fail
            go_meet
            case rel => exact ⟨M1, th1, S3, rfl, o1, C3⟩
        case rest =>
        clear C3 o1
        obtain ⟨M2, th2, S4, rfl, o2, C4⟩ := hcut
        obtain ⟨T, ok, kk, x', t1, t2, t3, t4, hN, hT⟩ := tells o2 a a1' a64
        have hM := o2.le
        go_wp2_with fail
        refine (k_next C4 _ hcs1 _ _ _ hN).mono ?_
        rintro e y5 ⟨rfl, S5, C5, _⟩
        clear C4 hN
        go_wp2_with fail
        go_loopw [18] (fun v wr => R3 y5 a T v wr) (fun v _ => 64 - (intOf v).toNat)
        case atStart => exact ⟨rfl, (a + 1).toNat, by omega, by omega, by rw [show ((a + 1).toNat : Int) = a + 1 by omega]⟩
        case round =>
          obtain ⟨rfl, j, j1, j2, rfl⟩ := hrel
          have wj : IntKind.i64.wrap ((j : Int) + 1) = (j : Int) + 1 := IntWalk.i64_in _ (by omega)
          by_cases hj : j < T
          · have ba := bit_false hM (t3 j j1 hj)
            have d1 : (j : Int) < 64 := by omega
            go_wp2_with fail
            first | exact ⟨⟨rfl, j + 1, by omega, by omega, by go_num⟩, by simp [intOf]; omega⟩ | (refine ⟨?rel2, ?meas2⟩; (case meas2 => (simp [intOf]; omega)); (case rel2 => ((repeat apply Exists.intro); exact ⟨⟨rfl, j + 1, by omega, by omega, by go_num⟩, rfl⟩)))
          · obtain rfl : j = T := by omega
            rcases hT with ⟨T64, rfl, rfl, rfl⟩ | ⟨rfl, rfl, rfl, rfl⟩
            · have ba := bit_true hM (t4 T64)
              go_wp2_with fail
              first | exact ⟨⟨(j : Int), n + 1, M2, th2, S5, _, by omega, by omega, by omega, rfl, by go_num, rfl, o2, updC_at, C5⟩, by simp [intOf]; omega⟩ | (refine ⟨?rel2, ?meas2⟩; (case meas2 => (simp [intOf]; omega)); (case rel2 => ((repeat apply Exists.intro); exact ⟨⟨(j : Int), n + 1, M2, th2, S5, _, by omega, by omega, by omega, rfl, by go_num, rfl, o2, updC_at, C5⟩, rfl⟩)))
            · go_wp2_with fail
              refine (k_done C5 _ updC_at true rfl).mono ?_
              rintro e z2 ⟨rfl, S6, C6, _⟩
              go_wp2_with fail
              refine (awake12_any _).mono ?_
              rintro e z9 ⟨rfl, b9⟩
              go_wp2
              go_ret
              exact ⟨rfl, C6.b.trans (b9.mono C6.b.size)⟩
theorem own : ownKnob Try.prog.godebug = none := by kernel_rfl
theorem laidOut : laidOutB Try.prog = true := by kernel_rfl
set_option maxRecDepth 100000 in
theorem lifted (os : Os) (started : os.Started) (H : Type) (enc : TypeId × Value → H) :
    ReturnsInHanded {} Try.checked os 3 .any (Rows.cursorAheadSpec.pre6 enc Try.prog Try.f3 Rows.cursorAheadRow.domain false) (Rows.cursorAheadSpec.post enc Try.prog Try.f3 false true false false) := by
  refine returnsInHanded_of_change (C := Try.checked) own started (by kernel_rfl) Try.func3
    (ChangeSpec.witness6 (enc := enc) (C := Try.checked) false ⟨#[], #[.int .u64 0, .int .i64 0, .int .i64 0, .int .i64 0], []⟩ 8 (by kernel_rfl) (by kernel_rfl) (by kernel_rfl) (by kernel_rfl)) ?_
  intro W base args ds gs before hval0 hW hcnd _
  have hval : ∀ (j : Nat) t v, Try.f3.params[j]? = some t → args[j]? = some v → Value.okWide Try.prog W .any base t v := hval0
  have hW' := hW
  obtain ⟨p, q, hA0, hV, rfl, hfz, hnd⟩ := hW
  have hA : DataW.TrodAll enc Try.prog W 0 (fun _ => true) true Try.f3.params.toList args.toList ds p := hA0
  rw [Try.params3] at hA hval
  obtain ⟨v0, vs0, d0, ds0, p0, q0, hargs, rfl, rfl, h0, r0⟩ := trodAll_cons hA
  obtain ⟨v1, vs1, d1, ds1, p1, q1, rfl, rfl, rfl, h1, r1⟩ := trodAll_cons r0
  obtain ⟨v2, vs2, d2, ds2, p2, q2, rfl, rfl, rfl, h2, r2⟩ := trodAll_cons r1
  obtain ⟨v3, vs3, d3, ds3, p3, q3, rfl, rfl, rfl, h3, r3⟩ := trodAll_cons r2
  obtain ⟨rfl, rfl, rfl⟩ := trodAll_nil r3
  obtain rfl : args = #[v0, v1, v2, v3] := by cases args; simp_all
  obtain ⟨rfl, rfl⟩ := trodVars_none hV
  obtain ⟨a0, rfl, rfl, rfl, w0⟩ := open_int Try.underlying22 (hval 0 22 v0 rfl rfl) h0
  obtain ⟨a1, rfl, rfl, rfl, w1⟩ := open_int Try.underlying3 (hval 1 3 v1 rfl rfl) h1
  obtain ⟨a2, rfl, rfl, rfl, w2⟩ := open_int Try.underlying3 (hval 2 3 v2 rfl rfl) h2
  obtain ⟨a3, rfl, rfl, rfl, w3⟩ := open_int Try.underlying3 (hval 3 3 v3 rfl rfl) h3
  clear hA0 hval0
  refine (walk a0 a1 a2 a3 W w0 w1 w2 w3).mono fun e W' ⟨he, bel⟩ => ?_
  subst he
  exact ⟨_, rfl, _, _, _, [], _, [], hW', trodAll_mk1 (shut_bool Try.underlying4 _), (trodAll_cons_mk (shut_int Try.underlying22 w0) (trodAll_cons_mk (shut_int Try.underlying3 w1) (trodAll_cons_mk (shut_int Try.underlying3 w2) (trodAll_cons_mk (shut_int Try.underlying3 w3) trodAll_mk0)))), rfl, bel.frame _, fun h => by cases h⟩
theorem over : Rows.cursorAheadRow.holds Try.pinned (OpenSpec.ofChange Rows.cursorAheadSpec) :=
  OpenClaim.holds_of_wide 3 Try.f3 rfl rfl rfl rfl rfl rfl rfl ⟨rfl, rfl, rfl, rfl, rfl⟩ rfl rfl rfl rfl rfl (by kernel_rfl) Try.func3 (by kernel_rfl)
    (of_decide_eq_true (by kernel_rfl)) (by unfold Func.isWrapper; first | (rw [if_pos (by decide +kernel)]; kernel_rfl) | (rw [if_neg (by decide +kernel)]; exact ⟨rfl, rfl⟩))
    (fun os started H enc _ => lifted os started H enc)
theorem proved : Rows.CursorAheadSaid := over
#print axioms proved
end Go.Proofs.Ytopnhkogapidhaa.cursorAhead
