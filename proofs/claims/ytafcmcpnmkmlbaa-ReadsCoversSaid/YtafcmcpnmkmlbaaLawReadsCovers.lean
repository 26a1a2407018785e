/- Proved here: vinculumlaw13.ReadsCovers returns true and leaves its arguments as they were, for any 64-bit word and any two slices of ints; no further condition. -/
import Derived.Test.YtafcmcpnmkmlbaaRdD
import Derived.Test.YtafcmcpnmkmlbaaMask
import Derived.Test.YtafcmcpnmkmlbaaRow
import Derived.Deep.LoopGhost
import Derived.Deep.CutRange
import Derived.Deep.CutBlock
import Derived.Deep.QuietTactic
import Derived.BigQuiet
import Derived.Deep.RegionHeld3
namespace Go.Proofs.Ytafcmcpnmkmlbaa.readsCovers
open Go.ChangeShapes Go.WideShapes Go.ChangeAt Go.RowKit
set_option linter.unusedVariables false

/-- What is covered, of the keys that there are; n ranges. -/
structure Cov (s : RdS) (n : Nat) (P : Nat → Bool) : Prop where
  c : ∀ j : Nat, j < 64 → s.covers (j : Int) = P j
  o : ∀ x : Int, x < 0 ∨ 63 < x → s.covers x = false
  n : s.scans.length = n
theorem Cov.of {s : RdS} {n : Nat} {P Q : Nat → Bool} (h : Cov s n P) (e : ∀ j, j < 64 → P j = Q j) : Cov s n Q := ⟨fun j hj => (h.c j hj).trans (e j hj), h.o, h.n⟩
theorem cov_new : Cov RdS.new 0 (fun _ => false) := ⟨fun j hj => rfl, fun x hx => rfl, rfl⟩
theorem Cov.add {s : RdS} {n : Nat} {P : Nat → Bool} (h : Cov s n P) {k : Nat} (hk : k < 64) : ∃ s', s.add k 1 = (0, s') ∧ Cov s' n (fun j => P j || decide (j = k)) := by
  unfold RdS.add
  rw [if_neg (by omega)]
  by_cases hm : (k : Int) ∈ s.keys
  · rw [if_pos hm]
    refine ⟨s, rfl, h.of fun j hj => ?_⟩
    by_cases e : j = k
    · subst e
      have := h.c j hj
      unfold RdS.covers at this
      simp only [hm, decide_true, Bool.true_or] at this
      simp [← this]
    · simp [e]
  · rw [if_neg hm]
    have key : ∀ x : Int, (⟨s.keys ++ [(k : Int)], s.links ++ [1], s.scans⟩ : RdS).covers x = (s.covers x || decide (x = (k : Int))) := fun x => by
      unfold RdS.covers
      simp only [List.mem_append, List.mem_singleton, Bool.decide_or]
      cases decide (x ∈ s.keys) <;> cases decide (x = (k : Int)) <;> simp
    refine ⟨_, rfl, fun j hj => ?_, fun x hx => ?_, h.n⟩
    · rw [key, h.c j hj]
      congr 1
      exact decide_eq_decide.2 (by omega)
    · rw [key, h.o x hx]
      simp only [Bool.false_or, decide_eq_false_iff_not]
      omega
theorem Cov.span {s : RdS} {n : Nat} {P : Nat → Bool} (h : Cov s n P) (hn : n < 64) {a b : Nat} (hab : a ≤ b) (hb : b < 64) : ∃ s', s.span a b [] = (0, s') ∧ Cov s' (n + 1) (fun j => P j || (decide (a ≤ j) && decide (j ≤ b))) := by
  unfold RdS.span
  rw [if_neg (by omega), if_neg (by rw [h.n]; omega)]
  have key : ∀ x : Int, (⟨s.keys, s.links, s.scans ++ [⟨a, b, []⟩]⟩ : RdS).covers x = (s.covers x || (decide ((a : Int) ≤ x) && decide (x ≤ (b : Int)))) := fun x => by
    unfold RdS.covers
    simp only [List.any_append, List.any_cons, List.any_nil, Bool.or_false, ScI.has, Bool.or_assoc]
  refine ⟨_, rfl, fun j hj => ?_, fun x hx => ?_, by simp [h.n]⟩
  · rw [key, h.c j hj]
    congr 2
    · exact decide_eq_decide.2 (by omega)
    · exact decide_eq_decide.2 (by omega)
  · rw [key, h.o x hx]
    simp only [Bool.false_or, Bool.and_eq_false_iff, decide_eq_false_iff_not]
    omega
def R1 (w : World) (t K : Nat) (iv : Value) (wr : World) : Prop := ∃ (k : Nat) (S : Nat → Prop) (s : RdS), k ≤ 64 ∧ iv = .int .i64 k ∧ Cov s 0 (fun j => decide (j < k) && K.testBit j) ∧ Rd w wr t S s
def R2 (w : World) (t k : Nat) (mv iv : Value) (wr : World) : Prop := ∃ (M : Nat) (S : Nat → Prop) (s : RdS), k ≤ 20 ∧ iv = .int .i64 k ∧ M ≤ 18446744073709551615 ∧ mv = .int .u64 M ∧ Cov s k (fun j => M.testBit j) ∧ Rd w wr t S s
def R3 (y : World) (M a b : Nat) (mv kv : Value) (wr : World) : Prop := y = wr ∧ ∃ (M2 k : Nat), a ≤ k ∧ k ≤ b + 1 ∧ kv = .int .i64 k ∧ M2 ≤ 18446744073709551615 ∧ mv = .int .u64 M2 ∧ ∀ j, M2.testBit j = (M.testBit j || (decide (a ≤ j) && decide (j < k)))
def R4 (w : World) (t M n : Nat) (iv : Value) (wr : World) : Prop := ∃ (k : Nat) (S : Nat → Prop) (s : RdS), k ≤ 64 ∧ iv = .int .i64 k ∧ Cov s n (fun j => M.testBit j) ∧ Rd w wr t S s
theorem or_step {M M2 a k : Nat} (hk : a ≤ k) (h : ∀ j, M2.testBit j = (M.testBit j || (decide (a ≤ j) && decide (j < k)))) : ∀ j, (M2 ||| 2 ^ k).testBit j = (M.testBit j || (decide (a ≤ j) && decide (j < k + 1))) := by
  intro j
  rw [Nat.testBit_or, h j, Nat.testBit_two_pow]
  by_cases e : j = k
  · subst e; simp [hk]
  · rw [show decide (k = j) = false from decide_eq_false (fun z => e z.symm), Bool.or_false]
    congr 2
    exact decide_eq_decide.2 (by omega)
theorem or_le {A B : Nat} (hA : A ≤ 18446744073709551615) (hB : B ≤ 18446744073709551615) : A ||| B ≤ 18446744073709551615 := by
  have := Nat.or_lt_two_pow (n := 64) (show A < 2 ^ 64 by omega) (show B < 2 ^ 64 by omega)
  omega
set_option maxRecDepth 100000 in
set_option maxHeartbeats 8000000 in
theorem walk (a0 : Int) (a1 : Option Addr) (n1 c1 : Nat) (z1 : List Int) (a2 : Option Addr) (n2 c2 : Nat) (z2 : List Int) (w : World) (w0 : (Lit.int .u64 a0).wf = true) (w1 : IsRow .i64 w a1 n1 c1 z1) (w2 : IsRow .i64 w a2 n2 c2 z2) :
    Calls Try.prog 4 #[.int .u64 a0, .slice a1 n1 c1, .slice a2 n2 c2] w fun e w' => e = .returned (.bool true) ∧ Below w.heap.size w w' := by
  obtain ⟨K, rfl⟩ : ∃ n : Nat, a0 = (n : Int) := ⟨a0.toNat, by have := bounds_u64 w0; omega⟩
  have hK : K ≤ 18446744073709551615 := by have := bounds_u64 w0; omega
  have l1 := w1.cell
  have l2 := w2.cell
  have m1 := w1.cap
  have m2 := w2.cap
  have x1 := w1.max
  have x2 := w2.max
  clear w0 w1 w2
  go_enter Try.func4, Try.ntmps4
  go_wp2_with fail
  refine (rd_new w).mono ?_
  rintro e w1 ⟨t, S1, rfl, h1⟩
  go_wp2
  go_loopw [9] (fun i wr => R1 w t K i wr) (fun i _ => 64 - (intOf i).toNat)
  case atStart => exact ⟨0, S1, RdS.new, Nat.zero_le _, rfl, cov_new.of (fun j _ => by simp), h1⟩
  case round =>
    clear h1
    obtain ⟨k, S, s, k64, rfl, cv, D⟩ := hrel
    have wk : IntKind.i64.wrap ((k : Int) + 1) = (k : Int) + 1 := IntWalk.i64_in _ (by omega)
    by_cases hlt : k < 64
    · cases hbt : K.testBit k with
      | true =>
        have ba := bit_true hK hbt
        obtain ⟨s', hs, cv'⟩ := cv.add hlt
        have cv2 : Cov s' 0 (fun j => decide (j < k + 1) && K.testBit j) := cv'.of fun j hj => by
          by_cases e : j = k
          · subst e; simp [hbt]
          · rw [decide_eq_false e, Bool.or_false]
            congr 1
            exact decide_eq_decide.2 (by omega)
        clear cv cv'
        go_wp2_with fail
        refine (rd_add D _ _ ⟨by omega, by omega⟩ _ _ hs).mono ?_
        rintro e w3 ⟨rfl, S3, D3, k3⟩
        go_wp2
        first | exact ⟨⟨k + 1, S3, s', by omega, by go_num, cv2, D3⟩, by simp [intOf]; omega⟩ | (refine ⟨?rel2, ?meas2⟩; (case meas2 => (simp [intOf]; omega)); (case rel2 => ((repeat apply Exists.intro); exact ⟨⟨k + 1, S3, s', by omega, by go_num, cv2, D3⟩, rfl⟩)))
      | false =>
        have ba := bit_false hK hbt
        have cv2 : Cov s 0 (fun j => decide (j < k + 1) && K.testBit j) := cv.of fun j hj => by
          by_cases e : j = k
          · subst e; simp [hbt]
          · congr 1
            exact decide_eq_decide.2 (by omega)
        clear cv
        go_wp2
        first | exact ⟨⟨k + 1, S, s, by omega, by go_num, cv2, D⟩, by simp [intOf]; omega⟩ | (refine ⟨?rel2, ?meas2⟩; (case meas2 => (simp [intOf]; omega)); (case rel2 => ((repeat apply Exists.intro); exact ⟨⟨k + 1, S, s, by omega, by go_num, cv2, D⟩, rfl⟩)))
    · have e64 : k = 64 := by omega
      have cv : Cov s 0 (fun j => K.testBit j) := cv.of fun j hj => by simp [e64, hj]
      clear k64 wk e64
      go_upto_block 2 with fail
      go_cut [8] from 9 to 99 (fun mv wx => ∃ k iv, R2 w t k mv iv wx)
      case first =>
        go_wp2_with fail
        go_loopg [8, 10] 20 (fun m mv iv wr => ∃ k : Nat, m + k = 20 ∧ R2 w t k mv iv wr)
        case atStart => exact ⟨0, rfl, K, S, s, Nat.zero_le _, rfl, hK, rfl, cv, D⟩
        case round =>
          obtain ⟨k, hgk, M, S, s, k20, rfl, hM, rfl, cv, D⟩ := hrel
          have wk : IntKind.i64.wrap ((k : Int) + 1) = (k : Int) + 1 := IntWalk.i64_in _ (by omega)
          by_cases hlt : k < n1 ∧ k < n2 ∧ k < 20
          · obtain ⟨h1, h2, h3⟩ := hlt
            obtain ⟨b1, o1, rfl, hb1, hc1⟩ := l1 (by omega)
            obtain ⟨b2, o2, rfl, hb2, hc2⟩ := l2 (by omega)
            have hc1 := (D.b.cell (p := ⟨b1, o1 + k, none⟩) hb1).trans (hc1 k h1)
            have hc2 := (D.b.cell (p := ⟨b2, o2 + k, none⟩) hb2).trans (hc2 k h2)
            obtain ⟨x, ex⟩ : ∃ x, z1.getD k 0 = x := ⟨_, rfl⟩
            obtain ⟨y, ey⟩ : ∃ y, z2.getD k 0 = y := ⟨_, rfl⟩
            rw [ex] at hc1
            rw [ey] at hc2
            obtain ⟨a, ea⟩ : ∃ n : Nat, x % 64 = (n : Int) := ⟨(x % 64).toNat, by omega⟩
            obtain ⟨b, eb⟩ : ∃ n : Nat, y % 64 = (n : Int) := ⟨(y % 64).toNat, by omega⟩
            have ma : bits .and .i64 x 63 = (a : Int) := (i64_mask x 6 (by decide)).trans ea
            have mb : bits .and .i64 y 63 = (b : Int) := (i64_mask y 6 (by decide)).trans eb
            have ha : a < 64 := by omega
            have hb : b < 64 := by omega
            clear ex ey ea eb l1 l2
            go_wp2_with fail
            go_quiet (fail)
            have D := D.quiet (drewN_keep (fun _ => False) _ nq)
            go_upto_if 59 with fail
            go_cut [11, 12] from 47 to 61 (fun av bv wx => ∃ (a b : Nat), a ≤ b ∧ b < 64 ∧ av = .int .i64 a ∧ bv = .int .i64 b ∧ Rd w wx t S s)
            case first =>
              by_cases hab : b < a
              · go_wp2_with fail
                go_meet
                case rel => exact ⟨b, a, by omega, ha, rfl, rfl, D⟩
              · go_wp2_with fail
                go_meet
                case rel => exact ⟨a, b, by omega, hb, rfl, rfl, D⟩
            case rest =>
            clear D ma mb ha hb hc1 hc2 a b
            obtain ⟨a, b, hab, hb, rfl, rfl, D⟩ := hcut
            obtain ⟨s', hs, cv'⟩ := cv.span (by omega) hab hb
            clear cv
            go_wp2_with fail
            refine (rd_span D _ _ _ [] (Lies.nil _) (by simp) _ _ hs).mono ?_
            rintro e y5 ⟨rfl, S5, D5, k5⟩
            clear D hs k5
            go_wp2
            go_loopw [8, 13] (fun mv kv wr => R3 y5 M a b mv kv wr) (fun _ kv _ => b + 1 - (intOf kv).toNat)
            case atStart => exact ⟨rfl, M, a, Nat.le_refl _, by omega, rfl, hM, rfl, fun j => by
              by_cases e : a ≤ j
              · rw [decide_eq_false (show ¬ j < a by omega)]; simp
              · rw [decide_eq_false e]; simp⟩
            case round =>
              obtain ⟨rfl, M2, i, ia, ib, rfl, hM2, rfl, hbit⟩ := hrel
              have wi : IntKind.i64.wrap ((i : Int) + 1) = (i : Int) + 1 := IntWalk.i64_in _ (by omega)
              by_cases hi : i ≤ b
              · obtain ⟨B, eB⟩ : ∃ B : Nat, 2 ^ i = B := ⟨_, rfl⟩
                have lB : B ≤ 9223372036854775808 := by rw [← eB]; exact Nat.le_trans (Nat.pow_le_pow_right (by omega) (show i ≤ 63 by omega)) (by decide)
                have iB : (2 : Int) ^ i = (B : Int) := by rw [← eB]; simp
                have sB : IntKind.u64.wrap ((2 : Int) ^ i) = (B : Int) := by rw [iB]; exact IntWalk.u64_in _ (by omega)
                have x2 := u64_or_nat M2 B (by omega) (by omega)
                have hb2 := or_step ia hbit
                have hl2 := or_le hM2 (show B ≤ 18446744073709551615 by omega)
                rw [eB] at hb2
                obtain ⟨X, eX⟩ : ∃ X, M2 ||| B = X := ⟨_, rfl⟩
                rw [eX] at x2 hb2 hl2
                have HB := Lib.hid hb2
                clear iB eB eX hbit hb2
                go_wp2
                first | exact ⟨⟨rfl, X, i + 1, by omega, by omega, by go_num, hl2, rfl, HB.out⟩, by simp [intOf]; omega⟩ | (refine ⟨?rel2, ?meas2⟩; (case meas2 => (simp [intOf]; omega)); (case rel2 => ((repeat apply Exists.intro); exact ⟨⟨rfl, X, i + 1, by omega, by omega, by go_num, hl2, rfl, HB.out⟩, rfl⟩)))
              · obtain rfl : i = b + 1 := by omega
                have cv2 : Cov s' (k + 1) (fun j => M2.testBit j) := cv'.of fun j hj => by
                  rw [hbit j]
                  congr 2
                  exact decide_eq_decide.2 (by omega)
                clear cv' hbit
                have e1 : ¬ (((b + 1 : Nat) : Int) ≤ (b : Int)) := by omega
                go_wp2
                go_roundg (20 - (k + 1))
                case measure => omega
                case rel => exact ⟨k + 1, by omega, M2, S5, s', by omega, by go_num, hM2, rfl, cv2, D5⟩
          · have hR : R2 w t k (.int .u64 M) (.int .i64 k) wr := ⟨M, S, s, k20, rfl, hM, rfl, cv, D⟩
            clear cv D l1 l2
            rcases (by omega : n1 ≤ k ∨ (k < n1 ∧ n2 ≤ k) ∨ (k < n1 ∧ k < n2 ∧ 20 ≤ k)) with h | ⟨h, h'⟩ | ⟨h, h', h''⟩
            · have d1 : ¬ k < n1 := by omega
              go_wp2_with fail
              go_meet
              case rel => exact ⟨k, _, hR⟩
            · have d1 : ¬ k < n2 := by omega
              go_wp2_with fail
              go_meet
              case rel => exact ⟨k, _, hR⟩
            · have d1 : ¬ (k : Int) < 20 := by omega
              go_wp2_with fail
              go_meet
              case rel => exact ⟨k, _, hR⟩
      case rest =>
      clear cv D l1 l2
      obtain ⟨k, _, M, S, s, _, _, hM, rfl, cv, D⟩ := hcut
      go_wp2
      go_loopw [14] (fun i wr => R4 w t M k i wr) (fun i _ => 64 - (intOf i).toNat)
      case atStart => exact ⟨0, S, s, Nat.zero_le _, rfl, cv, D⟩
      case round =>
        clear cv D
        obtain ⟨i, S, s, i64, rfl, cv, D⟩ := hrel
        have wi : IntKind.i64.wrap ((i : Int) + 1) = (i : Int) + 1 := IntWalk.i64_in _ (by omega)
        by_cases hlt : i < 64
        · have hcv := cv.c i hlt
          have D := D.quiet (Keep.refl (fun _ => False) _).drew
          cases hbt : M.testBit i with
          | true =>
            have ba := bit_true hM hbt
            rw [hbt] at hcv
            clear hbt
            go_wp2_with fail
            refine wp_region_held_drew (S := (fun _ => True)) (by kernel_rfl) trivial (fun hHeld => ?_)
            refine wpAnyH_take (i := 0) (v := ?qvu0) rfl (by kernel_rfl) (by kernel_rfl) (by kernel_rfl) (fun _ _ _ h => h) (Or.inl ⟨by rfl, ?qyu0⟩) (by assumption) ?qru0; case qyu0 => ((intro w hSw; (try dsimp only at hSw); go_simp); try (with_reducible rfl))
            ((try simp only [List.getElem_toArray]); (try simp only [List.getElem_cons_succ]); (try simp only [List.getElem_cons_zero]); (try simp only [Act.put]); (try simp only [List.setIfInBounds_toArray]); (try simp only [List.set_cons_succ]); (try simp only [List.set_cons_zero]))
            refine wpAnyH_take (i := 1) (v := ?qvu1) rfl (by kernel_rfl) (by kernel_rfl) (by kernel_rfl) (fun _ _ _ h => h) (Or.inl ⟨by rfl, ?qyu1⟩) (by assumption) ?qru1; case qyu1 => ((intro w hSw; (try dsimp only at hSw); go_simp); try (with_reducible rfl))
            ((try simp only [List.getElem_toArray]); (try simp only [List.getElem_cons_succ]); (try simp only [List.getElem_cons_zero]); (try simp only [Act.put]); (try simp only [List.setIfInBounds_toArray]); (try simp only [List.set_cons_succ]); (try simp only [List.set_cons_zero]))
            refine wpAnyH_take (i := 3) (v := ?qvu2) rfl (by kernel_rfl) (by kernel_rfl) (by kernel_rfl) (fun _ _ _ h => h) (Or.inl ⟨by rfl, ?qyu2⟩) (by assumption) ?qru2; case qyu2 => ((intro w hSw; (try dsimp only at hSw); go_simp); try (with_reducible rfl))
            ((try simp only [List.getElem_toArray]); (try simp only [List.getElem_cons_succ]); (try simp only [List.getElem_cons_zero]); (try simp only [Act.put]); (try simp only [List.setIfInBounds_toArray]); (try simp only [List.set_cons_succ]); (try simp only [List.set_cons_zero]))
            refine wpAnyH_take (i := 4) (v := ?qvu3) rfl (by kernel_rfl) (by kernel_rfl) (by kernel_rfl) (fun _ _ _ h => h) (Or.inl ⟨by rfl, ?qyu3⟩) (by assumption) ?qru3; case qyu3 => ((intro w hSw; (try dsimp only at hSw); go_simp); try (with_reducible rfl))
            ((try simp only [List.getElem_toArray]); (try simp only [List.getElem_cons_succ]); (try simp only [List.getElem_cons_zero]); (try simp only [Act.put]); (try simp only [List.setIfInBounds_toArray]); (try simp only [List.set_cons_succ]); (try simp only [List.set_cons_zero]))
            refine wpAnyH_take (i := 5) (v := ?qvu4) rfl (by kernel_rfl) (by kernel_rfl) (by kernel_rfl) (fun _ _ _ h => h) (Or.inl ⟨by rfl, ?qyu4⟩) (by assumption) ?qru4; case qyu4 => ((intro w hSw; (try dsimp only at hSw); go_simp); try (with_reducible rfl))
            ((try simp only [List.getElem_toArray]); (try simp only [List.getElem_cons_succ]); (try simp only [List.getElem_cons_zero]); (try simp only [Act.put]); (try simp only [List.setIfInBounds_toArray]); (try simp only [List.set_cons_succ]); (try simp only [List.set_cons_zero]))
            refine wpAnyH_take (i := 6) (v := ?qvu5) rfl (by kernel_rfl) (by kernel_rfl) (by kernel_rfl) (fun _ _ _ h => h) (Or.inl ⟨by rfl, ?qyu5⟩) (by assumption) ?qru5; case qyu5 => ((intro w hSw; (try dsimp only at hSw); go_simp); try (with_reducible rfl))
            ((try simp only [List.getElem_toArray]); (try simp only [List.getElem_cons_succ]); (try simp only [List.getElem_cons_zero]); (try simp only [Act.put]); (try simp only [List.setIfInBounds_toArray]); (try simp only [List.set_cons_succ]); (try simp only [List.set_cons_zero]))
            refine wpAnyH_take (i := 7) (v := ?qvu6) rfl (by kernel_rfl) (by kernel_rfl) (by kernel_rfl) (fun _ _ _ h => h) (Or.inl ⟨by rfl, ?qyu6⟩) (by assumption) ?qru6; case qyu6 => ((intro w hSw; (try dsimp only at hSw); go_simp); try (with_reducible rfl))
            ((try simp only [List.getElem_toArray]); (try simp only [List.getElem_cons_succ]); (try simp only [List.getElem_cons_zero]); (try simp only [Act.put]); (try simp only [List.setIfInBounds_toArray]); (try simp only [List.set_cons_succ]); (try simp only [List.set_cons_zero]))
            refine wpAnyH_ready (rs := [2]) (by kernel_rfl) (by simp) ?_
            refine AllReadyH.cons rfl (fun K hK => ?_) AllReadyH.nil
            go_simp
            refine (rd_covers D _ _ hcv).mono ?_
            rintro e y6 ⟨rfl, S6, D6, k6⟩
            refine hK.out _ _ trivial (fun hHeld => ?_)
            clear hK K
            ((try simp only [List.getElem_toArray]); (try simp only [List.getElem_cons_succ]); (try simp only [List.getElem_cons_zero]); (try simp only [Act.put]); (try simp only [List.setIfInBounds_toArray]); (try simp only [List.set_cons_succ]); (try simp only [List.set_cons_zero]))
            refine wpAnyH_take (i := 8) (v := ?qvu7) rfl (by kernel_rfl) (by kernel_rfl) (by kernel_rfl) (fun _ _ _ h => h) (Or.inl ⟨by rfl, ?qyu7⟩) (by assumption) ?qru7; case qyu7 => ((intro w hSw; (try dsimp only at hSw); go_simp); try (with_reducible rfl))
            ((try simp only [List.getElem_toArray]); (try simp only [List.getElem_cons_succ]); (try simp only [List.getElem_cons_zero]); (try simp only [Act.put]); (try simp only [List.setIfInBounds_toArray]); (try simp only [List.set_cons_succ]); (try simp only [List.set_cons_zero]))
            refine wpAnyH_done (by kernel_rfl) ?_ _
            go_wp2
            first | exact ⟨⟨i + 1, S6, s, by omega, by go_num, cv, D6⟩, by simp [intOf]; omega⟩ | (refine ⟨?rel2, ?meas2⟩; (case meas2 => (simp [intOf]; omega)); (case rel2 => ((repeat apply Exists.intro); exact ⟨⟨i + 1, S6, s, by omega, by go_num, cv, D6⟩, rfl⟩)))
          | false =>
            have ba := bit_false hM hbt
            rw [hbt] at hcv
            clear hbt
            go_wp2_with fail
            refine wp_region_held_drew (S := (fun _ => True)) (by kernel_rfl) trivial (fun hHeld => ?_)
            refine wpAnyH_take (i := 0) (v := ?qvu8) rfl (by kernel_rfl) (by kernel_rfl) (by kernel_rfl) (fun _ _ _ h => h) (Or.inl ⟨by rfl, ?qyu8⟩) (by assumption) ?qru8; case qyu8 => ((intro w hSw; (try dsimp only at hSw); go_simp); try (with_reducible rfl))
            ((try simp only [List.getElem_toArray]); (try simp only [List.getElem_cons_succ]); (try simp only [List.getElem_cons_zero]); (try simp only [Act.put]); (try simp only [List.setIfInBounds_toArray]); (try simp only [List.set_cons_succ]); (try simp only [List.set_cons_zero]))
            refine wpAnyH_take (i := 1) (v := ?qvu9) rfl (by kernel_rfl) (by kernel_rfl) (by kernel_rfl) (fun _ _ _ h => h) (Or.inl ⟨by rfl, ?qyu9⟩) (by assumption) ?qru9; case qyu9 => ((intro w hSw; (try dsimp only at hSw); go_simp); try (with_reducible rfl))
            ((try simp only [List.getElem_toArray]); (try simp only [List.getElem_cons_succ]); (try simp only [List.getElem_cons_zero]); (try simp only [Act.put]); (try simp only [List.setIfInBounds_toArray]); (try simp only [List.set_cons_succ]); (try simp only [List.set_cons_zero]))
            refine wpAnyH_take (i := 3) (v := ?qvu10) rfl (by kernel_rfl) (by kernel_rfl) (by kernel_rfl) (fun _ _ _ h => h) (Or.inl ⟨by rfl, ?qyu10⟩) (by assumption) ?qru10; case qyu10 => ((intro w hSw; (try dsimp only at hSw); go_simp); try (with_reducible rfl))
            ((try simp only [List.getElem_toArray]); (try simp only [List.getElem_cons_succ]); (try simp only [List.getElem_cons_zero]); (try simp only [Act.put]); (try simp only [List.setIfInBounds_toArray]); (try simp only [List.set_cons_succ]); (try simp only [List.set_cons_zero]))
            refine wpAnyH_take (i := 4) (v := ?qvu11) rfl (by kernel_rfl) (by kernel_rfl) (by kernel_rfl) (fun _ _ _ h => h) (Or.inl ⟨by rfl, ?qyu11⟩) (by assumption) ?qru11; case qyu11 => ((intro w hSw; (try dsimp only at hSw); go_simp); try (with_reducible rfl))
            ((try simp only [List.getElem_toArray]); (try simp only [List.getElem_cons_succ]); (try simp only [List.getElem_cons_zero]); (try simp only [Act.put]); (try simp only [List.setIfInBounds_toArray]); (try simp only [List.set_cons_succ]); (try simp only [List.set_cons_zero]))
            refine wpAnyH_take (i := 5) (v := ?qvu12) rfl (by kernel_rfl) (by kernel_rfl) (by kernel_rfl) (fun _ _ _ h => h) (Or.inl ⟨by rfl, ?qyu12⟩) (by assumption) ?qru12; case qyu12 => ((intro w hSw; (try dsimp only at hSw); go_simp); try (with_reducible rfl))
            ((try simp only [List.getElem_toArray]); (try simp only [List.getElem_cons_succ]); (try simp only [List.getElem_cons_zero]); (try simp only [Act.put]); (try simp only [List.setIfInBounds_toArray]); (try simp only [List.set_cons_succ]); (try simp only [List.set_cons_zero]))
            refine wpAnyH_take (i := 6) (v := ?qvu13) rfl (by kernel_rfl) (by kernel_rfl) (by kernel_rfl) (fun _ _ _ h => h) (Or.inl ⟨by rfl, ?qyu13⟩) (by assumption) ?qru13; case qyu13 => ((intro w hSw; (try dsimp only at hSw); go_simp); try (with_reducible rfl))
            ((try simp only [List.getElem_toArray]); (try simp only [List.getElem_cons_succ]); (try simp only [List.getElem_cons_zero]); (try simp only [Act.put]); (try simp only [List.setIfInBounds_toArray]); (try simp only [List.set_cons_succ]); (try simp only [List.set_cons_zero]))
            refine wpAnyH_take (i := 7) (v := ?qvu14) rfl (by kernel_rfl) (by kernel_rfl) (by kernel_rfl) (fun _ _ _ h => h) (Or.inl ⟨by rfl, ?qyu14⟩) (by assumption) ?qru14; case qyu14 => ((intro w hSw; (try dsimp only at hSw); go_simp); try (with_reducible rfl))
            ((try simp only [List.getElem_toArray]); (try simp only [List.getElem_cons_succ]); (try simp only [List.getElem_cons_zero]); (try simp only [Act.put]); (try simp only [List.setIfInBounds_toArray]); (try simp only [List.set_cons_succ]); (try simp only [List.set_cons_zero]))
            refine wpAnyH_ready (rs := [2]) (by kernel_rfl) (by simp) ?_
            refine AllReadyH.cons rfl (fun K hK => ?_) AllReadyH.nil
            go_simp
            refine (rd_covers D _ _ hcv).mono ?_
            rintro e y6 ⟨rfl, S6, D6, k6⟩
            refine hK.out _ _ trivial (fun hHeld => ?_)
            clear hK K
            ((try simp only [List.getElem_toArray]); (try simp only [List.getElem_cons_succ]); (try simp only [List.getElem_cons_zero]); (try simp only [Act.put]); (try simp only [List.setIfInBounds_toArray]); (try simp only [List.set_cons_succ]); (try simp only [List.set_cons_zero]))
            refine wpAnyH_take (i := 8) (v := ?qvu15) rfl (by kernel_rfl) (by kernel_rfl) (by kernel_rfl) (fun _ _ _ h => h) (Or.inl ⟨by rfl, ?qyu15⟩) (by assumption) ?qru15; case qyu15 => ((intro w hSw; (try dsimp only at hSw); go_simp); try (with_reducible rfl))
            ((try simp only [List.getElem_toArray]); (try simp only [List.getElem_cons_succ]); (try simp only [List.getElem_cons_zero]); (try simp only [Act.put]); (try simp only [List.setIfInBounds_toArray]); (try simp only [List.set_cons_succ]); (try simp only [List.set_cons_zero]))
            refine wpAnyH_done (by kernel_rfl) ?_ _
            go_wp2
            first | exact ⟨⟨i + 1, S6, s, by omega, by go_num, cv, D6⟩, by simp [intOf]; omega⟩ | (refine ⟨?rel2, ?meas2⟩; (case meas2 => (simp [intOf]; omega)); (case rel2 => ((repeat apply Exists.intro); exact ⟨⟨i + 1, S6, s, by omega, by go_num, cv, D6⟩, rfl⟩)))
        · obtain rfl : i = 64 := by omega
          have o1 := cv.o (-1) (by omega)
          have o2 := cv.o 64 (by omega)
          clear hlt i64 wi cv
          go_wp2_with fail
          refine (rd_covers D _ _ o1).mono ?_
          rintro e y5 ⟨rfl, S5, D5, k5⟩
          clear D k5
          go_wp2_with fail
          refine (rd_covers D5 _ _ o2).mono ?_
          rintro e y6 ⟨rfl, S6, D6, k6⟩
          clear D5 k6
          go_wp2_with fail
          refine (awake13_any _).mono ?_
          rintro e z9 ⟨rfl, b9⟩
          go_wp2
          go_ret
          exact ⟨rfl, D6.b.trans (b9.mono D6.b.size)⟩
theorem own : ownKnob Try.prog.godebug = none := by kernel_rfl
theorem laidOut : laidOutB Try.prog = true := by kernel_rfl
set_option maxRecDepth 100000 in
theorem lifted (os : Os) (started : os.Started) (H : Type) (enc : TypeId × Value → H) :
    ReturnsInHanded {} Try.checked os 4 .any (Rows.readsCoversSpec.pre6 enc Try.prog Try.f4 Rows.readsCoversRow.domain false) (Rows.readsCoversSpec.post enc Try.prog Try.f4 false true false false) := by
  refine returnsInHanded_of_change (C := Try.checked) own started (by kernel_rfl) Try.func4
    (ChangeSpec.witness6 (enc := enc) (C := Try.checked) false ⟨#[], #[.int .u64 0, .slice none 0 0, .slice none 0 0], []⟩ 8 (by kernel_rfl) (by kernel_rfl) (by kernel_rfl) (by kernel_rfl)) ?_
  intro W base args ds gs before hval0 hW hcnd _
  have hval : ∀ (j : Nat) t v, Try.f4.params[j]? = some t → args[j]? = some v → Value.okWide Try.prog W .any base t v := hval0
  have hW' := hW
  obtain ⟨p, q, hA0, hV, rfl, hfz, hnd⟩ := hW
  have hA : DataW.TrodAll enc Try.prog W 0 (fun _ => true) true Try.f4.params.toList args.toList ds p := hA0
  rw [Try.params4] at hA hval
  obtain ⟨v0, vs0, d0, ds0, p0, q0, hargs, rfl, rfl, h0, r0⟩ := trodAll_cons hA
  obtain ⟨v1, vs1, d1, ds1, p1, q1, rfl, rfl, rfl, h1, r1⟩ := trodAll_cons r0
  obtain ⟨v2, vs2, d2, ds2, p2, q2, rfl, rfl, rfl, h2, r2⟩ := trodAll_cons r1
  obtain ⟨rfl, rfl, rfl⟩ := trodAll_nil r2
  obtain rfl : args = #[v0, v1, v2] := by cases args; simp_all
  obtain ⟨rfl, rfl⟩ := trodVars_none hV
  obtain ⟨a0, rfl, rfl, rfl, w0⟩ := open_int Try.underlying27 (hval 0 27 v0 rfl rfl) h0
  obtain ⟨a1, len1, cap1, rfl⟩ := okWide_slice Try.underlying32 (hval 1 32 v1 rfl rfl)
  have k1 := h1
  have lt1 : ∀ x ∈ p1, x.block < W.heap.size := by obtain ⟨m, hm⟩ := k1; exact DataW.trod_lt m _ _ _ hm
  obtain ⟨z1, w1⟩ : ∃ zs, IsRow .i64 W a1 len1 cap1 zs := is_row Try.underlying32 Try.underlying3 (by kernel_rfl) h1
  obtain ⟨a2, len2, cap2, rfl⟩ := okWide_slice Try.underlying32 (hval 2 32 v2 rfl rfl)
  have k2 := h2
  have lt2 : ∀ x ∈ p2, x.block < W.heap.size := by obtain ⟨m, hm⟩ := k2; exact DataW.trod_lt m _ _ _ hm
  obtain ⟨z2, w2⟩ : ∃ zs, IsRow .i64 W a2 len2 cap2 zs := is_row Try.underlying32 Try.underlying3 (by kernel_rfl) h2
  clear hA0 hval0
  refine (walk a0 a1 len1 cap1 z1 a2 len2 cap2 z2 W w0 w1 w2).mono fun e W' ⟨he, bel⟩ => ?_
  subst he
  exact ⟨_, rfl, _, _, _, [], _, [], hW', trodAll_mk1 (shut_bool Try.underlying4 _), (trodAll_cons_mk (shut_int Try.underlying27 w0) (trodAll_cons_mk (Below.trod laidOut (by kernel_rfl) (of_decide_eq_true (by kernel_rfl)) k1 bel lt1) (trodAll_cons_mk (Below.trod laidOut (by kernel_rfl) (of_decide_eq_true (by kernel_rfl)) k2 bel lt2) trodAll_mk0))), rfl, bel.frame _, fun h => by cases h⟩
theorem over : Rows.readsCoversRow.holds Try.pinned (OpenSpec.ofChange Rows.readsCoversSpec) :=
  OpenClaim.holds_of_wide 4 Try.f4 rfl rfl rfl rfl rfl rfl rfl ⟨rfl, rfl, rfl, rfl, rfl⟩ rfl rfl rfl rfl rfl (by kernel_rfl) Try.func4 (by kernel_rfl)
    (of_decide_eq_true (by kernel_rfl)) (by unfold Func.isWrapper; first | (rw [if_pos (by decide +kernel)]; kernel_rfl) | (rw [if_neg (by decide +kernel)]; exact ⟨rfl, rfl⟩))
    (fun os started H enc _ => lifted os started H enc)
theorem proved : Rows.ReadsCoversSaid := over
end Go.Proofs.Ytafcmcpnmkmlbaa.readsCovers
