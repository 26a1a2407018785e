/- Proved here: vinculumlaw7.SeeOnce returns true and leaves its arguments as they were, for every slice of numbers, every time, the last one open or not; no further condition. -/
import Derived.Test.YtdkgngdfehllcaaSeeD
import Derived.Test.YtdkgngdfehllcaaMask
import Derived.Test.YtdkgngdfehllcaaSeeF
import Derived.Test.YtdkgngdfehllcaaPush
import Derived.ChangeOld
import Derived.Deep.CutRange
import Derived.Deep.LoopGhost
import Derived.Deep.CutBlock
namespace Go.Proofs.Ytdkgngdfehllcaa.seeOnce
open Go.ChangeShapes Go.WideShapes Go.ChangeAt Go.RowKit
set_option linter.unusedVariables false

def acc (s : List Int) : Nat → Int
  | 0 => 0
  | k + 1 => acc s k + 1 + s.getD k 0 % 8
/-- The times, so many. -/
def tms (s : List Int) (k : Nat) : List Int := (List.range k).map (fun i => acc s (i + 1))
theorem tms_len (s : List Int) (k : Nat) : (tms s k).length = k := by simp [tms]
theorem tms_succ (s : List Int) (k : Nat) : tms s (k + 1) = tms s k ++ [acc s (k + 1)] := by simp [tms, List.range_succ]
theorem tms_get (s : List Int) (k i : Nat) (h : i < k) : (tms s k).getD i 0 = acc s (i + 1) := by simp [tms, List.getD_eq_getElem?_getD, h]
theorem acc_b (s : List Int) : ∀ k : Nat, (k : Int) ≤ acc s k ∧ acc s k ≤ 8 * (k : Int)
  | 0 => by simp [acc]
  | k + 1 => by
    have := acc_b s k
    have := Int.emod_nonneg (s.getD k 0) (show (8 : Int) ≠ 0 by decide)
    have := Int.emod_lt_of_pos (s.getD k 0) (show (0 : Int) < 8 by decide)
    simp only [acc]
    omega
theorem acc_lt (s : List Int) (k : Nat) : acc s k < acc s (k + 1) := by
  have := Int.emod_nonneg (s.getD k 0) (show (8 : Int) ≠ 0 by decide)
  simp only [acc]
  omega
/-- Where the version i begins; behind the last one: where that ends. -/
def bd (s : List Int) (n : Nat) (op : Bool) (i : Nat) : Int := if i < n then acc s (i + 1) else if op = true then 2305843009213693952 else acc s n + 3
theorem bd_in (s : List Int) (n : Nat) (op : Bool) (i : Nat) (h : i < n) : bd s n op i = acc s (i + 1) := by unfold bd; rw [if_pos h]
theorem bd_lt (s : List Int) (n : Nat) (op : Bool) (n20 : n ≤ 20) (i : Nat) (h : i < n) : bd s n op i < bd s n op (i + 1) := by
  rw [bd_in s n op i h]
  unfold bd
  by_cases h1 : i + 1 < n
  · rw [if_pos h1]
    exact acc_lt s (i + 1)
  · obtain rfl : n = i + 1 := by omega
    have := acc_b s (i + 1)
    rw [if_neg (by omega)]
    split <;> omega
theorem bd_le (s : List Int) (n : Nat) (op : Bool) (n20 : n ≤ 20) : ∀ i : Nat, i ≤ n → bd s n op 0 ≤ bd s n op i
  | 0, _ => Int.le_refl _
  | i + 1, h => by
    have := bd_le s n op n20 i (by omega)
    have := bd_lt s n op n20 i (by omega)
    omega
def inI (a x y : Int) : Int := if x ≤ a ∧ a < y then 1 else 0
theorem inI_next (a x y z : Int) (h1 : x ≤ y) (h2 : y < z) : inI a x z = inI a x y + inI a y z := by
  unfold inI
  by_cases h3 : x ≤ a <;> by_cases h4 : a < y <;> by_cases h5 : a < z <;> simp [h3, h4, h5] <;> omega
theorem see_one (x y a : Int) (hx : x ≤ 1099511627776) (hy : y ≤ 1099511627776 ∨ y = 2305843009213693952) (ha : a ≤ 255) : seeI noL x y 7 a = (2 - inI a x y, []) := by
  unfold seeI inI
  rw [time_b x 7 a hx]
  have he : endI noL y 7 a = (if a < y then 2 else 1, 0) := by
    rcases hy with h | rfl
    · rw [time_e y 7 a h]
      by_cases h1 : y ≤ a
      · rw [if_pos h1, if_neg (by omega)]
      · rw [if_neg h1, if_pos (by omega)]
    · rw [ever_e, if_pos (by omega)]
  rw [he]
  by_cases h1 : x ≤ a <;> by_cases h2 : a < y <;> simp [h1, h2]
theorem out7 {B : Nat} {w : World} {v : Value} {zs : List Int} (h : OwnU B w v zs) : ∃ A c, v = .slice A zs.length c ∧ (A = none → zs = []) ∧ ∀ ad, A = some ad → ∃ g, ad = ⟨g, 0, none⟩ := by
  obtain ⟨h1, h2⟩ := id h
  rcases h2 with ⟨h3, h4⟩ | ⟨g, c, cur, hv, _⟩
  · exact ⟨none, 0, by rw [h4]; exact h3, fun _ => List.length_eq_zero_iff.1 h4, fun ad h => by cases h⟩
  · exact ⟨some ⟨g, 0, none⟩, c, hv, fun h => (by cases h), fun ad h => by cases h; exact ⟨g, rfl⟩⟩
def Rel (w : World) (s : List Int) (n k : Nat) (v l i : Value) (wr : World) : Prop :=
  k ≤ n ∧ i = .int .i64 k ∧ l = .int .u64 (acc s k) ∧ OwnU w.heap.size wr v (tms s k) ∧ Below w.heap.size w wr
theorem Rel.push {w wr w2 : World} {s : List Int} {n k : Nat} {v v2 l i : Value} (h : Rel w s n k v l i wr) (kl : k < n) (o : OwnU w.heap.size w2 v2 (tms s k ++ [acc s (k + 1)])) (kp : Keep (fun j => v.ownBlock = some j) wr w2) : Rel w s n (k + 1) v2 (.int .u64 (acc s (k + 1))) (.int .i64 ((k + 1 : Nat) : Int)) w2 := by
  obtain ⟨h1, h2, h3, h4, h5⟩ := h
  exact ⟨by omega, rfl, rfl, by rw [tms_succ]; exact o, h5.trans (kp.below h5.size (fun j hj => (OwnU.lt h4 hj).1))⟩
def Rel2 (w : World) (s : List Int) (n : Nat) (op : Bool) (a : Int) (v : Value) (k : Nat) (q i : Value) (wr : World) : Prop :=
  k ≤ n ∧ i = .int .i64 k ∧ q = .int .i64 (inI a (bd s n op 0) (bd s n op k)) ∧ OwnU w.heap.size wr v (tms s n) ∧ Below w.heap.size w wr
theorem inI_01 (a x y : Int) : inI a x y = 0 ∨ inI a x y = 1 := by unfold inI; split <;> simp
set_option maxRecDepth 100000 in
set_option maxHeartbeats 8000000 in
theorem walk (a0 : Option Addr) (len0 cap0 : Nat) (z0 : List Int) (a1 : Int) (op : Bool) (w : World) (w0 : IsRow .i64 w a0 len0 cap0 z0) (w1 : (Lit.int .u64 a1).wf = true) :
    Calls Try.prog 9 #[.slice a0 len0 cap0, .int .u64 a1, .bool op] w fun e w' => e = .returned (.bool true) ∧ Below w.heap.size w w' := by
  obtain ⟨l1, l2, l3, lc, lw⟩ := id w0
  subst l1
  obtain ⟨p0, p1⟩ := bounds_u64 w1
  have hm := u64_mask8 a1 p0 p1
  obtain ⟨a, ea⟩ : ∃ a, a1 % 256 = a := ⟨_, rfl⟩
  rw [ea] at hm
  have ha : 0 ≤ a ∧ a ≤ 255 := by omega
  clear ea p0 p1
  obtain ⟨n, hn⟩ : ∃ n : Nat, n = min z0.length 20 := ⟨_, rfl⟩
  have n20 : n ≤ 20 := by omega
  have nz : n ≤ z0.length := by omega
  have hor : (n = 20 ∧ n < z0.length) ∨ n = z0.length := by omega
  clear hn
  go_enter Try.func9, Try.ntmps9
  go_upto_block 0 with fail
  go_cut [7, 8, 9] from 16 to 38 (fun v l i wr => Rel w z0 n n v l i wr)
  case first =>
    go_wp2_with fail
    go_loopg [7, 8, 9] n (fun m v l i wr => ∃ k : Nat, m + k = n ∧ Rel w z0 n k v l i wr)
    case atStart => exact ⟨0, rfl, Nat.zero_le _, rfl, rfl, World.ownsRow_nil _ _ _ _, Below.refl _ _⟩
    case round =>
      obtain ⟨k, hgk, h⟩ := hrel
      obtain ⟨kl, rfl, rfl, ho, hb⟩ := id h
      by_cases hlt : k < n
      · obtain ⟨b0, off, rfl, hb0, hc⟩ := lc (by omega)
        have hc := (hb.cell (p := ⟨b0, off + k, none⟩) hb0).trans (hc k (by omega))
        have hL := acc_b z0 k
        have hS : acc z0 (k + 1) = acc z0 k + 1 + z0.getD k 0 % 8 := rfl
        obtain ⟨x, ex⟩ : ∃ x, z0.getD k 0 = x := ⟨_, rfl⟩
        rw [ex] at hc hS
        have hx := i64_mask3 x
        obtain ⟨y, ey⟩ : ∃ y, x % 8 = y := ⟨_, rfl⟩
        rw [ey] at hx hS
        have hy : 0 ≤ y ∧ y ≤ 7 := by omega
        have H := Lib.hid h
        have HS := Lib.hid hS
        obtain ⟨L, eL⟩ : ∃ L, acc z0 k = L := ⟨_, rfl⟩
        have HL := Lib.hid eL
        rw [eL] at hL
        clear ex ey lc lw h hS hm
        rw [eL]
        clear eL
        have e1 : IntKind.u64.wrap (L + 1) = L + 1 := IntWalk.u64_in _ (by omega)
        have e2 : IntKind.u64.wrap (L + 1 + y) = L + 1 + y := IntWalk.u64_in _ (by omega)
        have e3 : IntKind.u64.wrap y = y := IntWalk.u64_in _ (by omega)
        have wk : IntKind.i64.wrap ((k : Int) + 1) = (k : Int) + 1 := IntWalk.i64_in _ (by omega)
        have d1 : decide (k < z0.length) = true := decide_eq_true (by omega)
        have d2 : decide ((k : Int) < 20) = true := decide_eq_true (by omega)
        go_wp2_with (with_reducible refine wp_stop 38 rfl ?_)
        intro _
        refine wp_push rfl (.tmp 35) (.tmp 37) rfl w.heap.size hb.size u7 (tms z0 k) rfl ho (L + 1 + y) rfl (by rw [tms_len]; omega) ?_
        intro g c w4 o4 k4 hg
        go_wp2
        go_roundg (n - (k + 1))
        case measure => omega
        case rel =>
          have o4 : OwnU w.heap.size w4 (.slice (some ⟨g, 0, none⟩) ((tms z0 k).length + 1) c) (tms z0 k ++ [acc z0 (k + 1)]) := by rw [HS.out, HL.out]; exact o4
          have r := H.out.push hlt o4 k4
          have r : Rel w z0 n (k + 1) (.slice (some ⟨g, 0, none⟩) ((tms z0 k).length + 1) c) (.int .u64 (L + 1 + y)) (.int .i64 ((k : Int) + 1)) w4 := by rw [HS.out, HL.out] at r; exact r
          exact ⟨k + 1, by omega, r⟩
      · obtain rfl : n = k := by omega
        clear lc lw hgk
        rcases hor with ⟨e20, hl⟩ | e20
        · have d1 : decide (n < z0.length) = true := decide_eq_true (by omega)
          have d2 : decide (n < 20) = false := decide_eq_false (by omega)
          subst e20
          go_wp2_with fail
          go_meet
          case rel => exact h
        · have d1 : decide (n < z0.length) = false := decide_eq_false (by omega)
          clear e20
          go_wp2_with fail
          go_meet
          case rel => exact h
  case rest =>
  obtain ⟨_, rfl, rfl, ho, hb⟩ := hcut
  obtain ⟨A, c, rfl, hA0, hA1⟩ := out7 ho
  rw [tms_len] at ho ⊢
  go_wp2
  go_loopw [10, 11, 12, 13, 14] (fun q i e v l wr => ∃ k : Nat, Rel2 w z0 n op a (.slice A n c) k q i wr) (fun _ i _ _ _ _ => n - (intOf i).toNat)
  case atStart => exact ⟨0, Nat.zero_le _, rfl, by rw [show inI a (bd z0 n op 0) (bd z0 n op 0) = 0 by (unfold inI; rw [if_neg (by omega)])], ho, hb⟩
  case round =>
    obtain ⟨k, kl, rfl, rfl, ho, hb⟩ := hrel
    by_cases hlt : k < n
    · cases A with
      | none => exact absurd (congrArg List.length (hA0 rfl)) (by rw [tms_len]; simp; omega)
      | some ad =>
        obtain ⟨g, rfl⟩ := hA1 _ rfl
        have ck := OwnU.cell ho k (by rw [tms_len]; exact hlt)
        rw [tms_get z0 n k hlt] at ck
        have hx := acc_b z0 (k + 1)
        have hxk := bd_in z0 n op k hlt
        have h01 := inI_01 a (bd z0 n op 0) (bd z0 n op k)
        have hnx := inI_next a (bd z0 n op 0) (bd z0 n op k) (bd z0 n op (k + 1)) (bd_le z0 n op n20 k kl) (bd_lt z0 n op n20 k hlt)
        obtain ⟨s, es⟩ : ∃ s, inI a (bd z0 n op 0) (bd z0 n op k) = s := ⟨_, rfl⟩
        rw [es] at h01 hnx ⊢
        rw [hxk] at hnx
        have wk : IntKind.i64.wrap ((k : Int) + 1) = (k : Int) + 1 := IntWalk.i64_in _ (by omega)
        have ws : IntKind.i64.wrap (s + 1) = s + 1 := IntWalk.i64_in _ (by omega)
        have hway : ∃ y, bd z0 n op (k + 1) = y ∧ ((k + 1 < n ∧ acc z0 (k + 2) = y ∧ y ≤ 168) ∨ (k + 1 = n ∧ op = true ∧ y = 2305843009213693952) ∨ (k + 1 = n ∧ op = false ∧ y = acc z0 (k + 1) + 3)) := by
          refine ⟨_, rfl, ?_⟩
          by_cases h1 : k + 1 < n
          · have := acc_b z0 (k + 2)
            exact .inl ⟨h1, (bd_in z0 n op (k + 1) h1).symm, by rw [bd_in z0 n op (k + 1) h1]; show acc z0 (k + 2) ≤ 168; omega⟩
          · obtain rfl : n = k + 1 := by omega
            unfold bd
            rw [if_neg h1]
            cases op <;> simp
        obtain ⟨y, ey, hway⟩ := hway
        rw [ey] at hnx
        have y0 : 0 ≤ y := by have := acc_b z0 (k + 2); rcases hway with h | h | h <;> omega
        have hy : y ≤ 1099511627776 ∨ y = 2305843009213693952 := by rcases hway with h | h | h <;> omega
        have ck1 : k + 1 < n → wr.cell? ⟨g, k + 1, none⟩ = some (.int .u64 (acc z0 (k + 2))) := fun h1 => by
          have := OwnU.cell ho (k + 1) (by rw [tms_len]; exact h1)
          rwa [tms_get z0 n (k + 1) h1] at this
        obtain ⟨x, ex⟩ : ∃ x, acc z0 (k + 1) = x := ⟨_, rfl⟩
        rw [ex] at ck hnx hway hx
        have hs := see_one x y a (by omega) hy ha.2
        have hE := Lib.hid ey
        have hN := Lib.hid hnx
        clear hxk es ex hA0 hA1 ey hnx hy hor
        have dlen : (tms z0 n).length = n := tms_len z0 n
        clear dlen
        rcases hway with ⟨h1, h2, h3⟩ | ⟨h1, rfl, rfl⟩ | ⟨h1, rfl, rfl⟩
        · have c1 := ck1 h1
          rw [h2] at c1
          have d1 : decide ((k : Int) + 1 < (n : Int)) = true := decide_eq_true (by omega)
          clear h2 ck1
          by_cases hin : x ≤ a ∧ a < y
          · have hi : inI a x y = 1 := (by unfold inI; rw [if_pos hin]); rw [hi] at hs hN; have dx : decide (a < x) = false := decide_eq_false (by omega); go_wp2_with fail; refine (ever7_any _).mono ?_; rintro e w1 ⟨rfl, rfl⟩; go_wp2_with fail; refine (psee_to look_nil trivial x y 7 a _ [] hs (by omega) (by omega) (by omega) (by omega)).mono ?_; rintro e w2 ⟨A2, c2, rfl, o2, b2⟩; have ck := (b2.cell (p := ⟨g, k, none⟩) (lt_of_cell ck)).trans ck; go_wp2; go_roundw; (case rel => exact ⟨k + 1, by omega, by go_num, by rw [hE.out, hN.out], OwnU.keep ho (Keep.of_below b2 (fun _ => False)) (by simp), thru hb b2⟩); (case measure => (simp [intOf]; omega))
          · have hi : inI a x y = 0 := (by unfold inI; rw [if_neg hin]); rw [hi] at hs hN; go_wp2_with fail; refine (ever7_any _).mono ?_; rintro e w1 ⟨rfl, rfl⟩; go_wp2_with fail; refine (psee_to look_nil trivial x y 7 a _ [] hs (by omega) (by omega) (by omega) (by omega)).mono ?_; rintro e w2 ⟨A2, c2, rfl, o2, b2⟩; have ck := (b2.cell (p := ⟨g, k, none⟩) (lt_of_cell ck)).trans ck; go_wp2; go_roundw; (case rel => exact ⟨k + 1, by omega, by go_num, by rw [hE.out, hN.out, Int.add_zero], OwnU.keep ho (Keep.of_below b2 (fun _ => False)) (by simp), thru hb b2⟩); (case measure => (simp [intOf]; omega))
        · have d1 : decide ((k : Int) + 1 < (n : Int)) = false := decide_eq_false (by omega)
          clear ck1
          by_cases hin : x ≤ a ∧ a < 2305843009213693952
          · have hi : inI a x 2305843009213693952 = 1 := (by unfold inI; rw [if_pos hin]); rw [hi] at hs hN; have dx : decide (a < x) = false := decide_eq_false (by omega); go_wp2_with fail; refine (ever7_any _).mono ?_; rintro e w1 ⟨rfl, rfl⟩; go_wp2_with fail; refine (psee_to look_nil trivial x 2305843009213693952 7 a _ [] hs (by omega) (by omega) (by omega) (by omega)).mono ?_; rintro e w2 ⟨A2, c2, rfl, o2, b2⟩; have ck := (b2.cell (p := ⟨g, k, none⟩) (lt_of_cell ck)).trans ck; go_wp2; go_roundw; (case rel => exact ⟨k + 1, by omega, by go_num, by rw [hE.out, hN.out], OwnU.keep ho (Keep.of_below b2 (fun _ => False)) (by simp), thru hb b2⟩); (case measure => (simp [intOf]; omega))
          · have hi : inI a x 2305843009213693952 = 0 := (by unfold inI; rw [if_neg hin]); rw [hi] at hs hN; go_wp2_with fail; refine (ever7_any _).mono ?_; rintro e w1 ⟨rfl, rfl⟩; go_wp2_with fail; refine (psee_to look_nil trivial x 2305843009213693952 7 a _ [] hs (by omega) (by omega) (by omega) (by omega)).mono ?_; rintro e w2 ⟨A2, c2, rfl, o2, b2⟩; have ck := (b2.cell (p := ⟨g, k, none⟩) (lt_of_cell ck)).trans ck; go_wp2; go_roundw; (case rel => exact ⟨k + 1, by omega, by go_num, by rw [hE.out, hN.out, Int.add_zero], OwnU.keep ho (Keep.of_below b2 (fun _ => False)) (by simp), thru hb b2⟩); (case measure => (simp [intOf]; omega))
        · have d1 : decide ((k : Int) + 1 < (n : Int)) = false := decide_eq_false (by omega)
          have w3 : IntKind.u64.wrap (x + 3) = x + 3 := IntWalk.u64_in _ (by omega)
          clear ck1
          by_cases hin : x ≤ a ∧ a < x + 3
          · have hi : inI a x (x + 3) = 1 := (by unfold inI; rw [if_pos hin]); rw [hi] at hs hN; have dx : decide (a < x) = false := decide_eq_false (by omega); go_wp2_with fail; refine (ever7_any _).mono ?_; rintro e w1 ⟨rfl, rfl⟩; go_wp2_with fail; refine (psee_to look_nil trivial x (x + 3) 7 a _ [] hs (by omega) (by omega) (by omega) (by omega)).mono ?_; rintro e w2 ⟨A2, c2, rfl, o2, b2⟩; have ck := (b2.cell (p := ⟨g, k, none⟩) (lt_of_cell ck)).trans ck; go_wp2; go_roundw; (case rel => exact ⟨k + 1, by omega, by go_num, by rw [hE.out, hN.out], OwnU.keep ho (Keep.of_below b2 (fun _ => False)) (by simp), thru hb b2⟩); (case measure => (simp [intOf]; omega))
          · have hi : inI a x (x + 3) = 0 := (by unfold inI; rw [if_neg hin]); rw [hi] at hs hN; go_wp2_with fail; refine (ever7_any _).mono ?_; rintro e w1 ⟨rfl, rfl⟩; go_wp2_with fail; refine (psee_to look_nil trivial x (x + 3) 7 a _ [] hs (by omega) (by omega) (by omega) (by omega)).mono ?_; rintro e w2 ⟨A2, c2, rfl, o2, b2⟩; have ck := (b2.cell (p := ⟨g, k, none⟩) (lt_of_cell ck)).trans ck; go_wp2; go_roundw; (case rel => exact ⟨k + 1, by omega, by go_num, by rw [hE.out, hN.out, Int.add_zero], OwnU.keep ho (Keep.of_below b2 (fun _ => False)) (by simp), thru hb b2⟩); (case measure => (simp [intOf]; omega))
    · obtain rfl : n = k := by omega
      clear lc lw hm hor hlt kl
      have hE : (bd z0 n op 0) ≤ (bd z0 n op n) := bd_le z0 n op n20 n (Nat.le_refl n)
      have wn : IntKind.i64.wrap ((n : Int) - 1) = (n : Int) - 1 := IntWalk.i64_in _ (by omega)
      by_cases h0 : n = 0
      · subst h0
        rw [show inI a (bd z0 0 op 0) (bd z0 0 op 0) = 0 by (unfold inI; rw [if_neg (by omega)])]
        go_wp2_with fail; refine (awake7_any _).mono ?_; rintro e w3 ⟨rfl, b3⟩; go_wp2; go_ret; exact ⟨rfl, thru hb b3⟩
      · cases A with
        | none => exact absurd (congrArg List.length (hA0 rfl)) (by rw [tms_len]; simp; omega)
        | some ad =>
          obtain ⟨g, rfl⟩ := hA1 _ rfl
          obtain ⟨m, rfl⟩ : ∃ m, n = m + 1 := ⟨n - 1, by omega⟩
          have c0 := OwnU.cell ho 0 (by rw [tms_len]; omega)
          rw [tms_get z0 (m + 1) 0 (by omega)] at c0
          have cm := OwnU.cell ho m (by rw [tms_len]; omega)
          rw [tms_get z0 (m + 1) m (by omega)] at cm
          have hx := acc_b z0 (m + 1)
          have hb0 := bd_in z0 (m + 1) op 0 (by omega)
          have hbn : bd z0 (m + 1) op (m + 1) = if op = true then 2305843009213693952 else acc z0 (m + 1) + 3 := by unfold bd; rw [if_neg (by omega)]
          rw [hb0, hbn] at hE ⊢
          clear hb0 hbn h0 hA0 hA1 ho
          obtain ⟨x, ex⟩ : ∃ x, acc z0 (0 + 1) = x := ⟨_, rfl⟩
          obtain ⟨y, ey⟩ : ∃ y, acc z0 (m + 1) = y := ⟨_, rfl⟩
          rw [ex] at c0 hE ⊢
          rw [ey] at cm hx hE ⊢
          clear ex ey
          have w3 : IntKind.u64.wrap (y + 3) = y + 3 := IntWalk.u64_in _ (by omega)
          have hlen : (0 : Int) < (m : Int) + 1 := by omega
          have wm : IntKind.i64.wrap ((m : Int) + 1 - 1) = m := by rw [IntWalk.i64_in _ (by omega)]; omega
          clear wn
          by_cases h1 : x ≤ a
          · have d1 : decide (x ≤ a) = true := decide_eq_true h1
            cases op with
            | true =>
              have e : inI a x (if true = true then 2305843009213693952 else y + 3) = 1 := by unfold inI; rw [if_pos rfl, if_pos (by omega)]
              rw [e]
              clear hE e
              go_wp2_with fail; refine (awake7_any _).mono ?_; rintro e w3 ⟨rfl, b3⟩; go_wp2; go_ret; exact ⟨rfl, thru hb b3⟩
            | false =>
              by_cases h2 : a < y + 3
              · have d2 : decide (a < y + 3) = true := decide_eq_true h2
                have e : inI a x (if false = true then 2305843009213693952 else y + 3) = 1 := by rw [if_neg (show ¬ (false = true) by decide)]; unfold inI; rw [if_pos (by omega)]
                rw [e]
                clear hE e
                go_wp2_with fail; refine (awake7_any _).mono ?_; rintro e w3 ⟨rfl, b3⟩; go_wp2; go_ret; exact ⟨rfl, thru hb b3⟩
              · have d2 : decide (a < y + 3) = false := decide_eq_false h2
                have e : inI a x (if false = true then 2305843009213693952 else y + 3) = 0 := by rw [if_neg (show ¬ (false = true) by decide)]; unfold inI; rw [if_neg (by omega)]
                rw [e]
                clear hE e
                go_wp2_with fail; refine (awake7_any _).mono ?_; rintro e w3 ⟨rfl, b3⟩; go_wp2; go_ret; exact ⟨rfl, thru hb b3⟩
          · have d1 : decide (x ≤ a) = false := decide_eq_false h1
            have e : inI a x (if op = true then 2305843009213693952 else y + 3) = 0 := by unfold inI; rw [if_neg (by omega)]
            rw [e]
            clear hE e
            go_wp2_with fail; refine (awake7_any _).mono ?_; rintro e w3 ⟨rfl, b3⟩; go_wp2; go_ret; exact ⟨rfl, thru hb b3⟩
theorem own : ownKnob Try.prog.godebug = none := by kernel_rfl
theorem laidOut : laidOutB Try.prog = true := by kernel_rfl
set_option maxRecDepth 100000 in
theorem lifted (os : Os) (started : os.Started) (H : Type) (enc : TypeId × Value → H) :
    ReturnsInHanded {} Try.checked os 9 .any (Rows.seeOnceSpec.pre6 enc Try.prog Try.f9 Rows.seeOnceRow.domain false) (Rows.seeOnceSpec.post enc Try.prog Try.f9 false true false false) := by
  refine returnsInHanded_of_change (C := Try.checked) own started (by kernel_rfl) Try.func9
    (ChangeSpec.witness6 (enc := enc) (C := Try.checked) false ⟨#[], #[.slice none 0 0, .int .u64 0, .bool false], []⟩ 8 (by kernel_rfl) (by kernel_rfl) (by kernel_rfl) (by kernel_rfl)) ?_
  intro W base args ds gs before hval0 hW hcnd _
  have hval : ∀ (j : Nat) t v, Try.f9.params[j]? = some t → args[j]? = some v → Value.okWide Try.prog W .any base t v := hval0
  have hW' := hW
  obtain ⟨p, q, hA0, hV, rfl, hfz, hnd⟩ := hW
  have hA : DataW.TrodAll enc Try.prog W 0 (fun _ => true) true Try.f9.params.toList args.toList ds p := hA0
  rw [Try.params9] at hA hval
  obtain ⟨v0, vs0, d0, ds0, p0, q0, hargs, rfl, rfl, h0, r0⟩ := trodAll_cons hA
  obtain ⟨v1, vs1, d1, ds1, p1, q1, rfl, rfl, rfl, h1, r1⟩ := trodAll_cons r0
  obtain ⟨v2, vs2, d2, ds2, p2, q2, rfl, rfl, rfl, h2, r2⟩ := trodAll_cons r1
  obtain ⟨rfl, rfl, rfl⟩ := trodAll_nil r2
  obtain rfl : args = #[v0, v1, v2] := by cases args; simp_all
  obtain ⟨rfl, rfl⟩ := trodVars_none hV
  obtain ⟨a0, len0, cap0, rfl⟩ := okWide_slice Try.underlying26 (hval 0 26 v0 rfl rfl)
  have k0 := h0
  have lt0 : ∀ x ∈ p0, x.block < W.heap.size := by obtain ⟨m, hm⟩ := k0; exact DataW.trod_lt m _ _ _ hm
  obtain ⟨z0, w0⟩ : ∃ zs, IsRow .i64 W a0 len0 cap0 zs := is_row Try.underlying26 Try.underlying3 (by kernel_rfl) h0
  obtain ⟨a1, rfl, rfl, rfl, w1⟩ := open_int Try.underlying22 (hval 1 22 v1 rfl rfl) h1
  obtain ⟨a2, rfl, rfl, rfl⟩ := open_bool Try.underlying4 (hval 2 4 v2 rfl rfl) h2
  clear hA0 hval0
  refine (walk a0 len0 cap0 z0 a1 a2 W w0 w1).mono fun e W' ⟨he, bel⟩ => ?_
  subst he
  exact ⟨_, rfl, _, _, _, [], _, [], hW', trodAll_mk1 (shut_bool Try.underlying4 _), (trodAll_cons_mk (Below.trod laidOut (by kernel_rfl) (of_decide_eq_true (by kernel_rfl)) k0 bel lt0) (trodAll_cons_mk (shut_int Try.underlying22 w1) (trodAll_cons_mk (shut_bool Try.underlying4 _) trodAll_mk0))), rfl, bel.frame _, fun h => by cases h⟩
theorem over : Rows.seeOnceRow.holds Try.pinned (OpenSpec.ofChange Rows.seeOnceSpec) :=
  OpenClaim.holds_of_wide 9 Try.f9 rfl rfl rfl rfl rfl rfl rfl ⟨rfl, rfl, rfl, rfl, rfl⟩ rfl rfl rfl rfl rfl (by kernel_rfl) Try.func9 (by kernel_rfl)
    (of_decide_eq_true (by kernel_rfl)) (by unfold Func.isWrapper; first | (rw [if_pos (by decide +kernel)]; kernel_rfl) | (rw [if_neg (by decide +kernel)]; exact ⟨rfl, rfl⟩))
    (fun os started H enc _ => lifted os started H enc)
theorem proved : Rows.SeeOnceSaid := over
end Go.Proofs.Ytdkgngdfehllcaa.seeOnce
