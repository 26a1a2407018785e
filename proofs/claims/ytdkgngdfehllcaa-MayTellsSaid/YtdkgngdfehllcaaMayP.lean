/- Contracts of package may as landed: yields, Write, past, First, over a look function that tells L of each id and makes memory alone; conditions: those of IsLook. -/
import Derived.Test.YtdkgngdfehllcaaSeeF
import Derived.Test.YtdkgngdfehllcaaMayI
import Derived.Test.YtdkgngdfehllcaaRow
import Derived.Deep.LoopGhost
namespace Go.Proofs.Ytdkgngdfehllcaa
open Go.ChangeShapes Go.WideShapes Go.ChangeAt Go.RowKit
set_option linter.unusedVariables false

/-- Whether one may write where the transaction id has written. -/
def yieldI (L : Int → Option Tx) (id me : Int) : Int × Int :=
  if id = me then (1, 0) else
  match L id with
  | none => (3, 0)
  | some x => if x.st = 5 then (3, 0) else if x.st = 4 then (1, id) else (2, id)
theorem writeI_yield {L : Int → Option Tx} {e me : Int} (h : rdK e = 2) : writeI L e me = yieldI L (rdN e) me := by
  unfold writeI yieldI
  by_cases hm : rdN e = me
  · rw [if_pos (.inr ⟨h, hm⟩), if_pos hm]
  · rw [if_neg (by omega), if_neg (by omega), if_neg hm]
    cases L (rdN e) <;> rfl
theorem oneI_yield {L : Int → Option Tx} {me t w : Int} (h : rdK w = 2) : oneI L me t w = ((yieldI L (rdN w) me).1 != 2) := by
  rw [oneI_txn h]
  unfold yieldI
  by_cases hm : rdN w = me
  · rw [if_pos hm]; simp [hm]
  · rw [if_neg hm]
    cases hL : L (rdN w) with
    | none => simp
    | some x =>
      by_cases h5 : x.st = 5
      · simp [h5]
      · by_cases h4 : x.st = 4
        · simp [h4]
        · simp [h4, h5, hm]
section
variable {fv : Value} {P : World → Prop} {L : Int → Option Tx} {w : World}
set_option maxHeartbeats 1600000 in
theorem pyields_any (h : IsLook fv P L) (hP : P w) (id me : Int) (i0 : -9223372036854775808 ≤ id) (i1 : id ≤ 9223372036854775807) : Calls Try.prog 47 #[.int .i64 id, .int .i64 me, fv] w fun e w' => e = .returned (V2 (yieldI L id me)) ∧ Below w.heap.size w w' := by
  by_cases hm : id = me
  · subst hm
    rw [show yieldI L id id = (1, 0) by unfold yieldI; rw [if_pos rfl]]
    go_enter Try.func47, Try.ntmps47
    go_wp2
    go_ret2
    exact ⟨rfl, Below.refl _ _⟩
  · have q0 : (id == me) = false := by simpa using hm
    obtain ⟨x, ok, hL, hl⟩ := ask_any h hP id i0 i1
    have e : yieldI L id me = match L id with
      | none => (3, 0)
      | some x => if x.st = 5 then (3, 0) else if x.st = 4 then (1, id) else (2, id) := by unfold yieldI; rw [if_neg hm]
    rw [e]
    clear e hm
    rw [hL]
    clear hL
    cases ok with
    | false =>
      simp only [Bool.false_eq_true, if_false]
      (go_enter Try.func47, Try.ntmps47); go_wp2_with fail; refine hl.mono ?_; rintro e w1 ⟨rfl, b1⟩; unfold txV; go_wp2; go_ret2; exact ⟨rfl, b1.trans (((Keep.alloc (Keep.refl (fun _ => False) w1) _)).below (b1.size) (by simp))⟩
    | true =>
      simp only [if_true]
      rcases (by omega : x.st = 5 ∨ x.st = 4 ∨ (x.st ≠ 5 ∧ x.st ≠ 4)) with hs | hs | ⟨hs, hs2⟩
      · rw [if_pos hs]
        (go_enter Try.func47, Try.ntmps47); go_wp2_with fail; refine hl.mono ?_; rintro e w1 ⟨rfl, b1⟩; unfold txV; go_wp2; go_ret2; exact ⟨rfl, b1.trans (((Keep.alloc (Keep.refl (fun _ => False) w1) _)).below (b1.size) (by simp))⟩
      · rw [if_neg (by omega), if_pos hs]
        (go_enter Try.func47, Try.ntmps47); go_wp2_with fail; refine hl.mono ?_; rintro e w1 ⟨rfl, b1⟩; unfold txV; go_wp2; go_ret2; exact ⟨rfl, b1.trans (((Keep.alloc (Keep.refl (fun _ => False) w1) _)).below (b1.size) (by simp))⟩
      · rw [if_neg hs, if_neg hs2]
        have q5 : (x.st == 5) = false := by simpa using hs
        have q4 : (x.st == 4) = false := by simpa using hs2
        (go_enter Try.func47, Try.ntmps47); go_wp2_with fail; refine hl.mono ?_; rintro e w1 ⟨rfl, b1⟩; unfold txV; go_wp2; go_ret2; exact ⟨rfl, b1.trans (((Keep.alloc (Keep.refl (fun _ => False) w1) _)).below (b1.size) (by simp))⟩
set_option maxHeartbeats 1600000 in
theorem pwrite_any (h : IsLook fv P L) (hP : P w) (a me : Int) (a0 : 0 ≤ a) (a1 : a ≤ 18446744073709551615) :
    Calls Try.prog 33 #[.int .u64 a, .int .i64 me, fv] w fun e w' => e = .returned (V2 (writeI L a me)) ∧ Below w.heap.size w w' := by
  rcases rd_cases a with ⟨h1, hk, hn⟩ | ⟨h1, hk, hn⟩ | ⟨h1, h1', hk, hn⟩ | ⟨h1, h2, h3, hk, hn⟩
  · rw [show writeI L a me = (2, 0) by unfold writeI; rw [hk, if_neg (by omega), if_pos (by decide)]]
    go_enter Try.func33, Try.ntmps33
    go_wp2_with fail; refine (readw_any _ a0 a1 _).mono ?_; rw [hk, hn]; rintro e w1 ⟨rfl, b1⟩; have hP := h.stay (h.stay hP b1) (((Keep.alloc (Keep.refl (fun _ => False) w1) (.cells #[.int .i64 1, .int .u64 a] 52))).below (Nat.le_refl _) (by simp))
    go_wp2
    go_ret2
    exact ⟨rfl, b1.alloc b1.size _⟩
  · subst h1
    rw [show writeI L 2305843009213693952 me = (1, 0) by unfold writeI; rw [hk, if_pos (.inl rfl)]]
    go_enter Try.func33, Try.ntmps33
    go_wp2_with fail; refine (readw_any _ a0 a1 _).mono ?_; rw [hk, hn]; rintro e w1 ⟨rfl, b1⟩; have hP := h.stay (h.stay hP b1) (((Keep.alloc (Keep.refl (fun _ => False) w1) (.cells #[.int .i64 3, .int .u64 0] 52))).below (Nat.le_refl _) (by simp))
    go_wp2
    go_ret2
    exact ⟨rfl, b1.alloc b1.size _⟩
  · rw [show writeI L a me = yieldI L (a - 4611686018427387904) me by rw [writeI_yield hk, hn]]
    obtain ⟨i, ei⟩ : ∃ i, a - 4611686018427387904 = i := ⟨_, rfl⟩
    rw [ei] at hn ⊢
    have wr : IntKind.i64.wrap i = i := IntWalk.i64_in _ (by omega)
    have i0 : 1 ≤ i := by omega
    have i1 : i ≤ 65535 := by omega
    clear ei h1 h1'
    go_enter Try.func33, Try.ntmps33
    go_wp2_with fail; refine (readw_any _ a0 a1 _).mono ?_; rw [hk, hn]; rintro e w1 ⟨rfl, b1⟩; have hP := h.stay (h.stay hP b1) (((Keep.alloc (Keep.refl (fun _ => False) w1) (.cells #[.int .i64 2, .int .u64 i] 52))).below (Nat.le_refl _) (by simp))
    go_wp2_with fail
    refine (pyields_any h hP _ me (by omega) (by omega)).mono ?_
    rintro e w2 ⟨rfl, b2⟩
    unfold V2
    go_wp2
    go_ret2
    exact ⟨rfl, (b1.alloc b1.size _).trans (b2.mono (b1.alloc b1.size _).size)⟩
  · rw [show writeI L a me = (2, 0) by unfold writeI; rw [hk, if_neg (by omega), if_pos (by decide)]]
    clear h3
    go_enter Try.func33, Try.ntmps33
    go_wp2_with fail; refine (readw_any _ a0 a1 _).mono ?_; rw [hk, hn]; rintro e w1 ⟨rfl, b1⟩; have hP := h.stay (h.stay hP b1) (((Keep.alloc (Keep.refl (fun _ => False) w1) (.cells #[.int .i64 0, .int .u64 0] 52))).below (Nat.le_refl _) (by simp))
    go_wp2
    go_ret2
    exact ⟨rfl, b1.alloc b1.size _⟩
set_option maxHeartbeats 1600000 in
theorem ppast_any (h : IsLook fv P L) (hP : P w) (a me t : Int) (a0 : 0 ≤ a) (a1 : a ≤ 18446744073709551615) :
    Calls Try.prog 48 #[.int .u64 a, .int .i64 me, .int .u64 t, fv] w fun e w' => e = .returned (.bool (oneI L me t a)) ∧ Below w.heap.size w w' := by
  rcases rd_cases a with ⟨h1, hk, hn⟩ | ⟨h1, hk, hn⟩ | ⟨h1, h1', hk, hn⟩ | ⟨h1, h2, h3, hk, hn⟩
  · rw [oneI_time hk]
    obtain ⟨b, d1⟩ : ∃ b, decide (a ≤ t) = b := ⟨_, rfl⟩
    rw [d1]
    go_enter Try.func48, Try.ntmps48
    go_wp2_with fail; refine (readw_any _ a0 a1 _).mono ?_; rw [hk, hn]; rintro e w1 ⟨rfl, b1⟩; have hP := h.stay (h.stay hP b1) (((Keep.alloc (Keep.refl (fun _ => False) w1) (.cells #[.int .i64 1, .int .u64 a] 52))).below (Nat.le_refl _) (by simp))
    go_wp2
    go_ret
    exact ⟨rfl, b1.alloc b1.size _⟩
  · subst h1
    rw [oneI_else (by omega) (by omega)]
    go_enter Try.func48, Try.ntmps48
    go_wp2_with fail; refine (readw_any _ a0 a1 _).mono ?_; rw [hk, hn]; rintro e w1 ⟨rfl, b1⟩; have hP := h.stay (h.stay hP b1) (((Keep.alloc (Keep.refl (fun _ => False) w1) (.cells #[.int .i64 3, .int .u64 0] 52))).below (Nat.le_refl _) (by simp))
    go_wp2
    go_ret
    exact ⟨rfl, b1.alloc b1.size _⟩
  · rw [oneI_yield hk, hn]
    obtain ⟨i, ei⟩ : ∃ i, a - 4611686018427387904 = i := ⟨_, rfl⟩
    rw [ei] at hn ⊢
    have wr : IntKind.i64.wrap i = i := IntWalk.i64_in _ (by omega)
    have i0 : 1 ≤ i := by omega
    have i1 : i ≤ 65535 := by omega
    clear ei h1 h1'
    have hy := fun (w : World) (hP : P w) => pyields_any h hP i me (by omega) (by omega)
    obtain ⟨⟨y1, y2⟩, ey⟩ : ∃ y, yieldI L i me = y := ⟨_, rfl⟩
    rw [ey] at hy ⊢
    clear ey
    obtain ⟨b, d1⟩ : ∃ b, (y1 != 2) = b := ⟨_, rfl⟩
    dsimp only
    rw [d1]
    go_enter Try.func48, Try.ntmps48
    go_wp2_with fail; refine (readw_any _ a0 a1 _).mono ?_; rw [hk, hn]; rintro e w1 ⟨rfl, b1⟩; have hP := h.stay (h.stay hP b1) (((Keep.alloc (Keep.refl (fun _ => False) w1) (.cells #[.int .i64 2, .int .u64 i] 52))).below (Nat.le_refl _) (by simp))
    go_wp2_with fail
    refine (hy _ hP).mono ?_
    rintro e w2 ⟨rfl, b2⟩
    unfold V2
    go_wp2
    go_ret
    exact ⟨rfl, (b1.alloc b1.size _).trans (b2.mono (b1.alloc b1.size _).size)⟩
  · rw [oneI_else (by omega) (by omega)]
    clear h3
    go_enter Try.func48, Try.ntmps48
    go_wp2_with fail; refine (readw_any _ a0 a1 _).mono ?_; rw [hk, hn]; rintro e w1 ⟨rfl, b1⟩; have hP := h.stay (h.stay hP b1) (((Keep.alloc (Keep.refl (fun _ => False) w1) (.cells #[.int .i64 0, .int .u64 0] 52))).below (Nat.le_refl _) (by simp))
    go_wp2
    go_ret
    exact ⟨rfl, b1.alloc b1.size _⟩
def RelF8 (w : World) (L : Int → Option Tx) (ws : List Int) (me t : Int) (k : Nat) (i : Value) (wr : World) : Prop := k ≤ ws.length ∧ i = .int .i64 k ∧ Upto L ws me t k ∧ Below w.heap.size w wr
set_option maxRecDepth 100000 in
set_option maxHeartbeats 1600000 in
theorem pfirst_any (h : IsLook fv P L) (hP : P w) {B : Option Addr} {m d : Nat} {ws : List Int} (r : IsRow .u64 w B m d ws) (me t : Int) :
    Calls Try.prog 37 #[.slice B m d, .int .i64 me, .int .u64 t, fv] w fun e w' => e = .returned (.bool (firstI L ws me t)) ∧ Below w.heap.size w w' := by
  obtain ⟨l1, l2, l3, lc, lw⟩ := id r
  have hu := r.u64
  subst l1
  obtain ⟨R, eR⟩ : ∃ R, firstI L ws me t = R := ⟨_, rfl⟩
  have hF : ∀ k, k < ws.length → oneI L me t (ws.getD k 0) = false → R = false := fun k hk h1 => by rw [← eR]; exact firstI_false k hk h1
  have hT : Upto L ws me t ws.length → R = true := fun h1 => by rw [← eR]; exact firstI_true h1
  have hp := fun (w1 : World) (b : Below w.heap.size w w1) (a : Int) (a0 : 0 ≤ a) (a1 : a ≤ 18446744073709551615) => ppast_any h (h.stay hP b) a me t a0 a1
  rw [eR]
  clear eR h hP
  go_enter Try.func37, Try.ntmps37
  go_wp2_with fail
  go_loopw [13] (fun i wr => ∃ k : Nat, RelF8 w L ws me t k i wr) (fun i _ => ws.length - (intOf i).toNat)
  case atStart => exact ⟨0, Nat.zero_le _, rfl, Upto.zero _ _ _ _, Below.refl _ _⟩
  case round =>
    obtain ⟨k, kl, rfl, hU, bl⟩ := hrel
    by_cases hlt : k < ws.length
    · obtain ⟨b0, off, rfl, hb, hc⟩ := lc (by omega)
      have hc := (bl.cell (p := ⟨b0, off + k, none⟩) hb).trans (hc k hlt)
      have hF1 := hF k hlt
      have ⟨a0, a1⟩ := hu k
      obtain ⟨a, ea⟩ : ∃ a, ws.getD k 0 = a := ⟨_, rfl⟩
      rw [ea] at hc hF1 a0 a1
      have hN := hU.next a ea
      have wk : IntKind.i64.wrap ((k : Int) + 1) = (k : Int) + 1 := IntWalk.i64_in _ (by omega)
      have hp1 := hp _ bl a a0 a1
      clear ea hF hT lc lw hu hU hp
      cases ho : oneI L me t a with
      | true =>
        have hN := Lib.hid (hN ho)
        rw [ho] at hp1
        clear hF1 ho
        go_wp2_with fail
        refine hp1.mono ?_
        rintro e w1 ⟨rfl, b1⟩
        go_wp2
        go_roundw
        case rel => exact ⟨k + 1, by omega, by go_num, hN.out, bl.trans (b1.mono bl.size)⟩
        case measure => (simp [intOf]; omega)
      | false =>
        obtain rfl := hF1 ho
        rw [ho] at hp1
        clear ho hN hF1
        go_wp2_with fail
        refine hp1.mono ?_
        rintro e w1 ⟨rfl, b1⟩
        go_wp2
        go_ret
        exact ⟨rfl, bl.trans (b1.mono bl.size)⟩
    · obtain rfl : k = ws.length := by omega
      obtain rfl := hT hU
      clear hF hT lc lw hu hU hp
      go_wp2
      go_ret
      exact ⟨rfl, bl⟩
end
end Go.Proofs.Ytdkgngdfehllcaa
