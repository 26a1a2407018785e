/- Contracts of the document's own answer for layer 8 (vinculumref1's Write and First); condition: the slices read as these lists. -/
import Derived.Test.YtdkgngdfehllcaaRefSee2
import Derived.Test.YtdkgngdfehllcaaRow
import Derived.Test.YtdkgngdfehllcaaMayI
import Derived.Deep.QuietTactic
import Derived.BigQuiet
import Derived.Deep.LoopGhost
namespace Go.Proofs.Ytdkgngdfehllcaa
open Go.ChangeShapes Go.WideShapes Go.ChangeAt Go.RowKit
set_option linter.unusedVariables false

section
variable {A : Option Addr} {n c : Nat} {f : Nat → Ot} {w : World}
set_option maxHeartbeats 1600000 in
theorem rwrite_any (h : IsOth w A n c f) (a me : Int) (a0 : 0 ≤ a) (a1 : a ≤ 18446744073709551615) :
    Calls Try.prog 39 #[.int .u64 a, .int .i64 me, .slice A n c] w fun e w' => e = .returned (V2 (writeI (lookL f n) a me)) ∧ Below w.heap.size w w' := by
  rcases rd_cases a with ⟨h1, hk, hn⟩ | ⟨h1, hk, hn⟩ | ⟨h1, h1', hk, hn⟩ | ⟨h1, h2, h3, hk, hn⟩
  · rw [show writeI (lookL f n) a me = (2, 0) by unfold writeI; rw [hk, if_neg (by omega), if_pos (by decide)]]
    go_enter Try.func39, Try.ntmps39
    go_wp2_with fail; refine (readr_any _ a0 a1 _).mono ?_; rw [hk, hn]; rintro e w1 ⟨rfl, b1⟩
    go_wp2
    go_ret2
    exact ⟨rfl, b1.alloc b1.size _⟩
  · subst h1
    rw [show writeI (lookL f n) 2305843009213693952 me = (1, 0) by unfold writeI; rw [hk, if_pos (.inl rfl)]]
    go_enter Try.func39, Try.ntmps39
    go_wp2_with fail; refine (readr_any _ a0 a1 _).mono ?_; rw [hk, hn]; rintro e w1 ⟨rfl, b1⟩
    go_wp2
    go_ret2
    exact ⟨rfl, b1.alloc b1.size _⟩
  · obtain ⟨i, ei⟩ : ∃ i, a - 4611686018427387904 = i := ⟨_, rfl⟩
    rw [ei] at hn
    have wr : IntKind.i64.wrap i = i := IntWalk.i64_in _ (by omega)
    have i0 : 1 ≤ i := by omega
    have i1 : i ≤ 65535 := by omega
    clear ei h1 h1'
    by_cases hm : i = me
    · rw [show writeI (lookL f n) a me = (1, 0) by unfold writeI; rw [hk, hn, if_pos (.inr ⟨rfl, hm⟩)]]
      subst hm
      go_enter Try.func39, Try.ntmps39
      go_wp2_with fail; refine (readr_any _ a0 a1 _).mono ?_; rw [hk, hn]; rintro e w1 ⟨rfl, b1⟩
      go_wp2
      go_ret2
      exact ⟨rfl, b1.alloc b1.size _⟩
    · have q0 : (i == me) = false := by simpa using hm
      have e := writeI_txn (L := lookL f n) hk (by rw [hn]; exact hm)
      rw [hn] at e
      rw [e]
      clear e hm
      have hl := fun w1 (b1 : Below w.heap.size w w1) => look_any (h.keep (Keep.of_below b1 (fun _ => False)) (by simp)) i (by omega) (by omega)
      clear h
      cases hL : lookL f n i with
      | none =>
        rw [hL] at hl
        go_enter Try.func39, Try.ntmps39
        go_wp2_with fail; refine (readr_any _ a0 a1 _).mono ?_; rw [hk, hn]; rintro e w1 ⟨rfl, b1⟩
        go_wp2_with fail; have kA := (Keep.alloc (Keep.refl (fun _ => False) w1) (.cells #[.int .i64 2, .int .u64 i] 52)); have c0 : (w1.alloc (.cells #[.int .i64 2, .int .u64 i] 52)).cell? ⟨w1.heap.size, 1, none⟩ = some (.int .u64 i) := (by simp); have b1 := b1.trans (kA.below b1.size (by simp)); have hz : w1.heap.size < (w1.alloc (.cells #[.int .i64 2, .int .u64 i] 52)).heap.size := (by simp); refine (hl _ b1).mono ?_; rintro e w2 ⟨rfl, b2⟩; unfold lookV txV
        go_wp2
        go_ret2
        exact ⟨rfl, (b1.trans (b2.mono b1.size)).alloc ((b1.trans (b2.mono b1.size)).size) _⟩
      | some x =>
        rw [hL] at hl
        dsimp only
        by_cases h5 : x.st = 5
        · rw [if_pos h5]
          go_enter Try.func39, Try.ntmps39
          go_wp2_with fail; refine (readr_any _ a0 a1 _).mono ?_; rw [hk, hn]; rintro e w1 ⟨rfl, b1⟩
          go_wp2_with fail; have kA := (Keep.alloc (Keep.refl (fun _ => False) w1) (.cells #[.int .i64 2, .int .u64 i] 52)); have c0 : (w1.alloc (.cells #[.int .i64 2, .int .u64 i] 52)).cell? ⟨w1.heap.size, 1, none⟩ = some (.int .u64 i) := (by simp); have b1 := b1.trans (kA.below b1.size (by simp)); have hz : w1.heap.size < (w1.alloc (.cells #[.int .i64 2, .int .u64 i] 52)).heap.size := (by simp); refine (hl _ b1).mono ?_; rintro e w2 ⟨rfl, b2⟩; unfold lookV txV
          go_wp2
          go_ret2
          exact ⟨rfl, (b1.trans (b2.mono b1.size)).alloc ((b1.trans (b2.mono b1.size)).size) _⟩
        · have q5 : (x.st == 5) = false := by simpa using h5
          rw [if_neg h5]
          by_cases h4 : x.st = 4
          · rw [if_pos h4]
            obtain ⟨xl, xs, xb, xe⟩ := x
            obtain rfl : xs = 4 := h4
            clear q5 h5
            go_enter Try.func39, Try.ntmps39
            go_wp2_with fail; refine (readr_any _ a0 a1 _).mono ?_; rw [hk, hn]; rintro e w1 ⟨rfl, b1⟩
            go_wp2_with fail; have kA := (Keep.alloc (Keep.refl (fun _ => False) w1) (.cells #[.int .i64 2, .int .u64 i] 52)); have c0 : (w1.alloc (.cells #[.int .i64 2, .int .u64 i] 52)).cell? ⟨w1.heap.size, 1, none⟩ = some (.int .u64 i) := (by simp); have b1 := b1.trans (kA.below b1.size (by simp)); have hz : w1.heap.size < (w1.alloc (.cells #[.int .i64 2, .int .u64 i] 52)).heap.size := (by simp); refine (hl _ b1).mono ?_; rintro e w2 ⟨rfl, b2⟩; unfold lookV txV
            have c2 := (b2.cell (p := ⟨w1.heap.size, 1, none⟩) hz).trans c0; have c3 := (Keep.alloc (Keep.refl (fun _ => False) w2) (.cells #[.int .i64 xl, .int .i64 (4), .int .u64 xb, .int .u64 xe] 24)).cell c2 (by simp); clear c0
            go_wp2
            go_quiet (fail)
            go_wp2
            go_ret2
            exact ⟨rfl, below_drewN ((b1.trans (b2.mono b1.size)).alloc ((b1.trans (b2.mono b1.size)).size) _) _⟩
          · have q4 : (x.st == 4) = false := by simpa using h4
            rw [if_neg h4]
            go_enter Try.func39, Try.ntmps39
            go_wp2_with fail; refine (readr_any _ a0 a1 _).mono ?_; rw [hk, hn]; rintro e w1 ⟨rfl, b1⟩
            go_wp2_with fail; have kA := (Keep.alloc (Keep.refl (fun _ => False) w1) (.cells #[.int .i64 2, .int .u64 i] 52)); have c0 : (w1.alloc (.cells #[.int .i64 2, .int .u64 i] 52)).cell? ⟨w1.heap.size, 1, none⟩ = some (.int .u64 i) := (by simp); have b1 := b1.trans (kA.below b1.size (by simp)); have hz : w1.heap.size < (w1.alloc (.cells #[.int .i64 2, .int .u64 i] 52)).heap.size := (by simp); refine (hl _ b1).mono ?_; rintro e w2 ⟨rfl, b2⟩; unfold lookV txV
            have c2 := (b2.cell (p := ⟨w1.heap.size, 1, none⟩) hz).trans c0; have c3 := (Keep.alloc (Keep.refl (fun _ => False) w2) (.cells #[.int .i64 x.lv, .int .i64 (x.st), .int .u64 x.b, .int .u64 x.e] 24)).cell c2 (by simp); clear c0
            go_wp2
            go_quiet (fail)
            go_wp2
            go_ret2
            exact ⟨rfl, below_drewN ((b1.trans (b2.mono b1.size)).alloc ((b1.trans (b2.mono b1.size)).size) _) _⟩
  · rw [show writeI (lookL f n) a me = (2, 0) by unfold writeI; rw [hk, if_neg (by omega), if_pos (by decide)]]
    clear h3
    go_enter Try.func39, Try.ntmps39
    go_wp2_with fail; refine (readr_any _ a0 a1 _).mono ?_; rw [hk, hn]; rintro e w1 ⟨rfl, b1⟩
    go_wp2
    go_ret2
    exact ⟨rfl, b1.alloc b1.size _⟩
def RelF (w : World) (L : Int → Option Tx) (ws : List Int) (me t : Int) (k : Nat) (i : Value) (wr : World) : Prop := k ≤ ws.length ∧ i = .int .i64 k ∧ Upto L ws me t k ∧ Below w.heap.size w wr
set_option maxRecDepth 100000 in
set_option maxHeartbeats 4000000 in
theorem rfirst_any (h : IsOth w A n c f) {B : Option Addr} {m d : Nat} {ws : List Int} (r : IsRow .u64 w B m d ws) (me t : Int) :
    Calls Try.prog 40 #[.slice B m d, .int .i64 me, .int .u64 t, .slice A n c] w fun e w' => e = .returned (.bool (firstI (lookL f n) ws me t)) ∧ Below w.heap.size w w' := by
  obtain ⟨l1, l2, l3, lc, lw⟩ := id r
  have hu := r.u64
  subst l1
  have hl := fun w1 (b1 : Below w.heap.size w w1) (i : Int) (i0 : -9223372036854775808 ≤ i) (i1 : i ≤ 9223372036854775807) => look_any (h.keep (Keep.of_below b1 (fun _ => False)) (by simp)) i i0 i1
  obtain ⟨R, eR⟩ : ∃ R, firstI (lookL f n) ws me t = R := ⟨_, rfl⟩
  have hF : ∀ k, k < ws.length → oneI (lookL f n) me t (ws.getD k 0) = false → R = false := fun k hk h1 => by rw [← eR]; exact firstI_false k hk h1
  have hT : Upto (lookL f n) ws me t ws.length → R = true := fun h1 => by rw [← eR]; exact firstI_true h1
  rw [eR]
  clear eR h
  go_enter Try.func40, Try.ntmps40
  go_wp2_with fail
  go_loopw [9, 10, 11, 12] (fun i s x ok wr => ∃ k : Nat, RelF w (lookL f n) ws me t k i wr) (fun i _ _ _ _ => ws.length - (intOf i).toNat)
  case atStart => exact ⟨0, Nat.zero_le _, rfl, Upto.zero _ _ _ _, Below.refl _ _⟩
  case round =>
    obtain ⟨k, kl, rfl, hU, bl⟩ := hrel
    by_cases hlt : k < ws.length
    · obtain ⟨b0, off, rfl, hb, hc⟩ := lc (by omega)
      have hc := (bl.cell (p := ⟨b0, off + k, none⟩) hb).trans (hc k hlt)
      have hF1 := hF k hlt
      have ⟨a0, a1⟩ := hu k
      obtain ⟨a, ea⟩ : ∃ a, ws.getD k 0 = a := ⟨_, rfl⟩
      rw [ea] at hc hF1 a0 a1
      have hN := hU.next a ea
      have wk : IntKind.i64.wrap ((k : Int) + 1) = (k : Int) + 1 := IntWalk.i64_in _ (by omega)
      clear ea hF hT lc lw hu hU
      rcases rd_cases a with ⟨h1, hk, hn⟩ | ⟨h1, hk, hn⟩ | ⟨h1, h1', hk, hn⟩ | ⟨h1, h2, h3, hk, hn⟩
      · by_cases ht : a ≤ t
        · have hN := Lib.hid (hN (by rw [oneI_time hk]; exact decide_eq_true ht))
          have d1 : decide (a ≤ t) = true := decide_eq_true ht
          clear hF1 hl
          go_wp2_with fail; refine (readr_any _ a0 a1 _).mono ?_; rw [hk, hn]; rintro e w1 ⟨rfl, b1⟩
          go_wp2; go_roundw; (case rel => exact ⟨k + 1, by omega, by go_num, hN.out, (bl.trans (b1.mono bl.size)).alloc (bl.trans (b1.mono bl.size)).size _⟩); (case measure => (simp [intOf]; omega))
        · obtain rfl := hF1 (by rw [oneI_time hk]; exact decide_eq_false ht)
          have d1 : decide (a ≤ t) = false := decide_eq_false ht
          clear hF1 hl hN
          go_wp2_with fail; refine (readr_any _ a0 a1 _).mono ?_; rw [hk, hn]; rintro e w1 ⟨rfl, b1⟩
          go_wp2; go_ret; exact ⟨rfl, (bl.trans (b1.mono bl.size)).alloc (bl.trans (b1.mono bl.size)).size _⟩
      · subst h1
        obtain rfl := hF1 (oneI_else (by omega) (by omega))
        clear hF1 hl hN
        go_wp2_with fail; refine (readr_any _ a0 a1 _).mono ?_; rw [hk, hn]; rintro e w1 ⟨rfl, b1⟩
        go_wp2; go_ret; exact ⟨rfl, (bl.trans (b1.mono bl.size)).alloc (bl.trans (b1.mono bl.size)).size _⟩
      · have ways := oneI_ways (lookL f n) me t a hk
        obtain ⟨i, ei⟩ : ∃ i, a - 4611686018427387904 = i := ⟨_, rfl⟩
        rw [ei] at hn
        rw [hn] at ways
        have wr' : IntKind.i64.wrap i = i := IntWalk.i64_in _ (by omega)
        have i0 : 1 ≤ i := by omega
        have i1 : i ≤ 65535 := by omega
        clear ei h1 h1'
        rcases ways with ⟨rfl, ho⟩ | ⟨hm, ways⟩
        · have hN := Lib.hid (hN ho)
          clear hF1 hl ho
          go_wp2_with fail; refine (readr_any _ a0 a1 _).mono ?_; rw [hk, hn]; rintro e w1 ⟨rfl, b1⟩
          go_wp2; go_roundw; (case rel => exact ⟨k + 1, by omega, by go_num, hN.out, (bl.trans (b1.mono bl.size)).alloc (bl.trans (b1.mono bl.size)).size _⟩); (case measure => (simp [intOf]; omega))
        · have q0 : (i == me) = false := by simpa using hm
          rcases ways with ⟨hL, ho⟩ | ⟨x, hL, ways⟩
          · have hN := Lib.hid (hN ho)
            clear hF1 ho hm
            go_wp2_with fail; refine (readr_any _ a0 a1 _).mono ?_; rw [hk, hn]; rintro e w1 ⟨rfl, b1⟩
            go_wp2_with fail; have b1 := (bl.trans (b1.mono bl.size)).alloc (bl.trans (b1.mono bl.size)).size (.cells #[.int .i64 2, .int .u64 i] 52); have hl := hl _ b1 i (by omega) (by omega); rw [hL] at hl; refine hl.mono ?_; rintro e w2 ⟨rfl, b2⟩; unfold lookV txV
            go_wp2; go_roundw; (case rel => exact ⟨k + 1, by omega, by go_num, hN.out, (b1.trans (b2.mono b1.size)).alloc ((b1.trans (b2.mono b1.size)).size) _⟩); (case measure => (simp [intOf]; omega))
          · rcases ways with ⟨h4, ho⟩ | ⟨h5, ho⟩ | ⟨h4, h5, ho⟩
            · have hN := Lib.hid (hN ho)
              obtain ⟨xl, xs, xb, xe⟩ := x
              obtain rfl : xs = 4 := h4
              clear hF1 ho hm
              go_wp2_with fail; refine (readr_any _ a0 a1 _).mono ?_; rw [hk, hn]; rintro e w1 ⟨rfl, b1⟩
              go_wp2_with fail; have b1 := (bl.trans (b1.mono bl.size)).alloc (bl.trans (b1.mono bl.size)).size (.cells #[.int .i64 2, .int .u64 i] 52); have hl := hl _ b1 i (by omega) (by omega); rw [hL] at hl; refine hl.mono ?_; rintro e w2 ⟨rfl, b2⟩; unfold lookV txV
              go_wp2; go_roundw; (case rel => exact ⟨k + 1, by omega, by go_num, hN.out, (b1.trans (b2.mono b1.size)).alloc ((b1.trans (b2.mono b1.size)).size) _⟩); (case measure => (simp [intOf]; omega))
            · have hN := Lib.hid (hN ho)
              obtain ⟨xl, xs, xb, xe⟩ := x
              obtain rfl : xs = 5 := h5
              clear hF1 ho hm
              go_wp2_with fail; refine (readr_any _ a0 a1 _).mono ?_; rw [hk, hn]; rintro e w1 ⟨rfl, b1⟩
              go_wp2_with fail; have b1 := (bl.trans (b1.mono bl.size)).alloc (bl.trans (b1.mono bl.size)).size (.cells #[.int .i64 2, .int .u64 i] 52); have hl := hl _ b1 i (by omega) (by omega); rw [hL] at hl; refine hl.mono ?_; rintro e w2 ⟨rfl, b2⟩; unfold lookV txV
              go_wp2; go_roundw; (case rel => exact ⟨k + 1, by omega, by go_num, hN.out, (b1.trans (b2.mono b1.size)).alloc ((b1.trans (b2.mono b1.size)).size) _⟩); (case measure => (simp [intOf]; omega))
            · obtain rfl := hF1 ho
              obtain ⟨xl, xs, xb, xe⟩ := x
              have q4 : (xs != 4) = true := by simpa using h4
              have q5 : (xs != 5) = true := by simpa using h5
              clear hF1 ho hm hN h4 h5
              go_wp2_with fail; refine (readr_any _ a0 a1 _).mono ?_; rw [hk, hn]; rintro e w1 ⟨rfl, b1⟩
              go_wp2_with fail; have b1 := (bl.trans (b1.mono bl.size)).alloc (bl.trans (b1.mono bl.size)).size (.cells #[.int .i64 2, .int .u64 i] 52); have hl := hl _ b1 i (by omega) (by omega); rw [hL] at hl; refine hl.mono ?_; rintro e w2 ⟨rfl, b2⟩; unfold lookV txV
              go_wp2
              go_ret
              exact ⟨rfl, (b1.trans (b2.mono b1.size)).alloc ((b1.trans (b2.mono b1.size)).size) _⟩
      · obtain rfl := hF1 (oneI_else (by omega) (by omega))
        clear hF1 hl hN h3
        go_wp2_with fail; refine (readr_any _ a0 a1 _).mono ?_; rw [hk, hn]; rintro e w1 ⟨rfl, b1⟩
        go_wp2; go_ret; exact ⟨rfl, (bl.trans (b1.mono bl.size)).alloc (bl.trans (b1.mono bl.size)).size _⟩
    · obtain rfl : k = ws.length := by omega
      obtain rfl := hT hU
      clear hF hT lc lw hu hU hl
      go_wp2
      go_ret
      exact ⟨rfl, bl⟩
end
end Go.Proofs.Ytdkgngdfehllcaa
