/- Contracts of the document's own answer for layer 7: Begin, End, See; condition: the slice reads as that list. -/
import Derived.Test.YtdkgngdfehllcaaRefSee
import Derived.Test.YtdkgngdfehllcaaPushN
namespace Go.Proofs.Ytdkgngdfehllcaa
open Go.ChangeShapes Go.WideShapes Go.ChangeAt Go.RowKit
set_option linter.unusedVariables false

section
variable {A : Option Addr} {n c : Nat} {f : Nat → Ot} {w : World}
set_option maxHeartbeats 4000000 in
theorem rbegin_any (h : IsOth w A n c f) (a me t : Int) (a0 : 0 ≤ a) (a1 : a ≤ 18446744073709551615) :
    Calls Try.prog 27 #[.int .u64 a, .int .i64 me, .int .u64 t, .slice A n c] w fun e w' => e = .returned (V2 (beginI (lookL f n) a me t)) ∧ Below w.heap.size w w' := by
  rcases rd_cases a with ⟨h1, hk, hn⟩ | ⟨h1, hk, hn⟩ | ⟨h1, h1', hk, hn⟩ | ⟨h1, h2, h3, hk, hn⟩
  · by_cases ht : a ≤ t
    · rw [show beginI (lookL f n) a me t = (1, 0) by unfold beginI; rw [hk, if_pos ⟨rfl, ht⟩]]
      have d1 : decide (a ≤ t) = true := decide_eq_true ht
      go_enter Try.func27, Try.ntmps27
      go_wp2_with fail; refine (readr_any _ a0 a1 _).mono ?_; rw [hk, hn]; rintro e w1 ⟨rfl, b1⟩; have h := (h.keep (Keep.of_below b1 (fun _ => False)) (by simp)).keep (Keep.alloc (Keep.refl (fun _ => False) _) (.cells #[.int .i64 1, .int .u64 a] 52)) (by simp); have b1 := b1.trans (((Keep.alloc (Keep.refl (fun _ => False) w1) (.cells #[.int .i64 1, .int .u64 a] 52))).below (b1.size) (by simp))
      go_wp2
      go_ret2
      exact ⟨rfl, b1⟩
    · rw [show beginI (lookL f n) a me t = (2, 0) by unfold beginI; rw [hk, if_neg (by omega), if_neg (by decide)]]
      have d1 : decide (a ≤ t) = false := decide_eq_false ht
      go_enter Try.func27, Try.ntmps27
      go_wp2_with fail; refine (readr_any _ a0 a1 _).mono ?_; rw [hk, hn]; rintro e w1 ⟨rfl, b1⟩; have h := (h.keep (Keep.of_below b1 (fun _ => False)) (by simp)).keep (Keep.alloc (Keep.refl (fun _ => False) _) (.cells #[.int .i64 1, .int .u64 a] 52)) (by simp); have b1 := b1.trans (((Keep.alloc (Keep.refl (fun _ => False) w1) (.cells #[.int .i64 1, .int .u64 a] 52))).below (b1.size) (by simp))
      go_wp2
      go_ret2
      exact ⟨rfl, b1⟩
  · subst h1
    rw [show beginI (lookL f n) 2305843009213693952 me t = (2, 0) by unfold beginI; rw [hk, if_neg (by omega), if_neg (by decide)]]
    go_enter Try.func27, Try.ntmps27
    go_wp2_with fail; refine (readr_any _ a0 a1 _).mono ?_; rw [hk, hn]; rintro e w1 ⟨rfl, b1⟩; have h := (h.keep (Keep.of_below b1 (fun _ => False)) (by simp)).keep (Keep.alloc (Keep.refl (fun _ => False) _) (.cells #[.int .i64 3, .int .u64 0] 52)) (by simp); have b1 := b1.trans (((Keep.alloc (Keep.refl (fun _ => False) w1) (.cells #[.int .i64 3, .int .u64 0] 52))).below (b1.size) (by simp))
    go_wp2
    go_ret2
    exact ⟨rfl, b1⟩
  · rw [show beginI (lookL f n) a me t = byI (lookL f n) (a - 4611686018427387904) me t by unfold beginI; rw [hk, hn, if_neg (by omega), if_pos rfl]]
    obtain ⟨i, ei⟩ : ∃ i, a - 4611686018427387904 = i := ⟨_, rfl⟩
    rw [ei] at hn ⊢
    have wr : IntKind.i64.wrap i = i := IntWalk.i64_in _ (by omega)
    have i0 : 1 ≤ i := by omega
    have i1 : i ≤ 65535 := by omega
    clear ei h1 h1'
    go_enter Try.func27, Try.ntmps27
    go_wp2_with fail; refine (readr_any _ a0 a1 _).mono ?_; rw [hk, hn]; rintro e w1 ⟨rfl, b1⟩; have h := (h.keep (Keep.of_below b1 (fun _ => False)) (by simp)).keep (Keep.alloc (Keep.refl (fun _ => False) _) (.cells #[.int .i64 2, .int .u64 i] 52)) (by simp); have b1 := b1.trans (((Keep.alloc (Keep.refl (fun _ => False) w1) (.cells #[.int .i64 2, .int .u64 i] 52))).below (b1.size) (by simp))
    go_wp2_with fail; refine (rby_any h _ me t (by omega) (by omega)).mono ?_; rintro e w2 ⟨rfl, b2⟩; unfold V2; go_wp2; go_ret2; exact ⟨rfl, b1.trans (b2.mono b1.size)⟩
  · rw [show beginI (lookL f n) a me t = (2, 0) by unfold beginI; rw [hk, if_neg (by omega), if_neg (by decide)]]
    clear h3
    go_enter Try.func27, Try.ntmps27
    go_wp2_with fail; refine (readr_any _ a0 a1 _).mono ?_; rw [hk, hn]; rintro e w1 ⟨rfl, b1⟩; have h := (h.keep (Keep.of_below b1 (fun _ => False)) (by simp)).keep (Keep.alloc (Keep.refl (fun _ => False) _) (.cells #[.int .i64 0, .int .u64 0] 52)) (by simp); have b1 := b1.trans (((Keep.alloc (Keep.refl (fun _ => False) w1) (.cells #[.int .i64 0, .int .u64 0] 52))).below (b1.size) (by simp))
    go_wp2
    go_ret2
    exact ⟨rfl, b1⟩
set_option maxHeartbeats 4000000 in
theorem rend_any (h : IsOth w A n c f) (a me t : Int) (a0 : 0 ≤ a) (a1 : a ≤ 18446744073709551615) :
    Calls Try.prog 28 #[.int .u64 a, .int .i64 me, .int .u64 t, .slice A n c] w fun e w' => e = .returned (V2 (endI (lookL f n) a me t)) ∧ Below w.heap.size w w' := by
  rcases rd_cases a with ⟨h1, hk, hn⟩ | ⟨h1, hk, hn⟩ | ⟨h1, h1', hk, hn⟩ | ⟨h1, h2, h3, hk, hn⟩
  · by_cases ht : a ≤ t
    · rw [show endI (lookL f n) a me t = (1, 0) by unfold endI; rw [hk, if_neg (by decide), if_neg (by omega)]]
      have d1 : decide (t < a) = false := decide_eq_false (by omega)
      go_enter Try.func28, Try.ntmps28
      go_wp2_with fail; refine (readr_any _ a0 a1 _).mono ?_; rw [hk, hn]; rintro e w1 ⟨rfl, b1⟩; have h := (h.keep (Keep.of_below b1 (fun _ => False)) (by simp)).keep (Keep.alloc (Keep.refl (fun _ => False) _) (.cells #[.int .i64 1, .int .u64 a] 52)) (by simp); have b1 := b1.trans (((Keep.alloc (Keep.refl (fun _ => False) w1) (.cells #[.int .i64 1, .int .u64 a] 52))).below (b1.size) (by simp))
      go_wp2
      go_ret2
      exact ⟨rfl, b1⟩
    · rw [show endI (lookL f n) a me t = (2, 0) by unfold endI; rw [hk, if_neg (by decide), if_pos (.inr ⟨rfl, by omega⟩)]]
      have d1 : decide (t < a) = true := decide_eq_true (by omega)
      go_enter Try.func28, Try.ntmps28
      go_wp2_with fail; refine (readr_any _ a0 a1 _).mono ?_; rw [hk, hn]; rintro e w1 ⟨rfl, b1⟩; have h := (h.keep (Keep.of_below b1 (fun _ => False)) (by simp)).keep (Keep.alloc (Keep.refl (fun _ => False) _) (.cells #[.int .i64 1, .int .u64 a] 52)) (by simp); have b1 := b1.trans (((Keep.alloc (Keep.refl (fun _ => False) w1) (.cells #[.int .i64 1, .int .u64 a] 52))).below (b1.size) (by simp))
      go_wp2
      go_ret2
      exact ⟨rfl, b1⟩
  · subst h1
    rw [show endI (lookL f n) 2305843009213693952 me t = (2, 0) by unfold endI; rw [hk, if_neg (by decide), if_pos (.inl rfl)]]
    go_enter Try.func28, Try.ntmps28
    go_wp2_with fail; refine (readr_any _ a0 a1 _).mono ?_; rw [hk, hn]; rintro e w1 ⟨rfl, b1⟩; have h := (h.keep (Keep.of_below b1 (fun _ => False)) (by simp)).keep (Keep.alloc (Keep.refl (fun _ => False) _) (.cells #[.int .i64 3, .int .u64 0] 52)) (by simp); have b1 := b1.trans (((Keep.alloc (Keep.refl (fun _ => False) w1) (.cells #[.int .i64 3, .int .u64 0] 52))).below (b1.size) (by simp))
    go_wp2
    go_ret2
    exact ⟨rfl, b1⟩
  · rw [show endI (lookL f n) a me t = byI (lookL f n) (a - 4611686018427387904) me t by unfold endI; rw [hk, hn, if_pos rfl]]
    obtain ⟨i, ei⟩ : ∃ i, a - 4611686018427387904 = i := ⟨_, rfl⟩
    rw [ei] at hn ⊢
    have wr : IntKind.i64.wrap i = i := IntWalk.i64_in _ (by omega)
    have i0 : 1 ≤ i := by omega
    have i1 : i ≤ 65535 := by omega
    clear ei h1 h1'
    go_enter Try.func28, Try.ntmps28
    go_wp2_with fail; refine (readr_any _ a0 a1 _).mono ?_; rw [hk, hn]; rintro e w1 ⟨rfl, b1⟩; have h := (h.keep (Keep.of_below b1 (fun _ => False)) (by simp)).keep (Keep.alloc (Keep.refl (fun _ => False) _) (.cells #[.int .i64 2, .int .u64 i] 52)) (by simp); have b1 := b1.trans (((Keep.alloc (Keep.refl (fun _ => False) w1) (.cells #[.int .i64 2, .int .u64 i] 52))).below (b1.size) (by simp))
    go_wp2_with fail; refine (rby_any h _ me t (by omega) (by omega)).mono ?_; rintro e w2 ⟨rfl, b2⟩; unfold V2; go_wp2; go_ret2; exact ⟨rfl, b1.trans (b2.mono b1.size)⟩
  · rw [show endI (lookL f n) a me t = (1, 0) by unfold endI; rw [hk, if_neg (by decide), if_neg (by omega)]]
    clear h3
    go_enter Try.func28, Try.ntmps28
    go_wp2_with fail; refine (readr_any _ a0 a1 _).mono ?_; rw [hk, hn]; rintro e w1 ⟨rfl, b1⟩; have h := (h.keep (Keep.of_below b1 (fun _ => False)) (by simp)).keep (Keep.alloc (Keep.refl (fun _ => False) _) (.cells #[.int .i64 0, .int .u64 0] 52)) (by simp); have b1 := b1.trans (((Keep.alloc (Keep.refl (fun _ => False) w1) (.cells #[.int .i64 0, .int .u64 0] 52))).below (b1.size) (by simp))
    go_wp2
    go_ret2
    exact ⟨rfl, b1⟩
theorem rd_bd2 (a : Int) : 0 ≤ rdN a ∨ True := .inr trivial
def SeeV (r : Int × List Int) (w : World) (e : Ending) (w' : World) : Prop := ∃ v, e = .returned (.tuple #[.int .i64 r.1, v]) ∧ OwnN w.heap.size w' v r.2 ∧ Below w.heap.size w w'
theorem own_one {w : World} {B : Nat} (hB : B ≤ w.heap.size) (x : Int) : OwnN B (w.alloc (.cells #[.int .i64 x] 3)) (.slice (some ⟨w.heap.size, 0, none⟩) 1 1) [x] := World.ownsRow_lit w #[.int .i64 x] 1 hB (by unfold maxLen; omega) rfl
set_option maxHeartbeats 4000000 in
theorem rsee_any (h : IsOth w A n c f) (a b me t : Int) (a0 : 0 ≤ a) (a1 : a ≤ 18446744073709551615) (b0 : 0 ≤ b) (b1 : b ≤ 18446744073709551615) :
    Calls Try.prog 29 #[.int .u64 a, .int .u64 b, .int .i64 me, .int .u64 t, .slice A n c] w (SeeV (seeI (lookL f n) a b me t) w) := by
  have hB := rbegin_any h a me t a0 a1
  obtain ⟨p, ep⟩ : ∃ p, beginI (lookL f n) a me t = p := ⟨_, rfl⟩
  have pc := begin_cases (lookL f n) a me t
  have qc := end_cases (lookL f n) b me t
  have hE : ∀ w1, Below w.heap.size w w1 → Calls Try.prog 28 #[.int .u64 b, .int .i64 me, .int .u64 t, .slice A n c] w1 fun e w' => e = .returned (V2 (endI (lookL f n) b me t)) ∧ Below w1.heap.size w1 w' := fun w1 bl => rend_any (h.keep (Keep.of_below bl (fun _ => False)) (by simp)) b me t b0 b1
  obtain ⟨q, eq⟩ : ∃ q, endI (lookL f n) b me t = q := ⟨_, rfl⟩
  have es : seeI (lookL f n) a b me t = if p.1 = 2 ∨ p.1 = 3 then (p.1, []) else if q.1 = 3 then (3, []) else if q.1 = 1 then (2, []) else if q.1 = 4 then (2, [q.2]) else if p.1 = 4 then (1, [p.2]) else (1, []) := by unfold seeI; rw [ep, eq]
  rw [es]
  rw [ep] at hB pc
  rw [eq] at qc
  simp only [eq] at hE
  clear es ep eq
  rcases pc with rfl | rfl | rfl | rfl
  · rcases qc with rfl | rfl | rfl | rfl
    all_goals
      go_enter Try.func29, Try.ntmps29
      go_wp2_with fail; refine hB.mono ?_; rintro e w1 ⟨rfl, bl⟩; unfold V2
      go_wp2_with fail; refine (hE _ bl).mono ?_; rintro e w2 ⟨rfl, bl2⟩; have bl := bl.trans (bl2.mono bl.size); unfold V2
      go_wp2; go_ret2; first | exact ⟨_, rfl, World.ownsRow_nil _ _ _ _, bl⟩ | exact ⟨_, rfl, own_one bl.size _, bl.alloc bl.size _⟩
  · go_enter Try.func29, Try.ntmps29
    go_wp2_with fail; refine hB.mono ?_; rintro e w1 ⟨rfl, bl⟩; unfold V2
    go_wp2; go_ret2; first | exact ⟨_, rfl, World.ownsRow_nil _ _ _ _, bl⟩ | exact ⟨_, rfl, own_one bl.size _, bl.alloc bl.size _⟩
  · go_enter Try.func29, Try.ntmps29
    go_wp2_with fail; refine hB.mono ?_; rintro e w1 ⟨rfl, bl⟩; unfold V2
    go_wp2; go_ret2; first | exact ⟨_, rfl, World.ownsRow_nil _ _ _ _, bl⟩ | exact ⟨_, rfl, own_one bl.size _, bl.alloc bl.size _⟩
  · rcases qc with rfl | rfl | rfl | rfl
    all_goals
      go_enter Try.func29, Try.ntmps29
      go_wp2_with fail; refine hB.mono ?_; rintro e w1 ⟨rfl, bl⟩; unfold V2
      go_wp2_with fail; refine (hE _ bl).mono ?_; rintro e w2 ⟨rfl, bl2⟩; have bl := bl.trans (bl2.mono bl.size); unfold V2
      go_wp2; go_ret2; first | exact ⟨_, rfl, World.ownsRow_nil _ _ _ _, bl⟩ | exact ⟨_, rfl, own_one bl.size _, bl.alloc bl.size _⟩
end
end Go.Proofs.Ytdkgngdfehllcaa
