/- Contracts of package see as landed: End, See; conditions: those of IsLook. -/
import Derived.Test.YtbbinfdgmfmaeaaSeeP
namespace Go.Proofs.Ytbbinfdgmfmaeaa
open Go.ChangeShapes Go.WideShapes Go.ChangeAt Go.RowKit
set_option linter.unusedVariables false

section
variable {fv : Value} {P : World → Prop} {L : Int → Option Tx} {w : World}
set_option maxHeartbeats 1600000 in
theorem pend_any (h : IsLook fv P L) (hP : P w) (a me t : Int) (a0 : 0 ≤ a) (a1 : a ≤ 18446744073709551615) :
    Calls Try.prog 29 #[.int .u64 a, .int .i64 me, .int .u64 t, fv] w fun e w' => e = .returned (V2 (endI L a me t)) ∧ Below w.heap.size w w' := by
  rcases rd_cases a with ⟨h1, hk, hn⟩ | ⟨h1, hk, hn⟩ | ⟨h1, h1', hk, hn⟩ | ⟨h1, h2, h3, hk, hn⟩
  · rw [show endI L a me t = beginI L a me t by
      unfold endI beginI
      rw [hk]
      by_cases ht : a ≤ t
      · rw [if_neg (by decide), if_neg (by omega), if_pos ⟨rfl, ht⟩]
      · rw [if_neg (by decide), if_pos (.inr ⟨rfl, by omega⟩), if_neg (by omega), if_neg (by decide)]]
    have hb := fun w1 (hP : P w1) => pbegin_any h hP a me t a0 a1; obtain ⟨r, er⟩ : ∃ r, beginI L a me t = r := ⟨_, rfl⟩; simp only [er] at hb ⊢; clear er; (go_enter Try.func29, Try.ntmps29); go_wp2_with fail; refine (readw_any _ a0 a1 _).mono ?_; rw [hk, hn]; rintro e w1 ⟨rfl, b1⟩; go_wp2_with fail; refine (hb _ (h.stay hP b1)).mono ?_; rintro e w2 ⟨rfl, b2⟩; unfold V2; go_wp2; go_ret2; exact ⟨rfl, b1.trans (b2.mono b1.size)⟩
  · subst h1
    rw [show endI L 2305843009213693952 me t = beginI L 2305843009213693952 me t by unfold endI beginI; rw [hk, if_neg (by decide), if_pos (.inl rfl), if_neg (by omega), if_neg (by decide)]]
    have hb := fun w1 (hP : P w1) => pbegin_any h hP 2305843009213693952 me t a0 a1; obtain ⟨r, er⟩ : ∃ r, beginI L 2305843009213693952 me t = r := ⟨_, rfl⟩; simp only [er] at hb ⊢; clear er; (go_enter Try.func29, Try.ntmps29); go_wp2_with fail; refine (readw_any _ a0 a1 _).mono ?_; rw [hk, hn]; rintro e w1 ⟨rfl, b1⟩; go_wp2_with fail; refine (hb _ (h.stay hP b1)).mono ?_; rintro e w2 ⟨rfl, b2⟩; unfold V2; go_wp2; go_ret2; exact ⟨rfl, b1.trans (b2.mono b1.size)⟩
  · rw [show endI L a me t = beginI L a me t by unfold endI beginI; rw [hk, if_pos rfl, if_neg (by omega), if_pos rfl]]
    have hb := fun w1 (hP : P w1) => pbegin_any h hP a me t a0 a1; obtain ⟨r, er⟩ : ∃ r, beginI L a me t = r := ⟨_, rfl⟩; simp only [er] at hb ⊢; clear er; (go_enter Try.func29, Try.ntmps29); go_wp2_with fail; refine (readw_any _ a0 a1 _).mono ?_; rw [hk, hn]; rintro e w1 ⟨rfl, b1⟩; go_wp2_with fail; refine (hb _ (h.stay hP b1)).mono ?_; rintro e w2 ⟨rfl, b2⟩; unfold V2; go_wp2; go_ret2; exact ⟨rfl, b1.trans (b2.mono b1.size)⟩
  · rw [show endI L a me t = (1, 0) by unfold endI; rw [hk, if_neg (by decide), if_neg (by omega)]]
    clear h3
    go_enter Try.func29, Try.ntmps29
    go_wp2_with fail
    refine (readw_any _ a0 a1 _).mono ?_
    rw [hk, hn]
    rintro e w1 ⟨rfl, b1⟩
    go_wp2
    go_ret2
    exact ⟨rfl, b1⟩
set_option maxHeartbeats 4000000 in
theorem psee_any (h : IsLook fv P L) (hP : P w) (a b me t : Int) (a0 : 0 ≤ a) (a1 : a ≤ 18446744073709551615) (b0 : 0 ≤ b) (b1 : b ≤ 18446744073709551615) :
    Calls Try.prog 17 #[.int .u64 a, .int .u64 b, .int .i64 me, .int .u64 t, fv] w (SeeV (seeI L a b me t) w) := by
  have hB := pbegin_any h hP a me t a0 a1
  obtain ⟨p, ep⟩ : ∃ p, beginI L a me t = p := ⟨_, rfl⟩
  have pc := begin_cases L a me t
  have qc := end_cases L b me t
  have hE : ∀ w1, Below w.heap.size w w1 → Calls Try.prog 29 #[.int .u64 b, .int .i64 me, .int .u64 t, fv] w1 fun e w' => e = .returned (V2 (endI L b me t)) ∧ Below w1.heap.size w1 w' := fun w1 bl => pend_any h (h.stay hP bl) b me t b0 b1
  obtain ⟨q, eq⟩ : ∃ q, endI L b me t = q := ⟨_, rfl⟩
  have es : seeI L a b me t = if p.1 = 2 ∨ p.1 = 3 then (p.1, []) else if q.1 = 3 then (3, []) else if q.1 = 1 then (2, []) else if q.1 = 4 then (2, [q.2]) else if p.1 = 4 then (1, [p.2]) else (1, []) := by unfold seeI; rw [ep, eq]
  rw [es]
  rw [ep] at hB pc
  rw [eq] at qc
  simp only [eq] at hE
  clear es ep eq
  rcases pc with rfl | rfl | rfl | rfl
  · rcases qc with rfl | rfl | rfl | rfl
    all_goals
      go_enter Try.func17, Try.ntmps17
      go_wp2_with fail; refine hB.mono ?_; rintro e w1 ⟨rfl, bl⟩; unfold V2
      go_wp2_with fail; refine (hE _ bl).mono ?_; rintro e w2 ⟨rfl, bl2⟩; have bl := bl.trans (bl2.mono bl.size); unfold V2
      go_wp2; go_ret2; first | exact ⟨_, rfl, World.ownsRow_nil _ _ _ _, bl⟩ | exact ⟨_, rfl, own_one bl.size _, bl.alloc bl.size _⟩
  · go_enter Try.func17, Try.ntmps17
    go_wp2_with fail; refine hB.mono ?_; rintro e w1 ⟨rfl, bl⟩; unfold V2
    go_wp2; go_ret2; first | exact ⟨_, rfl, World.ownsRow_nil _ _ _ _, bl⟩ | exact ⟨_, rfl, own_one bl.size _, bl.alloc bl.size _⟩
  · go_enter Try.func17, Try.ntmps17
    go_wp2_with fail; refine hB.mono ?_; rintro e w1 ⟨rfl, bl⟩; unfold V2
    go_wp2; go_ret2; first | exact ⟨_, rfl, World.ownsRow_nil _ _ _ _, bl⟩ | exact ⟨_, rfl, own_one bl.size _, bl.alloc bl.size _⟩
  · rcases qc with rfl | rfl | rfl | rfl
    all_goals
      go_enter Try.func17, Try.ntmps17
      go_wp2_with fail; refine hB.mono ?_; rintro e w1 ⟨rfl, bl⟩; unfold V2
      go_wp2_with fail; refine (hE _ bl).mono ?_; rintro e w2 ⟨rfl, bl2⟩; have bl := bl.trans (bl2.mono bl.size); unfold V2
      go_wp2; go_ret2; first | exact ⟨_, rfl, World.ownsRow_nil _ _ _ _, bl⟩ | exact ⟨_, rfl, own_one bl.size _, bl.alloc bl.size _⟩
end
end Go.Proofs.Ytbbinfdgmfmaeaa
