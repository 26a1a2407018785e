/- Package rec: first, isKey, isValue; New, Free, Used, Links; conditions: the Store is one that calls have made of an empty one, its count of accesses is below 2^62. -/
import Derived.Test.YtmfpjnlplimkeaaGreatRecV
namespace Go.Proofs.YtmfpjnlplimkeaaGreat
open Go.ChangeShapes Go.WideShapes Go.ChangeAt Go.RowKit
set_option linter.unusedVariables false

theorem iskey_any (k : Int) (w : World) : Calls Tryz.prog 26 #[.int .i64 k] w fun e w' => e = .returned (.bool (decide (0 ≤ k ∧ k ≤ 63))) ∧ w = w' := by
  by_cases h0 : 0 ≤ k
  · by_cases h1 : k ≤ 63
    · rw [show decide (0 ≤ k ∧ k ≤ 63) = true from decide_eq_true ⟨h0, h1⟩]
      go_enter Tryz.func26, Tryz.ntmps26
      go_wp2
      go_ret
      exact ⟨rfl, rfl⟩
    · rw [show decide (0 ≤ k ∧ k ≤ 63) = false from decide_eq_false (by omega)]
      go_enter Tryz.func26, Tryz.ntmps26
      go_wp2
      go_ret
      exact ⟨rfl, rfl⟩
  · rw [show decide (0 ≤ k ∧ k ≤ 63) = false from decide_eq_false (by omega)]
    go_enter Tryz.func26, Tryz.ntmps26
    go_wp2
    go_ret
    exact ⟨rfl, rfl⟩
theorem isval_any (k : Int) (w : World) : Calls Tryz.prog 27 #[.int .i64 k] w fun e w' => e = .returned (.bool (decide (0 ≤ k ∧ k ≤ 65535))) ∧ w = w' := by
  by_cases h0 : 0 ≤ k
  · by_cases h1 : k ≤ 65535
    · rw [show decide (0 ≤ k ∧ k ≤ 65535) = true from decide_eq_true ⟨h0, h1⟩]
      go_enter Tryz.func27, Tryz.ntmps27
      go_wp2
      go_ret
      exact ⟨rfl, rfl⟩
    · rw [show decide (0 ≤ k ∧ k ≤ 65535) = false from decide_eq_false (by omega)]
      go_enter Tryz.func27, Tryz.ntmps27
      go_wp2
      go_ret
      exact ⟨rfl, rfl⟩
  · rw [show decide (0 ≤ k ∧ k ≤ 65535) = false from decide_eq_false (by omega)]
    go_enter Tryz.func27, Tryz.ntmps27
    go_wp2
    go_ret
    exact ⟨rfl, rfl⟩
section
variable {w : World} {p pp pa qa : Nat} {Sp : Nat → Prop} {c : Int} {zs : List Int} {s : RS}
theorem vfirst_no (h : VCore w p pp Sp pa qa c zs s) (ok : ROk s) (l : Int) (hl : U64 l) (hd : s.s.live l = false) :
    Calls Tryz.prog 29 #[.pointer (some ⟨p, 0, none⟩), .int .u64 l] w fun e w' => e = .returned (.tuple #[.int .i64 0, .bool false]) ∧ w = w' := by
  have c0 := h.c0
  obtain ⟨b1, d, vf, cr, f, hS⟩ := id h.hp
  go_enter Tryz.func29, Tryz.ntmps29
  go_wp2_with (go_at_call 50; refine (qlive_no cr ok.p l hl.1 hl.2 hd).mono ?_; rintro e w' ⟨rfl, rfl⟩)
  go_ret2
  exact ⟨rfl, rfl⟩
theorem vfirst_yes (h : VCore w p pp Sp pa qa c zs s) (ok : ROk s) (l : Int) (hd : s.s.live l = true) (m : Nat) (hm : slotOf l * 5 = m) :
    Calls Tryz.prog 29 #[.pointer (some ⟨p, 0, none⟩), .int .u64 l] w fun e w' => e = .returned (.tuple #[.int .i64 m, .bool true]) ∧ w = w' := by
  have c0 := h.c0
  obtain ⟨b1, d, vf, cr, f, hS⟩ := id h.hp
  obtain ⟨hi, ht, el⟩ := slot_live hd
  obtain ⟨i, ei⟩ : ∃ i, slotOf l = i := ⟨_, rfl⟩
  rw [ei] at hi ht el hm
  subst hm
  have n1 := ok.p.n1
  have lm := link_mod s.s i (by omega)
  have lb := link_b ok.p i hi
  have hL := qlive_yes cr ok.p i hi ht
  rw [← el] at lm lb hL
  have hU := unlink_any l (by omega) (by omega) w
  rw [show uslot l = i by unfold uslot; omega] at hU
  clear lm ei el
  go_enter Tryz.func29, Tryz.ntmps29
  go_wp2_with (first | (go_at_call 50; refine hL.mono ?_; rintro e w' ⟨rfl, rfl⟩) | (go_at_call 51; refine hU.mono ?_; rintro e w' ⟨rfl, rfl⟩))
  go_ret2
  exact ⟨rfl, rfl⟩
end
section
variable {w : World} {p : Nat} {S : Nat → Prop} {s : RS}
end
theorem vnew_no (n : Int) (w : World) (h : n < 1 ∨ 4096 < n) : Calls Tryz.prog 5 #[.int .i64 n] w fun e w' => e = .returned (.tuple #[.pointer none, .int .i64 1]) ∧ Below w.heap.size w w' := by
  have hN := pnew_no n 65535 w (by omega)
  go_enter Tryz.func5, Tryz.ntmps5
  go_wp2_with fail
  refine hN.mono ?_
  rintro e w1 ⟨rfl, rfl⟩
  go_wp2
  go_ret2
  exact ⟨rfl, Below.refl _ _⟩
set_option maxRecDepth 100000 in
theorem vnew_ok (n : Nat) (w : World) (h0 : 1 ≤ n) (h1 : n ≤ 4096) : Calls Tryz.prog 5 #[.int .i64 n] w (VNewP n w) := by
  have ec : IntKind.i64.wrap ((n : Int) * 5) = ((n * 5 : Nat) : Int) := by rw [IntWalk.i64_in _ (by omega)]; omega
  go_enter Tryz.func5, Tryz.ntmps5
  go_wp2_with fail
  refine (pnew_ok n 65535 w h0 h1 (by omega) (by omega)).mono ?_
  rintro e w1 ⟨pp, Sp, rfl, hp, gp, b1⟩
  go_wp2_with fail
  refine (new_ok (n * 5) _ (by omega) (by omega)).mono ?_
  rintro e w2 ⟨pa, qa, rfl, ha, ga, gq, b2⟩
  go_wp2
  go_ret2
  have s1 := b1.size
  have s2 := b2.size
  have k := Keep.alloc (Keep.refl (fun _ => False) w2) (.cells #[.pointer (some ⟨pp, 0, none⟩), .pointer (some ⟨pa, 0, none⟩)] 61)
  have la := ha.lt
  have lq := ha.ws.lt
  have hp2 := hp.keep (Keep.of_below b2 (fun _ => False)) (by simp)
  refine ⟨w2.heap.size, VFoot w2.heap.size pa qa Sp, rfl, ⟨pp, Sp, pa, qa, 0, _, ⟨by simp, by simp, hp2.keep k (by simp), ha.keep k (by simp) (by simp), lay_new n, by omega, by simp [RS.new], fun x => ?_, fun x => ?_, fun x => ?_, by omega, by omega⟩, fun k => Iff.rfl⟩, fun x hx => ?_, ?_⟩
  · have := hp2.lt _ x; omega
  · have := hp.lt _ x; omega
  · have := hp.lt _ x; omega
  · rcases hx with rfl | hx | rfl | rfl
    · omega
    · exact gp _ hx
    · omega
    · omega
  · exact (b1.trans (b2.mono s1)).trans (k.below (by omega) (by simp))
end Go.Proofs.YtmfpjnlplimkeaaGreat
