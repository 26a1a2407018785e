/- Package rec: first, isKey, isValue; New, Free, Used, Links; conditions: the Store is one that calls have made of an empty one, its count of accesses is below 2^62. -/
import Derived.Test.YtagboodnbgpnkaaRecV
namespace Go.Proofs.Ytagboodnbgpnkaa
open Go.ChangeShapes Go.WideShapes Go.ChangeAt Go.RowKit
set_option linter.unusedVariables false

theorem iskey_any (k : Int) (w : World) : Calls Try.prog 20 #[.int .i64 k] w fun e w' => e = .returned (.bool (decide (0 ≤ k ∧ k ≤ 63))) ∧ w = w' := by
  by_cases h0 : 0 ≤ k
  · by_cases h1 : k ≤ 63
    · rw [show decide (0 ≤ k ∧ k ≤ 63) = true from decide_eq_true ⟨h0, h1⟩]
      go_enter Try.func20, Try.ntmps20
      go_wp2
      go_ret
      exact ⟨rfl, rfl⟩
    · rw [show decide (0 ≤ k ∧ k ≤ 63) = false from decide_eq_false (by omega)]
      go_enter Try.func20, Try.ntmps20
      go_wp2
      go_ret
      exact ⟨rfl, rfl⟩
  · rw [show decide (0 ≤ k ∧ k ≤ 63) = false from decide_eq_false (by omega)]
    go_enter Try.func20, Try.ntmps20
    go_wp2
    go_ret
    exact ⟨rfl, rfl⟩
theorem isval_any (k : Int) (w : World) : Calls Try.prog 21 #[.int .i64 k] w fun e w' => e = .returned (.bool (decide (0 ≤ k ∧ k ≤ 65535))) ∧ w = w' := by
  by_cases h0 : 0 ≤ k
  · by_cases h1 : k ≤ 65535
    · rw [show decide (0 ≤ k ∧ k ≤ 65535) = true from decide_eq_true ⟨h0, h1⟩]
      go_enter Try.func21, Try.ntmps21
      go_wp2
      go_ret
      exact ⟨rfl, rfl⟩
    · rw [show decide (0 ≤ k ∧ k ≤ 65535) = false from decide_eq_false (by omega)]
      go_enter Try.func21, Try.ntmps21
      go_wp2
      go_ret
      exact ⟨rfl, rfl⟩
  · rw [show decide (0 ≤ k ∧ k ≤ 65535) = false from decide_eq_false (by omega)]
    go_enter Try.func21, Try.ntmps21
    go_wp2
    go_ret
    exact ⟨rfl, rfl⟩
section
variable {w : World} {p pp pa qa : Nat} {Sp : Nat → Prop} {c : Int} {zs : List Int} {s : RS}
theorem vfirst_no (h : VCore w p pp Sp pa qa c zs s) (ok : ROk s) (l : Int) (hl : U64 l) (hd : s.s.live l = false) :
    Calls Try.prog 23 #[.pointer (some ⟨p, 0, none⟩), .int .u64 l] w fun e w' => e = .returned (.tuple #[.int .i64 0, .bool false]) ∧ w = w' := by
  have c0 := h.c0
  obtain ⟨b1, d, vf, cr, f, hS⟩ := id h.hp
  go_enter Try.func23, Try.ntmps23
  go_wp2_with (go_at_call 38; refine (qlive_no cr ok.p l hl.1 hl.2 hd).mono ?_; rintro e w' ⟨rfl, rfl⟩)
  go_ret2
  exact ⟨rfl, rfl⟩
theorem vfirst_yes (h : VCore w p pp Sp pa qa c zs s) (ok : ROk s) (l : Int) (hd : s.s.live l = true) (m : Nat) (hm : slotOf l * 5 = m) :
    Calls Try.prog 23 #[.pointer (some ⟨p, 0, none⟩), .int .u64 l] w fun e w' => e = .returned (.tuple #[.int .i64 m, .bool true]) ∧ w = w' := by
  have c0 := h.c0
  obtain ⟨b1, d, vf, cr, f, hS⟩ := id h.hp
  obtain ⟨hi, ht, el⟩ := slot_live hd
  obtain ⟨i, ei⟩ : ∃ i, slotOf l = i := ⟨_, rfl⟩
  rw [ei] at hi ht el hm
  subst hm
  have n1 := ok.p.n1
  have lm := link_mod s.s i (by omega)
  have lb := link_b ok.p i hi
  have hL := qlive_yes cr ok.p i hi ht
  rw [← el] at lm lb hL
  have hU := unlink_any l (by omega) (by omega) w
  rw [show uslot l = i by unfold uslot; omega] at hU
  clear lm ei el
  go_enter Try.func23, Try.ntmps23
  go_wp2_with (first | (go_at_call 38; refine hL.mono ?_; rintro e w' ⟨rfl, rfl⟩) | (go_at_call 39; refine hU.mono ?_; rintro e w' ⟨rfl, rfl⟩))
  go_ret2
  exact ⟨rfl, rfl⟩
end
section
variable {w : World} {p : Nat} {S : Nat → Prop} {s : RS}
theorem vfree_any (h : VAt w p S s) (ok : ROk s) (hc : s.c ≤ 4611686018427387904) (l : Int) (hl : U64 l) : Calls Try.prog 16 #[.pointer (some ⟨p, 0, none⟩), .int .u64 l] w (VPost (.int .i64 (s.free l).1) p S (s.free l).2 w) := by
  obtain ⟨pp, Sp, pa, qa, c, zs, h, hS⟩ := h
  have c0 := h.c0
  have hG : Calls Try.prog 32 #[.pointer (some ⟨pp, 0, none⟩), .int .u64 l] w (PPost (.int .i64 (s.free l).1) pp Sp (s.free l).2.s w) := by
    unfold RS.free
    split
    · rename_i hd
      obtain ⟨hi, ht, el⟩ := slot_live hd
      have tg := ok.p.tg (slotOf l)
      show Calls _ _ _ _ (PPost (.int .i64 0) pp Sp (s.s.gave (slotOf l)) w)
      by_cases hm : s.s.tag (slotOf l) = s.s.most
      · have := pgive_wear h.hp ok.p (slotOf l) hi ht hm
        rw [← el] at this
        unfold St.gave
        rw [if_pos hm]
        exact this
      · have := pgive_ok h.hp ok.p (slotOf l) hi ht (by omega)
        rw [← el] at this
        unfold St.gave
        rw [if_neg hm]
        exact this
    · rename_i hd
      exact pgive_no h.hp ok.p l hl.1 hl.2 (by simpa using hd)
  have er : (s.free l).2.r = s.r := by unfold RS.free; split <;> rfl
  have ec := free_c s l
  obtain ⟨⟨f, s1⟩, es⟩ : ∃ x, s.free l = x := ⟨_, rfl⟩
  rw [es] at hG er ec ⊢
  dsimp only at hG er ec ⊢
  go_enter Try.func16, Try.ntmps16
  go_wp2_with fail
  refine hG.mono ?_
  rintro e w1 ⟨rfl, Sp1, h1, k1, g1⟩
  go_wp2
  go_ret
  exact VPost.of2 rfl (h.pool h1 k1 g1 er (by omega)) hS g1 (k1.mono fun j hj => .inl hj)
end
theorem vnew_no (n : Int) (w : World) (h : n < 1 ∨ 4096 < n) : Calls Try.prog 17 #[.int .i64 n] w fun e w' => e = .returned (.tuple #[.pointer none, .int .i64 1]) ∧ Below w.heap.size w w' := by
  have hN := pnew_no n 65535 w (by omega)
  go_enter Try.func17, Try.ntmps17
  go_wp2_with fail
  refine hN.mono ?_
  rintro e w1 ⟨rfl, rfl⟩
  go_wp2
  go_ret2
  exact ⟨rfl, Below.refl _ _⟩
set_option maxRecDepth 100000 in
theorem vnew_ok (n : Nat) (w : World) (h0 : 1 ≤ n) (h1 : n ≤ 4096) : Calls Try.prog 17 #[.int .i64 n] w (VNewP n w) := by
  have ec : IntKind.i64.wrap ((n : Int) * 5) = ((n * 5 : Nat) : Int) := by rw [IntWalk.i64_in _ (by omega)]; omega
  go_enter Try.func17, Try.ntmps17
  go_wp2_with fail
  refine (pnew_ok n 65535 w h0 h1 (by omega) (by omega)).mono ?_
  rintro e w1 ⟨pp, Sp, rfl, hp, gp, b1⟩
  go_wp2_with fail
  refine (new_ok (n * 5) _ (by omega) (by omega)).mono ?_
  rintro e w2 ⟨pa, qa, rfl, ha, ga, gq, b2⟩
  go_wp2
  go_ret2
  have s1 := b1.size
  have s2 := b2.size
  have k := Keep.alloc (Keep.refl (fun _ => False) w2) (.cells #[.pointer (some ⟨pp, 0, none⟩), .pointer (some ⟨pa, 0, none⟩)] 55)
  have la := ha.lt
  have lq := ha.ws.lt
  have hp2 := hp.keep (Keep.of_below b2 (fun _ => False)) (by simp)
  refine ⟨w2.heap.size, VFoot w2.heap.size pa qa Sp, rfl, ⟨pp, Sp, pa, qa, 0, _, ⟨by simp, by simp, hp2.keep k (by simp), ha.keep k (by simp) (by simp), lay_new n, by omega, by simp [RS.new], fun x => ?_, fun x => ?_, fun x => ?_, by omega, by omega⟩, fun k => Iff.rfl⟩, fun x hx => ?_, ?_⟩
  · have := hp2.lt _ x; omega
  · have := hp.lt _ x; omega
  · have := hp.lt _ x; omega
  · rcases hx with rfl | hx | rfl | rfl
    · omega
    · exact gp _ hx
    · omega
    · omega
  · exact (b1.trans (b2.mono s1)).trans (k.below (by omega) (by simp))
end Go.Proofs.Ytagboodnbgpnkaa
