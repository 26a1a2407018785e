/- Package rec: Set, Next, Begin, End, Make; conditions: the Store is one that calls have made of an empty one, its count of accesses is at most 2^62, the words are of 64 bits. -/
import Derived.Test.YtmfpjnlplimkeaaGreatRecF
namespace Go.Proofs.YtmfpjnlplimkeaaGreat
open Go.ChangeShapes Go.WideShapes Go.ChangeAt Go.RowKit
set_option linter.unusedVariables false

section
variable {w : World} {p pp pa qa : Nat} {Sp : Nat → Prop} {c : Int} {zs : List Int} {s : RS}
/-- The slot of a link that is live: its words lie in the Arena. -/
theorem VCore.word (h : VCore w p pp Sp pa qa c zs s) (ok : ROk s) {l : Int} (hd : s.s.live l = true) (j : Nat) (hj : j < 5) : slotOf l * 5 + j < zs.length ∧ zs.getD (slotOf l * 5 + j) 0 = (s.ver (slotOf l)).f j ∧ slotOf l * 5 + j ≤ 20480 := by
  have hi := (slot_live hd).1
  have e := ok.l
  have n1 := ok.p.n1
  refine ⟨by rw [h.lay.len]; omega, h.lay.c _ _ (by omega) hj, by omega⟩
theorem VCore.put (h : VCore w p pp Sp pa qa c zs s) {w' : World} (i j : Nat) (hi : i < s.r.length) (hj : j < 5) (x : Int) (y : Ver) (hy : ∀ m, m < 5 → y.f m = if m = j then x else (s.ver i).f m) {s' : RS} (es : s'.s = s.s) (er : s'.r = s.r.set i y) (ec : s.c + 1 ≤ s'.c) (ha : Ar w' pa qa (zs.set (i * 5 + j) x) (c + 1)) (k : Keep (Two pa qa) w w') : VCore w' p pp Sp pa qa (c + 1) (zs.set (i * 5 + j) x) s' :=
  h.arena ha k (by rw [er]; exact h.lay.set i j hi hj x y hy) es (by have := h.n0; omega) (by have := h.n1; omega)
end
section
variable {w : World} {p : Nat} {S : Nat → Prop} {s : RS}
theorem vnext_any (h : VAt w p S s) (ok : ROk s) (hc : s.c ≤ 4611686018427387904) (l t : Int) (hl : U64 l) (ht : U64 t) : Calls Tryz.prog 33 #[.pointer (some ⟨p, 0, none⟩), .int .u64 l, .int .u64 t] w (VPost (.int .i64 (s.next l t).1) p S (s.next l t).2 w) := by
  obtain ⟨pp, Sp, pa, qa, c, zs, h, hS⟩ := h
  have cc := ok.c0
  by_cases hd : s.s.live l = true
  · have hf := vfirst_yes h ok l hd
    obtain ⟨b0, b1, b2⟩ := h.word ok hd 4 (by omega)
    have c1 := h.c1
    have n0 := h.n0
    have n1 := h.n1
    have hi : slotOf l < s.r.length := by rw [ok.l]; exact (slot_live hd).1
    obtain ⟨m, em⟩ : ∃ m, slotOf l * 5 = m := ⟨_, rfl⟩
    have hf := hf m em
    rw [em] at b0 b1 b2
    have e : s.next l t = (0, s.put (slotOf l) { s.ver (slotOf l) with n := t }) := by unfold RS.next; rw [if_pos hd]
    rw [e]
    have hst := store_in pa qa zs c (m + 4) t w h.ha b0 n0 (by omega) ht.1 ht.2
    clear e
    go_enter Tryz.func33, Tryz.ntmps33
    go_wp2_with fail
    refine (hf).mono ?_
    rintro e w1 ⟨rfl, rfl⟩
    go_wp2_with fail
    refine hst.mono ?_
    rintro e w1 ⟨rfl, a1, k1⟩
    go_wp2
    go_ret
    subst em
    exact VPost.of rfl (h.put (slotOf l) 4 hi (by omega) t { s.ver (slotOf l) with n := t } (by
      intro m hm
      rcases (by omega : m = 0 ∨ m = 1 ∨ m = 2 ∨ m = 3 ∨ m = 4) with rfl | rfl | rfl | rfl | rfl <;> rfl) rfl rfl (by show s.c + 1 ≤ s.c + 64; omega) a1 k1) hS k1
  · have hd : s.s.live l = false := by simpa using hd
    have hf := vfirst_no h ok l hl hd
    have e : s.next l t = (8, s.tick) := by unfold RS.next; rw [if_neg (by simp [hd])]
    rw [e]
    go_enter Tryz.func33, Tryz.ntmps33
    go_wp2_with fail
    refine hf.mono ?_
    rintro e w1 ⟨rfl, rfl⟩
    go_wp2
    go_ret
    exact VPost.of rfl (h.more rfl rfl (by show s.c ≤ s.c + 64; omega)) hS (Keep.refl _ _)
end
end Go.Proofs.YtmfpjnlplimkeaaGreat
