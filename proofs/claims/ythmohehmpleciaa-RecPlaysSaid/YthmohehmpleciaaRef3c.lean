/- Contract of Give of the document's own answer for layer 3; conditions: the Pool is one that NewPool made, in a state that calls can bring about. -/
import Derived.Test.YthmohehmpleciaaRef3b
namespace Go.Proofs.Ythmohehmpleciaa
open Go.ChangeShapes Go.WideShapes Go.ChangeAt Go.RowKit
set_option linter.unusedVariables false

theorem rgive_no {w : World} {p b1 b2 : Nat} {v3 : Value} {s : St} (h : RefAt w p b1 b2 v3 s) (ok : Ok s) (l : Int) (h0 : 0 ≤ l) (h1 : l ≤ 18446744073709551615) (hl : s.live l = false) :
    Calls Try.prog 23 #[.pointer (some ⟨p, 0, none⟩), .int .u64 l] w fun e w' => e = .returned (.int .i64 8) ∧ w = w' := by
  go_enter Try.func23, Try.ntmps23
  go_wp2_with (go_at_call 21; refine (rlive_no h ok l h0 h1 hl).mono ?_; rintro e w' ⟨rfl, rfl⟩)
  go_ret
  exact ⟨rfl, rfl⟩
theorem rgive_wear {w : World} {p b1 b2 : Nat} {v3 : Value} {s : St} (h : RefAt w p b1 b2 v3 s) (ok : Ok s) (i : Nat) (hi : i < s.tags.length) (ht : s.tk i = true) (hm : s.tag i = s.most) :
    Calls Try.prog 23 #[.pointer (some ⟨p, 0, none⟩), .int .u64 (s.link i)] w (RPost (.int .i64 0) p b1 b2 v3 { s with taken := s.taken.set i false, worn := s.worn + 1 } w) := by
  have g0 := h.c0
  have g1 := h.c1
  have g2 := h.c2
  have g5 := h.c5
  have z5 := h.fz 5
  have n1 := ok.n1
  have w0 := ok.w0
  have ct := ok.ct
  have f1 := ok.f1
  have cn := cnt_nonneg s.taken
  have wl : s.worn ≤ 4096 := by omega
  clear ct f1 cn
  have hk := h.tkAt ok i hi
  have hf := h.o2.free i
  have tc := h.tagAt i hi
  rw [hm] at tc
  have hmod := link_mod s i (by omega)
  have hlb := link_b ok i hi
  have hL := rlive_yes h ok i hi ht
  obtain ⟨l, el⟩ : ∃ l, s.link i = l := ⟨_, rfl⟩
  rw [el] at hmod hlb hL ⊢
  clear el
  have hs := u64_mask17 l (by omega) (by omega)
  rw [hmod] at hs
  clear hmod
  rw [ht] at hk
  have a1 := h.setTaken i false
  have q1 := h.p1
  have q2 := h.p2
  have q3 := h.b12
  obtain ⟨mo, em⟩ : ∃ x, s.most = x := ⟨_, rfl⟩
  rw [em] at g0 tc
  obtain ⟨wo, ew⟩ : ∃ x, s.worn = x := ⟨_, rfl⟩
  rw [ew] at g5 w0 wl
  have EW := Lib.hid ew
  clear em ew
  go_enter Try.func23, Try.ntmps23
  go_wp2_with (go_at_call 21; refine hL.mono ?_; rintro e w' ⟨rfl, rfl⟩)
  go_quiet (fail)
  go_wp2
  go_ret
  have ew := EW.out
  subst ew
  have a2 := (a1.keep (drewN_keep (fun _ => False) _ nq) (by simp)).setWorn (s.worn + 1)
  refine ⟨rfl, _, a2, ?_, fun k hk => .inl hk⟩
  exact ((Keep.setCell (Keep.refl _ w) (p := ⟨b2, i, none⟩) (.inr (.inr (.inl rfl))) _).trans (drewN_keep _ _ nq)).setCell (p := ⟨p, 5, none⟩) (.inl rfl) _
