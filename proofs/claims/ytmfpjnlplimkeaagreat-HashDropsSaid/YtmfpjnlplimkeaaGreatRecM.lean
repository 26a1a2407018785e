/- Package rec: Make; conditions: the Store is one that calls have made of an empty one, its count of accesses is at most 2^62, the words are of 64 bits. -/
import Derived.Test.YtmfpjnlplimkeaaGreatRecG
namespace Go.Proofs.YtmfpjnlplimkeaaGreat
open Go.ChangeShapes Go.WideShapes Go.ChangeAt Go.RowKit
set_option linter.unusedVariables false

theorem VCore.put2 {w w' : World} {p pp pa qa : Nat} {Sp : Nat → Prop} {c : Int} {zs : List Int} {s : RS} (h : VCore w p pp Sp pa qa c zs s) (i j : Nat) (hi : i < s.r.length) (hj : j < 5) (x : Int) (y0 y : Ver) (hv : s.ver i = y0) (hy : ∀ m, m < 5 → y.f m = if m = j then x else y0.f m) (ha : Ar w' pa qa (zs.set (i * 5 + j) x) (c + 1)) (k : Keep (Two pa qa) w w') :
    VCore w' p pp Sp pa qa (c + 1) (zs.set (i * 5 + j) x) ⟨s.s, s.r.set i y, s.c + 1⟩ ∧ RS.ver ⟨s.s, s.r.set i y, s.c + 1⟩ i = y :=
  ⟨h.put i j hi hj x y (by rw [hv]; exact hy) rfl rfl (Int.le_refl _) ha k, by rw [show RS.ver ⟨s.s, s.r.set i y, s.c + 1⟩ i = (s.r.set i y).getD i ⟨0, 0, 0, 0, 0⟩ from rfl, RS.ver_set s i i y hi, if_pos rfl]⟩
section
variable {w : World} {p : Nat} {S : Nat → Prop} {s : RS}
theorem vmake_no (h : VAt w p S s) (k v b e : Int) (hb : k < 0 ∨ 63 < k ∨ v < 0 ∨ 65535 < v) : Calls Tryz.prog 8 #[.pointer (some ⟨p, 0, none⟩), .int .i64 k, .int .i64 v, .int .u64 b, .int .u64 e] w (VPost (.tuple #[.int .u64 0, .int .i64 1]) p S s.tick w) := by
  obtain ⟨pp, Sp, pa, qa, c, zs, h, hS⟩ := h
  have hk := iskey_any k
  have hv := isval_any v
  by_cases h1 : 0 ≤ k ∧ k ≤ 63
  · rw [show decide (0 ≤ k ∧ k ≤ 63) = true from decide_eq_true h1] at hk
    rw [show decide (0 ≤ v ∧ v ≤ 65535) = false from decide_eq_false (by omega)] at hv
    clear hb
    go_enter Tryz.func8, Tryz.ntmps8
    go_wp2_with (first | (go_at_call 26; refine (hk _).mono ?_; rintro e w' ⟨rfl, rfl⟩) | (go_at_call 27; refine (hv _).mono ?_; rintro e w' ⟨rfl, rfl⟩))
    go_ret2
    exact VPost.of rfl (h.more rfl rfl (by show s.c ≤ s.c + 64; omega)) hS (Keep.refl _ _)
  · rw [show decide (0 ≤ k ∧ k ≤ 63) = false from decide_eq_false h1] at hk
    clear hb
    go_enter Tryz.func8, Tryz.ntmps8
    go_wp2_with (first | (go_at_call 26; refine (hk _).mono ?_; rintro e w' ⟨rfl, rfl⟩) | (go_at_call 27; refine (hv _).mono ?_; rintro e w' ⟨rfl, rfl⟩))
    go_ret2
    exact VPost.of rfl (h.more rfl rfl (by show s.c ≤ s.c + 64; omega)) hS (Keep.refl _ _)
theorem vmake_full (h : VAt w p S s) (ok : ROk s) (k v b e : Int) (hb : ¬ (k < 0 ∨ 63 < k ∨ v < 0 ∨ 65535 < v)) (ht : s.s.top = none) : Calls Tryz.prog 8 #[.pointer (some ⟨p, 0, none⟩), .int .i64 k, .int .i64 v, .int .u64 b, .int .u64 e] w (VPost (.tuple #[.int .u64 0, .int .i64 15]) p S s.tick w) := by
  obtain ⟨pp, Sp, pa, qa, c, zs, h, hS⟩ := h
  have hk := iskey_any k
  have hv := isval_any v
  rw [show decide (0 ≤ k ∧ k ≤ 63) = true from decide_eq_true (by omega)] at hk
  rw [show decide (0 ≤ v ∧ v ≤ 65535) = true from decide_eq_true (by omega)] at hv
  clear hb
  have c0 := h.c0
  have hT : Calls Tryz.prog 28 #[.pointer (some ⟨pp, 0, none⟩)] w (PPost (.tuple #[.int .u64 0, .int .i64 15]) pp Sp s.s w) := by
    rcases top_cases ok.p with ⟨h1, hg, hf⟩ | ⟨j, gs, h1, _⟩ | ⟨j, h1, _⟩
    · exact ptake_full h.hp ok.p hg hf
    · rw [ht] at h1; cases h1
    · rw [ht] at h1; cases h1
  go_enter Tryz.func8, Tryz.ntmps8
  go_wp2_with (first | (go_at_call 26; refine (hk _).mono ?_; rintro e w' ⟨rfl, rfl⟩) | (go_at_call 27; refine (hv _).mono ?_; rintro e w' ⟨rfl, rfl⟩))
  refine hT.mono ?_
  rintro e w1 ⟨rfl, Sp1, h1, k1, g1⟩
  go_wp2
  go_ret2
  exact VPost.of2 rfl (h.pool (s' := s.tick) h1 k1 g1 rfl (by show s.c ≤ s.c + 64; omega)) hS g1 (k1.mono fun j hj => .inl hj)
set_option maxRecDepth 100000 in
theorem vmake_ok (h : VAt w p S s) (ok : ROk s) (hc : s.c ≤ 4611686018427387904) (k v b e : Int) (ub : U64 b) (ue : U64 e) (hb : ¬ (k < 0 ∨ 63 < k ∨ v < 0 ∨ 65535 < v)) (i : Nat) (ht : s.s.top = some i) :
    Calls Tryz.prog 8 #[.pointer (some ⟨p, 0, none⟩), .int .i64 k, .int .i64 v, .int .u64 b, .int .u64 e] w (VPost (.tuple #[.int .u64 (s.s.link i), .int .i64 0]) p S ⟨s.s.took, s.r.set i ⟨k, v, b, e, 0⟩, s.c + 64⟩ w) := by
  obtain ⟨pp, Sp, pa, qa, c, zs, h, hS⟩ := h
  have hk := iskey_any k
  have hv := isval_any v
  rw [show decide (0 ≤ k ∧ k ≤ 63) = true from decide_eq_true (by omega)] at hk
  rw [show decide (0 ≤ v ∧ v ≤ 65535) = true from decide_eq_true (by omega)] at hv
  have k0 : 0 ≤ k := by omega
  have k1 : k ≤ 63 := by omega
  have v0 : 0 ≤ v := by omega
  have v1 : v ≤ 65535 := by omega
  clear hb
  have c0 := h.c0
  have hT : Calls Tryz.prog 28 #[.pointer (some ⟨pp, 0, none⟩)] w (PPost (.tuple #[.int .u64 (s.s.link i), .int .i64 0]) pp Sp s.s.took w) := by
    rcases top_cases ok.p with ⟨h1, _⟩ | ⟨j, gs, h1, hg, et, _⟩ | ⟨j, h1, hg, hf, et, hj, _⟩
    · rw [ht] at h1; cases h1
    · rw [ht] at h1; cases h1
      rw [et]
      exact ptake_given h.hp ok.p gs i hg
    · rw [ht] at h1; cases h1
      rw [et]
      exact ptake_fresh h.hp ok.p hg i hf hj
  obtain ⟨hi, htk, ok1, et1, et2, et3⟩ := ok_took ok.p ht
  have n1 := ok.p.n1
  have rl := ok.l
  have hir : i < s.r.length := by omega
  have okA : ROk ⟨s.s.took, s.r, s.c⟩ := ⟨ok1, et3.trans ok.m, by show s.r.length = s.s.took.tags.length; rw [et1]; exact rl, ok.v, ok.c0⟩
  have elk : s.s.link i = s.s.took.link i := by unfold St.link St.tag; rw [et1]
  have hsl : slotOf (s.s.link i) = i := slot_link _ _ (by omega)
  have hlv : s.s.took.live (s.s.link i) = true := by
    rw [elk]
    refine (live_iff _ _).2 ⟨i, by rw [et1]; exact hi, ?_, rfl, link_mod _ _ (by omega)⟩
    show s.s.took.taken.getD i false = true
    rw [et2]
    simp [List.getD_eq_getElem?_getD, show i < s.s.taken.length by rw [ok.p.tl]; exact hi]
  obtain ⟨l, el⟩ : ∃ l, s.s.link i = l := ⟨_, rfl⟩
  rw [el] at hT hsl hlv ⊢
  clear elk el
  obtain ⟨m, em⟩ : ∃ m, i * 5 = m := ⟨_, rfl⟩
  have zl : zs.length = s.r.length * 5 := h.lay.len
  have n0 := h.n0
  have nc := h.n1
  go_enter Tryz.func8, Tryz.ntmps8
  go_wp2_with (first | (go_at_call 26; refine (hk _).mono ?_; rintro e w' ⟨rfl, rfl⟩) | (go_at_call 27; refine (hv _).mono ?_; rintro e w' ⟨rfl, rfl⟩))
  refine hT.mono ?_
  rintro e' w1 ⟨rfl, Sp1, hp1, kk, g1⟩
  have h1 := h.pool (s' := ⟨s.s.took, s.r, s.c⟩) hp1 kk g1 rfl (Int.le_refl _)
  clear h c0 hp1 hT
  go_wp2_with fail
  refine (vfirst_yes h1 okA l hlv m (by rw [hsl]; exact em)).mono ?_
  rintro e' w' ⟨rfl, rfl⟩
  have c1 := h1.c1
  go_wp2_with fail
  refine (store_in pa qa zs c m k w1 h1.ha (by omega) n0 (by omega) k0 (by omega)).mono ?_
  rintro e' w2 ⟨rfl, a2, k2⟩
  subst em
  obtain ⟨h2, v2⟩ := h1.put2 i 0 hir (by omega) k (s.ver i) { s.ver i with k := k } rfl (by
    intro m hm
    rcases (by omega : m = 0 ∨ m = 1 ∨ m = 2 ∨ m = 3 ∨ m = 4) with rfl | rfl | rfl | rfl | rfl <;> rfl) a2 k2
  clear c1 a2 h1
  have c1 := h2.c1
  go_wp2_with fail
  refine (store_in pa qa _ _ (i * 5 + 1) v w2 h2.ha (by simp only [List.length_set]; omega) (by omega) (by omega) v0 (by omega)).mono ?_
  rintro e' w3 ⟨rfl, a3, k3⟩
  obtain ⟨h3, v3⟩ := h2.put2 i 1 (by simpa using hir) (by omega) v _ { s.ver i with k := k, v := v } v2 (by
    intro m hm
    rcases (by omega : m = 0 ∨ m = 1 ∨ m = 2 ∨ m = 3 ∨ m = 4) with rfl | rfl | rfl | rfl | rfl <;> rfl) a3 k3
  clear c1 a3 h2
  have c1 := h3.c1
  go_wp2_with fail
  refine (store_in pa qa _ _ (i * 5 + 2) b w3 h3.ha (by simp only [List.length_set]; omega) (by omega) (by omega) ub.1 ub.2).mono ?_
  rintro e' w4 ⟨rfl, a4, k4⟩
  obtain ⟨h4, v4⟩ := h3.put2 i 2 (by simpa using hir) (by omega) b _ { s.ver i with k := k, v := v, b := b } v3 (by
    intro m hm
    rcases (by omega : m = 0 ∨ m = 1 ∨ m = 2 ∨ m = 3 ∨ m = 4) with rfl | rfl | rfl | rfl | rfl <;> rfl) a4 k4
  clear c1 a4 h3
  have c1 := h4.c1
  go_wp2_with fail
  refine (store_in pa qa _ _ (i * 5 + 3) e w4 h4.ha (by simp only [List.length_set]; omega) (by omega) (by omega) ue.1 ue.2).mono ?_
  rintro e' w5 ⟨rfl, a5, k5⟩
  obtain ⟨h5, v5⟩ := h4.put2 i 3 (by simpa using hir) (by omega) e _ { s.ver i with k := k, v := v, b := b, e := e } v4 (by
    intro m hm
    rcases (by omega : m = 0 ∨ m = 1 ∨ m = 2 ∨ m = 3 ∨ m = 4) with rfl | rfl | rfl | rfl | rfl <;> rfl) a5 k5
  clear c1 a5 h4
  have c1 := h5.c1
  go_wp2_with fail
  refine (store_in pa qa _ _ (i * 5 + 4) 0 w5 h5.ha (by simp only [List.length_set]; omega) (by omega) (by omega) (by omega) (by omega)).mono ?_
  rintro e' w6 ⟨rfl, a6, k6⟩
  obtain ⟨h6, v6⟩ := h5.put2 i 4 (by simpa using hir) (by omega) 0 _ ⟨k, v, b, e, 0⟩ v5 (by
    intro m hm
    rcases (by omega : m = 0 ∨ m = 1 ∨ m = 2 ∨ m = 3 ∨ m = 4) with rfl | rfl | rfl | rfl | rfl <;> rfl) a6 k6
  clear c1 a6 h5
  go_wp2
  go_ret2
  have kt := ((((k2.trans k3).trans k4).trans k5).trans k6).mono (T := fun j => Sp j ∨ Two pa qa j) (fun j hj => .inr hj)
  exact VPost.of2 rfl (h6.more rfl (by simp only [List.set_set]) (by show s.c + 1 + 1 + 1 + 1 + 1 ≤ s.c + 64; omega)) hS g1 ((kk.mono (fun j hj => .inl hj)).trans kt)
theorem vmake_any (h : VAt w p S s) (ok : ROk s) (hc : s.c ≤ 4611686018427387904) (k v b e : Int) (hb : U64 b) (he : U64 e) : Calls Tryz.prog 8 #[.pointer (some ⟨p, 0, none⟩), .int .i64 k, .int .i64 v, .int .u64 b, .int .u64 e] w (VPost (.tuple #[.int .u64 (s.make k v b e).1, .int .i64 (s.make k v b e).2.1]) p S (s.make k v b e).2.2 w) := by
  by_cases hbad : k < 0 ∨ 63 < k ∨ v < 0 ∨ 65535 < v
  · have e1 : s.make k v b e = (0, 1, s.tick) := by unfold RS.make; rw [if_pos hbad]
    rw [e1]
    exact vmake_no h k v b e hbad
  · cases ht : s.s.top with
    | none =>
      have e1 : s.make k v b e = (0, 15, s.tick) := by unfold RS.make; rw [if_neg hbad, ht]
      rw [e1]
      exact vmake_full h ok k v b e hbad ht
    | some i =>
      have e1 : s.make k v b e = (s.s.link i, 0, ⟨s.s.took, s.r.set i ⟨k, v, b, e, 0⟩, s.c + 64⟩) := by unfold RS.make; rw [if_neg hbad, ht]
      rw [e1]
      exact vmake_ok h ok hc k v b e hb he hbad i ht
end
end Go.Proofs.YtmfpjnlplimkeaaGreat
