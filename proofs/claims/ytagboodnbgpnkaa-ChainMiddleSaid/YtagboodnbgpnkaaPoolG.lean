/- Contract of Give of package pool: a link of a taken slot; condition: a state that calls can bring about. -/
import Derived.Test.YtagboodnbgpnkaaPoolT
namespace Go.Proofs.Ytagboodnbgpnkaa
open Go.ChangeShapes Go.WideShapes Go.ChangeAt Go.RowKit
set_option linter.unusedVariables false

section
variable {w : World} {p b1 b2 : Nat} {d m : Int} {vf : Value} {u : Int} {s : St}
theorem qgive_no (h : Core w p b1 d m vf u s) (ok : Ok s) (l : Int) (h0 : 0 ≤ l) (h1 : l ≤ 18446744073709551615) (hl : s.live l = false) :
    Calls Try.prog 32 #[.pointer (some ⟨p, 0, none⟩), .int .u64 l] w fun e w' => e = .returned (.int .i64 8) ∧ w = w' := by
  have L := qlive_no h ok l h0 h1 hl
  go_enter Try.func32, Try.ntmps32
  go_wp2_with (go_at_call 38; refine L.mono ?_; rintro e w' ⟨rfl, rfl⟩)
  go_ret
  exact ⟨rfl, rfl⟩
def GiveP (p b1 b2 : Nat) (st : List Int) (n : Nat) (u : Int) (s : St) (w : World) (e : Ending) (w' : World) : Prop :=
  e = .returned (.int .i64 0) ∧ Core w' p b1 1 0 (.slice (some ⟨b2, 0, none⟩) st.length n) u s ∧ OwnP w' (.slice (some ⟨b2, 0, none⟩) st.length n) st ∧ Keep (fun k => k = p ∨ k = b1 ∨ k = b2) w w'
set_option maxHeartbeats 2000000 in
theorem qgive_wear (st : List Int) (h : Core w p b1 1 0 (.slice (some ⟨b2, 0, none⟩) st.length s.tags.length) u s) (o : OwnP w (.slice (some ⟨b2, 0, none⟩) st.length s.tags.length) st) (q1 : p ≠ b2) (q2 : b1 ≠ b2) (ok : Ok s) (hu0 : 1 ≤ u) (hu1 : u ≤ 4096) (hw1 : s.worn ≤ 4096)
    (i : Nat) (hi : i < s.tags.length) (ht : s.tk i = true) (hm : s.tag i = s.most) :
    Calls Try.prog 32 #[.pointer (some ⟨p, 0, none⟩), .int .u64 (s.link i)] w (GiveP p b1 b2 st s.tags.length (u - 1) { s with taken := s.taken.set i false, worn := s.worn + 1 } w) := by
  have n1 := ok.n1
  have w0 := ok.w0
  have g0 := h.c0
  have g1 := h.c1
  have g2 := h.c2
  have g3 := h.c3
  have z2 := h.fz 2
  have z3 := h.fz 3
  have gk := h.tk i hi
  have gt := h.tg i hi
  have zk := h.fb (i * 2 + 1)
  have hp1 := h.p1
  have tb := tag_bp ok i
  have L := qlive_yes h ok i hi ht
  have hmd := link_mod s i (by omega)
  have hlb := link_b ok i hi
  have a2 := ((h.setTk i false (by rw [ok.tl]; exact hi) ok.tl).setU (u - 1))
  obtain ⟨l, el⟩ : ∃ l, s.link i = l := ⟨_, rfl⟩
  rw [el] at hmd hlb L ⊢
  clear el
  have hu : uslot l = i := by unfold uslot; omega
  have hU := unlink_any l (by omega) (by omega) w
  rw [hu] at hU
  clear hmd hu
  rw [ht] at gk
  obtain ⟨t, et⟩ : ∃ x, s.tag i = x := ⟨_, rfl⟩
  rw [et] at gt hm tb
  rw [← hm] at g1
  clear hm et
  have X : ∀ q, Core ((((w.setCell ⟨b1, i * 2 + 1, none⟩ (.bool false)).setCell ⟨p, 2, none⟩ (.int .i64 (u - 1))).drewN q).setCell ⟨p, 3, none⟩ (.int .i64 (s.worn + 1))) p b1 1 0 (.slice (some ⟨b2, 0, none⟩) st.length s.tags.length) (u - 1) { s with taken := s.taken.set i false, worn := s.worn + 1 } :=
    fun q => (a2.keep (drewN_keep (fun _ => False) _ q) (by simp) (by simp)).setWorn (s.worn + 1)
  have KK : ∀ q, Keep (fun k => k = p ∨ k = b1) w ((((w.setCell ⟨b1, i * 2 + 1, none⟩ (.bool false)).setCell ⟨p, 2, none⟩ (.int .i64 (u - 1))).drewN q).setCell ⟨p, 3, none⟩ (.int .i64 (s.worn + 1))) :=
    fun q => ((((Keep.refl (fun k => k = p ∨ k = b1) w).setCell (p := ⟨b1, i * 2 + 1, none⟩) (.inr rfl) _).setCell (p := ⟨p, 2, none⟩) (.inl rfl) _).trans (drewN_keep _ _ q)).setCell (p := ⟨p, 3, none⟩) (.inl rfl) _
  clear a2 h
  go_enter Try.func32, Try.ntmps32
  go_wp2_with (first | (go_at_call 38; refine L.mono ?_; rintro e w' ⟨rfl, rfl⟩) | (go_at_call 39; refine hU.mono ?_; rintro e w' ⟨rfl, rfl⟩))
  go_quiet (fail)
  go_wp2
  go_ret
  exact ⟨rfl, X _, o.keep (KK _) (fun g hg e => by cases hg; rcases e with e | e; exact q1 e.symm; exact q2 e.symm), (KK _).mono (fun k hk => by rcases hk with hk | hk; exact .inl hk; exact .inr (.inl hk))⟩
theorem one_liesP (w : World) (i : Nat) : ∀ j u, [Value.int .i64 (i : Int)][j]? = some u → (w.alloc (.cells #[.int .i64 (i : Int)] 3)).cell? ((⟨w.heap.size, 0, none⟩ : Addr).add j) = some u := by
  intro j u hj
  match j, hj with
  | 0, hj => simp at hj; subst hj; simp [Addr.add]
set_option maxHeartbeats 2000000 in
theorem qgive_ok (st : List Int) (h : Core w p b1 1 0 (.slice (some ⟨b2, 0, none⟩) st.length s.tags.length) u s) (o : OwnP w (.slice (some ⟨b2, 0, none⟩) st.length s.tags.length) st) (q1 : p ≠ b2) (q2 : b1 ≠ b2) (ok : Ok s) (hu0 : 1 ≤ u) (hu1 : u ≤ 4096) (hst : st.length + 1 ≤ s.tags.length)
    (i : Nat) (hi : i < s.tags.length) (ht : s.tk i = true) (hm : s.tag i < s.most) :
    Calls Try.prog 32 #[.pointer (some ⟨p, 0, none⟩), .int .u64 (s.link i)] w (GiveP p b1 b2 (st ++ [(i : Int)]) s.tags.length (u - 1) { s with taken := s.taken.set i false, tags := s.tags.set i (s.tag i + 1), given := s.given ++ [(i : Int)] } w) := by
  have n1 := ok.n1
  have g0 := h.c0
  have g1 := h.c1
  have g2 := h.c2
  have g7 := h.c7
  have z2 := h.fz 2
  have z7 := h.fz 7
  have gk := h.tk i hi
  have gt := h.tg i hi
  have zk := h.fb (i * 2 + 1)
  have zt := h.fb (i * 2)
  have hp1 := h.p1
  have tb := tag_bp ok i
  have mb := ok.m1
  have L := qlive_yes h ok i hi ht
  have hmd := link_mod s i (by omega)
  have hlb := link_b ok i hi
  have lp := h.lp
  have l2 := o.lt rfl
  obtain ⟨l, el⟩ : ∃ l, s.link i = l := ⟨_, rfl⟩
  rw [el] at hmd hlb L ⊢
  clear el
  have hu : uslot l = i := by unfold uslot; omega
  have hU := unlink_any l (by omega) (by omega) w
  rw [hu] at hU
  clear hmd hu
  rw [ht] at gk
  obtain ⟨t, et⟩ : ∃ x, s.tag i = x := ⟨_, rfl⟩
  rw [et] at gt hm tb ⊢
  have nq' : (t == s.most) = false := by rw [beq_eq_false_iff_ne]; omega
  have X : ∀ q, Core ((((w.setCell ⟨b1, i * 2 + 1, none⟩ (.bool false)).setCell ⟨p, 2, none⟩ (.int .i64 (u - 1))).drewN q).setCell ⟨b1, i * 2, none⟩ (.int .i64 (t + 1))) p b1 1 0 (.slice (some ⟨b2, 0, none⟩) st.length s.tags.length) (u - 1) { s with taken := s.taken.set i false, tags := s.tags.set i (t + 1) } := by
    intro q
    have a := (((h.setTk i false (by rw [ok.tl]; exact hi) ok.tl).setU (u - 1)).keep (drewN_keep (fun _ => False) _ q) (by simp) (by simp)).setTag i (t + 1) hi
    exact a
  have KK : ∀ q, Keep (fun k => k = p ∨ k = b1) w ((((w.setCell ⟨b1, i * 2 + 1, none⟩ (.bool false)).setCell ⟨p, 2, none⟩ (.int .i64 (u - 1))).drewN q).setCell ⟨b1, i * 2, none⟩ (.int .i64 (t + 1))) :=
    fun q => ((((Keep.refl (fun k => k = p ∨ k = b1) w).setCell (p := ⟨b1, i * 2 + 1, none⟩) (.inr rfl) _).setCell (p := ⟨p, 2, none⟩) (.inl rfl) _).trans (drewN_keep _ _ q)).setCell (p := ⟨b1, i * 2, none⟩) (.inr rfl) _
  have OO : ∀ q, OwnP ((((w.setCell ⟨b1, i * 2 + 1, none⟩ (.bool false)).setCell ⟨p, 2, none⟩ (.int .i64 (u - 1))).drewN q).setCell ⟨b1, i * 2, none⟩ (.int .i64 (t + 1))) (.slice (some ⟨b2, 0, none⟩) st.length s.tags.length) st :=
    fun q => o.keep (KK q) (fun g hg e => by cases hg; rcases e with e | e; exact q1 e.symm; exact q2 e.symm)
  obtain ⟨i0, hi0, hz0, hz1, hz2⟩ := info_parts info_intP
  have ob : st.length ≤ 4096 := by omega
  clear et h o
  go_enter Try.func32, Try.ntmps32
  go_wp2_with (first | (go_at_call 38; refine L.mono ?_; rintro e w' ⟨rfl, rfl⟩) | (go_at_call 39; refine hU.mono ?_; rintro e w' ⟨rfl, rfl⟩))
  go_quiet (fail)
  go_wp2_with (with_reducible refine wp_stop 65 rfl ?_)
  intro _
  have X := X nq
  have KK := KK nq
  have OO := OO nq
  obtain ⟨x1, ex⟩ : ∃ x, ((((w.setCell ⟨b1, i * 2 + 1, none⟩ (.bool false)).setCell ⟨p, 2, none⟩ (.int .i64 (u - 1))).drewN nq).setCell ⟨b1, i * 2, none⟩ (.int .i64 (t + 1))) = x := ⟨_, rfl⟩
  rw [ex] at X KK OO ⊢
  have LI : ∀ j u, [Value.int .i64 (i : Int)][j]? = some u → (x1.alloc (.cells #[.int .i64 (i : Int)] 3)).cell? ((⟨w.heap.size, 0, none⟩ : Addr).add j) = some u := by
    have hs : x1.heap.size = w.heap.size := by rw [← ex]; simp
    have := one_liesP x1 i
    rwa [hs] at this
  have KA := KK.alloc (.cells #[.int .i64 (i : Int)] 3)
  have XA := X.keep (Keep.alloc (Keep.refl (fun _ => False) x1) (.cells #[.int .i64 (i : Int)] 3)) (by simp) (by simp)
  have OA : (x1.alloc (.cells #[.int .i64 (i : Int)] 3)).ownsRow 0 3 1 (.slice (some ⟨b2, 0, none⟩) st.length s.tags.length) st.length (st.map (Value.int .i64)) := OO.keep (Keep.alloc (Keep.refl (fun _ => False) x1) (.cells #[.int .i64 (i : Int)] 3)) (by simp)
  refine wpList_append_fits _ rfl (.tmp 62) (.tmp 64) 89 rfl 0 3 i0 1 Try.underlying89 hi0 hz1 b2 st.length s.tags.length (st.map (Value.int .i64)) rfl OA ⟨w.heap.size, 0, none⟩ 1 1 [.int .i64 (i : Int)] rfl rfl LI (by simp [Value.oneCell']) hst ?_
  intro x2 o2 gr2
  have K2 : Keep (fun k => k = b2) (x1.alloc (.cells #[.int .i64 (i : Int)] 3)) x2 := ⟨gr2.os, gr2.tape, gr2.output, gr2.size, fun k hk hn => gr2.block k hk (fun e => hn (by cases e; rfl))⟩
  have X2 := (XA.keep K2 q1 q2).setF (.slice (some ⟨b2, 0, none⟩) (st.length + 1) s.tags.length)
  have w6 := (XA.keep K2 q1 q2).c7
  have f6 := (XA.keep K2 q1 q2).fz 7
  have o3 : OwnP x2 (.slice (some ⟨b2, 0, none⟩) (st.length + 1) s.tags.length) (st ++ [(i : Int)]) := Own.of_base o2 (by simp) (by simp)
  have o4 := o3.keep (keep_one x2 ⟨p, 7, none⟩ (.slice (some ⟨b2, 0, none⟩) (st.length + 1) s.tags.length)) (fun g hg e => by cases hg; exact q1 e.symm)
  have K3 := ((KA.mono (T := fun k => k = p ∨ k = b1 ∨ k = b2) (fun k hk => by rcases hk with hk | hk; exact .inl hk; exact .inr (.inl hk))).trans (K2.mono (fun k hk => .inr (.inr hk)))).setCell (p := ⟨p, 7, none⟩) (.inl rfl) (.slice (some ⟨b2, 0, none⟩) (st.length + 1) s.tags.length)
  have P : Core (x2.setCell ⟨p, 7, none⟩ (.slice (some ⟨b2, 0, none⟩) (st.length + 1) s.tags.length)) p b1 1 0 (.slice (some ⟨b2, 0, none⟩) (st ++ [(i : Int)]).length s.tags.length) (u - 1) { s with taken := s.taken.set i false, tags := s.tags.set i (t + 1), given := s.given ++ [(i : Int)] } ∧ OwnP (x2.setCell ⟨p, 7, none⟩ (.slice (some ⟨b2, 0, none⟩) (st.length + 1) s.tags.length)) (.slice (some ⟨b2, 0, none⟩) (st ++ [(i : Int)]).length s.tags.length) (st ++ [(i : Int)]) ∧ Keep (fun k => k = p ∨ k = b1 ∨ k = b2) w (x2.setCell ⟨p, 7, none⟩ (.slice (some ⟨b2, 0, none⟩) (st.length + 1) s.tags.length)) := by
    rw [show (st ++ [(i : Int)]).length = st.length + 1 by simp]
    exact ⟨X2.cutGiven _, o4, K3⟩
  clear LI X2 o4 K3 o3 K2 gr2 o2 OA XA KA OO KK X ex
  go_wp2
  go_ret
  exact ⟨rfl, P⟩
end
end Go.Proofs.Ytagboodnbgpnkaa
