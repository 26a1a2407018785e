/- Package model as landed, in memory: commit, execute. Condition: at most 100,000 versions of a key. -/
import Derived.Test.YtkkjofefjepodaaLdZ
import Derived.Test.YtkkjofefjepodaaLdO
import Derived.Test.YtkkjofefjepodaaLdP
namespace Go.Proofs.Ytkkjofefjepodaa
open Go.ChangeShapes Go.WideShapes Go.ChangeAt Go.RowKit
set_option linter.unusedVariables false
set_option linter.unusedSimpArgs false
section
variable {w w' w2 : World} {m g n c : Nat} {K : Nat → Value} {o : Nat → Nat} {z : LdI} {T : Nat → Prop} {F : Nat → FtI} {P : VeI → Bool} {t : TtI} {fv : Value} {l : List VeI}
set_option maxRecDepth 100000 in
theorem commit_late (h : LdAt w m K o z) {i : Nat} (hi : i < 8) (ht : z.s i = some t) (hx : (z.F t.f).st = 1) (hl : z.limit = z.clock) :
    Calls Try.prog 73 #[.pointer (some ⟨m, 0, none⟩), .pointer (some ⟨t.b, 0, none⟩)] w (LdRes w m K o (MoI.bad 6) { z with F := updF z.F t.f ⟨4, 0⟩ }) := by
  obtain ⟨M, eM, rb, kM⟩ := res_box w; have hM := h.quiet kM; have ON := Lib.hid (show ∀ g, o g ≠ 0 → g ≠ w.heap.size from fun g hg e => by have := h.lt g hg; omega); obtain ⟨N, eN⟩ : ∃ N, w.heap.size = N := ⟨_, rfl⟩; rw [eN] at rb ON; have KM := Lib.hid kM; have HM := Lib.hid hM; have RB := Lib.hid rb; have EN := Lib.hid eN; have HT := Lib.hid ht; have OT := Lib.hid (h.oT i t hi ht); have OM := Lib.hid h.om; have hfN : ¬ N = t.f := fun e => ON.out t.f (by rw [OT.out.2]; decide) e.symm; have hmN : ¬ N = m := fun e => ON.out m (by rw [OM.out]; decide) e.symm
  have D := draw_no hM hl
  have AB := Lib.hid fun w1 (k1 : Keep (fun _ => False) M w1) => abort_any (hM.quiet k1) hi ht hx 6
  clear h hM kM rb ht hx hl
  unfold LdRes reV MoI.bad
  dsimp only
  go_enter Try.func73, Try.ntmps73
  go_wp2_with fail
  refine D.mono ?_
  rintro e w1 ⟨rfl, k1⟩
  clear D eM
  have AB := AB.out w1 k1
  have K1 := Lib.hid k1
  clear k1
  go_wp2_with fail
  refine AB.mono ?_
  rintro e w4 ⟨rfl, a4, k4⟩
  clear AB
  have R6 := Lib.hid ((RB.out.keep K1.out id).keep k4 hfN)
  obtain ⟨q0, q1, q2, q3, q4, q5⟩ := R6.out
  have A4 := Lib.hid a4
  have K4 := Lib.hid k4
  clear a4 k4
  unfold reV MoI.bad
  dsimp only
  go_wp2
  (obtain ⟨W7, eW7⟩ : ∃ W7, (((((w4.setCell ⟨N, 0, none⟩ (.int .i64 14)).setCell ⟨N, 1, none⟩ (.int .i64 0)).setCell ⟨N, 2, none⟩ (.slice none 0 0)).setCell ⟨N, 3, none⟩ (.int .i64 4)).setCell ⟨N, 4, none⟩ (.int .i64 6)) = W7 := ⟨_, rfl⟩; obtain ⟨⟨v0, v1, v2, v3, v4, _⟩, k7⟩ := res_set R6.out _ _ _ _ _ eW7; rw [eW7]; refine bodyPost_ret (v := .agg #[.int .i64 14, .int .i64 0, .slice none 0 0, .int .i64 4, .int .i64 6]) (by simp [results, Try.results73, go_sem, v0, v1, v2, v3, v4]) rfl ⟨rfl, ?_⟩)
  refine ⟨A4.out.keep k7 (fun g hg e => ON.out g hg e), (((KM.out.trans K1.out).trans' (K4.out.mono fun g e => ?_)).older' k7 (by rw [EN.out]; exact Nat.le_refl _))⟩
  have e : g = t.f := e
  rw [e, OT.out.2]; decide
def tickL (z : LdI) : LdI := { z with clock := z.clock + 1 }
set_option maxRecDepth 100000 in
theorem commit_bad (h : LdAt w m K o z) {i : Nat} (hi : i < 8) (ht : z.s i = some t) (hx : (z.F t.f).st = 1) (hl : z.limit ≠ z.clock) (h0 : 0 ≤ z.clock) (h1 : z.clock ≤ z.limit) (h2 : z.limit ≤ 1099511627776) (hk : ∀ k, k < 64 → (z.k k).length ≤ 100000) (hv : holdsL (tickL z) t (z.clock + 1) = false) :
    Calls Try.prog 73 #[.pointer (some ⟨m, 0, none⟩), .pointer (some ⟨t.b, 0, none⟩)] w (LdRes w m K o (MoI.bad 3) { tickL z with F := updF z.F t.f ⟨4, 0⟩ }) := by
  obtain ⟨M, eM, rb, kM⟩ := res_box w; have hM := h.quiet kM; have ON := Lib.hid (show ∀ g, o g ≠ 0 → g ≠ w.heap.size from fun g hg e => by have := h.lt g hg; omega); obtain ⟨N, eN⟩ : ∃ N, w.heap.size = N := ⟨_, rfl⟩; rw [eN] at rb ON; have KM := Lib.hid kM; have HM := Lib.hid hM; have RB := Lib.hid rb; have EN := Lib.hid eN; have HT := Lib.hid ht; have OT := Lib.hid (h.oT i t hi ht); have OM := Lib.hid h.om; have hfN : ¬ N = t.f := fun e => ON.out t.f (by rw [OT.out.2]; decide) e.symm; have hmN : ¬ N = m := fun e => ON.out m (by rw [OM.out]; decide) e.symm
  have AB := Lib.hid fun w1 (a1 : LdAt w1 m K o (tickL z)) => abort_any a1 hi ht hx 3
  have D := draw_yes hM hl h0 h1 h2; have HH := Lib.hid fun w1 (a1 : LdAt w1 m K o (tickL z)) => holds_any a1 hi ht hk (z.clock + 1); obtain ⟨cl, ecl⟩ : ∃ cl, z.clock + 1 = cl := ⟨_, rfl⟩; rw [hv] at HH; rw [ecl] at D HH; clear h hM kM rb ht hx hl h0 h1 h2 hk hv
  unfold LdRes reV MoI.bad
  dsimp only
  go_enter Try.func73, Try.ntmps73; go_wp2_with fail; refine D.mono ?_; rintro e w1 ⟨rfl, a1, k1⟩; clear D eM; rw [← ecl] at a1; have HH := HH.out w1 a1; have A1 := Lib.hid a1; have K1 := Lib.hid k1; have R1 := Lib.hid (RB.out.keep k1 hmN); clear k1 a1; go_wp2_with fail; refine HH.mono ?_; rintro e w2 ⟨rfl, k2⟩; clear HH
  have AB := AB.out w2 (A1.out.quiet k2)
  have K2 := Lib.hid k2
  clear k2
  go_wp2_with fail
  refine AB.mono ?_
  rintro e w4 ⟨rfl, a4, k4⟩
  clear AB
  have R6 := Lib.hid ((R1.out.keep K2.out id).keep k4 hfN)
  obtain ⟨q0, q1, q2, q3, q4, q5⟩ := R6.out
  have A4 := Lib.hid a4
  have K4 := Lib.hid k4
  clear a4 k4
  unfold reV MoI.bad
  dsimp only
  go_wp2
  (obtain ⟨W7, eW7⟩ : ∃ W7, (((((w4.setCell ⟨N, 0, none⟩ (.int .i64 14)).setCell ⟨N, 1, none⟩ (.int .i64 0)).setCell ⟨N, 2, none⟩ (.slice none 0 0)).setCell ⟨N, 3, none⟩ (.int .i64 4)).setCell ⟨N, 4, none⟩ (.int .i64 3)) = W7 := ⟨_, rfl⟩; obtain ⟨⟨v0, v1, v2, v3, v4, _⟩, k7⟩ := res_set R6.out _ _ _ _ _ eW7; rw [eW7]; refine bodyPost_ret (v := .agg #[.int .i64 14, .int .i64 0, .slice none 0 0, .int .i64 4, .int .i64 3]) (by simp [results, Try.results73, go_sem, v0, v1, v2, v3, v4]) rfl ⟨rfl, ?_⟩)
  refine ⟨A4.out.keep k7 (fun g hg e => ON.out g hg e), ((((KM.out.trans' (K1.out.mono fun g e => ?_)).trans (K2.out.mono fun _ e => e.elim)).trans (K4.out.mono fun g e => ?_)).older' k7 (by rw [EN.out]; exact Nat.le_refl _))⟩
  · have e : g = m := e
    rw [e, OM.out]; decide
  · have e : g = t.f := e
    rw [e, OT.out.2]; decide
set_option maxRecDepth 100000 in
theorem commit_ok (h : LdAt w m K o z) {i : Nat} (hi : i < 8) (ht : z.s i = some t) (hx : (z.F t.f).st = 1) (hl : z.limit ≠ z.clock) (h0 : 0 ≤ z.clock) (h1 : z.clock ≤ z.limit) (h2 : z.limit ≤ 1099511627776) (hk : ∀ k, k < 64 → (z.k k).length ≤ 100000) (hv : holdsL (tickL z) t (z.clock + 1) = true) :
    Calls Try.prog 73 #[.pointer (some ⟨m, 0, none⟩), .pointer (some ⟨t.b, 0, none⟩)] w (LdRes w m K o ⟨0, 0, [], 3, 0⟩ { tickL z with F := updF z.F t.f ⟨3, z.clock + 1⟩ }) := by
  obtain ⟨M, eM, rb, kM⟩ := res_box w; have hM := h.quiet kM; have ON := Lib.hid (show ∀ g, o g ≠ 0 → g ≠ w.heap.size from fun g hg e => by have := h.lt g hg; omega); obtain ⟨N, eN⟩ : ∃ N, w.heap.size = N := ⟨_, rfl⟩; rw [eN] at rb ON; have KM := Lib.hid kM; have HM := Lib.hid hM; have RB := Lib.hid rb; have EN := Lib.hid eN; have HT := Lib.hid ht; have OT := Lib.hid (h.oT i t hi ht); have OM := Lib.hid h.om; have hfN : ¬ N = t.f := fun e => ON.out t.f (by rw [OT.out.2]; decide) e.symm; have hmN : ¬ N = m := fun e => ON.out m (by rw [OM.out]; decide) e.symm
  have TT := Lib.hid fun w1 (a1 : LdAt w1 m K o (tickL z)) => a1.t i t hi ht
  have PB := Lib.hid fun w1 (a1 : LdAt w1 m K o (tickL z)) => publish_any (a1.tf hi ht) hx 3 (z.clock + 1) (by decide)
  have D := draw_yes hM hl h0 h1 h2; have HH := Lib.hid fun w1 (a1 : LdAt w1 m K o (tickL z)) => holds_any a1 hi ht hk (z.clock + 1); obtain ⟨cl, ecl⟩ : ∃ cl, z.clock + 1 = cl := ⟨_, rfl⟩; rw [hv] at HH; rw [ecl] at D HH; clear h hM kM rb ht hx hl h0 h1 h2 hk hv
  rw [ecl] at PB
  unfold LdRes reV
  dsimp only
  rw [ecl]
  go_enter Try.func73, Try.ntmps73; go_wp2_with fail; refine D.mono ?_; rintro e w1 ⟨rfl, a1, k1⟩; clear D eM; rw [← ecl] at a1; have HH := HH.out w1 a1; have A1 := Lib.hid a1; have K1 := Lib.hid k1; have R1 := Lib.hid (RB.out.keep k1 hmN); clear k1 a1; go_wp2_with fail; refine HH.mono ?_; rintro e w2 ⟨rfl, k2⟩; clear HH
  have A2 := Lib.hid (A1.out.quiet k2)
  have PB := PB.out w2 A2.out
  have cf := (TT.out w2 A2.out).cf
  have K2 := Lib.hid k2
  clear k2
  go_wp2_with fail
  refine PB.mono ?_
  rintro e w4 ⟨rfl, f4, k4⟩
  clear PB cf
  have A4 := Lib.hid (A2.out.fate OT.out.2 k4 f4)
  have R6 := Lib.hid ((R1.out.keep K2.out id).keep k4 hfN)
  obtain ⟨q0, q1, q2, q3, q4, q5⟩ := R6.out
  have K4 := Lib.hid k4
  clear f4 k4
  go_wp2
  (obtain ⟨W7, eW7⟩ : ∃ W7, (((((w4.setCell ⟨N, 0, none⟩ (.int .i64 0)).setCell ⟨N, 1, none⟩ (.int .i64 0)).setCell ⟨N, 2, none⟩ (.slice none 0 0)).setCell ⟨N, 3, none⟩ (.int .i64 3)).setCell ⟨N, 4, none⟩ (.int .i64 0)) = W7 := ⟨_, rfl⟩; obtain ⟨⟨v0, v1, v2, v3, v4, _⟩, k7⟩ := res_set R6.out _ _ _ _ _ eW7; rw [eW7]; refine bodyPost_ret (v := .agg #[.int .i64 0, .int .i64 0, .slice none 0 0, .int .i64 3, .int .i64 0]) (by simp [results, Try.results73, go_sem, v0, v1, v2, v3, v4]) rfl ⟨rfl, ?_⟩)
  refine ⟨A4.out.keep k7 (fun g hg e => ON.out g hg e), ((((KM.out.trans' (K1.out.mono fun g e => ?_)).trans (K2.out.mono fun _ e => e.elim)).trans (K4.out.mono fun g e => ?_)).older' k7 (by rw [EN.out]; exact Nat.le_refl _))⟩
  · have e : g = m := e
    rw [e, OM.out]; decide
  · have e : g = t.f := e
    rw [e, OT.out.2]; decide
end
end Go.Proofs.Ytkkjofefjepodaa
