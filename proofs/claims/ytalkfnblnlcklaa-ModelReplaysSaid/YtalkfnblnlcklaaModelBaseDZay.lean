/- Several texts, one behind the other: LdE, LdQ, LdK. -/
import Derived.Test.YtalkfnblnlcklaaModelBaseDZav
import Derived.Test.YtalkfnblnlcklaaModelBaseDZax
/- Package model as landed, in memory: commit, execute. Condition: at most 100,000 versions of a key. -/
namespace Go.Proofs.Ytalkfnblnlcklaa
open Go.ChangeShapes Go.WideShapes Go.ChangeAt Go.RowKit
set_option linter.unusedVariables false
set_option linter.unusedSimpArgs false
section
variable {w w' w2 : World} {m g n c : Nat} {K : Nat → Value} {o : Nat → Nat} {z : LdI} {T : Nat → Prop} {F : Nat → FtI} {P : VeI → Bool} {t : TtI} {fv : Value} {l : List VeI}
set_option maxRecDepth 100000 in
theorem commit_late (h : LdAt w m K o z) {i : Nat} (hi : i < 8) (ht : z.s i = some t) (hx : (z.F t.f).st = 1) (hl : z.limit = z.clock) :
  Calls Try.prog 50 #[.pointer (some ⟨m, 0, none⟩), .pointer (some ⟨t.b, 0, none⟩)] w (LdRes w m K o (MoI.bad 6) { z with F := updF z.F t.f ⟨4, 0⟩ }) := by
 obtain ⟨M, eM, rb, kM⟩ := res_box w; have hM := h.quiet kM; have ON := Lib.hid (show ∀ g, o g ≠ 0 → g ≠ w.heap.size from fun g hg e => by have := h.lt g hg; omega); obtain ⟨N, eN⟩ : ∃ N, w.heap.size = N := ⟨_, rfl⟩; rw [eN] at rb ON; have KM := Lib.hid kM; have HM := Lib.hid hM; have RB := Lib.hid rb; have EN := Lib.hid eN; have HT := Lib.hid ht; have OT := Lib.hid (h.oT i t hi ht); have OM := Lib.hid h.om; have hfN : ¬ N = t.f := fun e => ON.out t.f (by rw [OT.out.2]; decide) e.symm; have hmN : ¬ N = m := fun e => ON.out m (by rw [OM.out]; decide) e.symm
 have D := draw_no hM hl
 have AB := Lib.hid fun w1 (k1 : Keep (fun _ => False) M w1) => abort_any (hM.quiet k1) hi ht hx 6
 clear h hM kM rb ht hx hl
 unfold LdRes reV MoI.bad
 dsimp only
 go_enter Try.func50, Try.ntmps50
 go_wp2_with fail
 refine D.mono ?_
 rintro e w1 ⟨rfl, k1⟩
 clear D eM
 have AB := AB.out w1 k1
 have K1 := Lib.hid k1
 clear k1
 go_wp2_with fail
 refine AB.mono ?_
 rintro e w4 ⟨rfl, a4, k4⟩
 clear AB
 have R6 := Lib.hid ((RB.out.keep K1.out id).keep k4 hfN)
 obtain ⟨q0, q1, q2, q3, q4, q5⟩ := R6.out
 have A4 := Lib.hid a4
 have K4 := Lib.hid k4
 clear a4 k4
 unfold reV MoI.bad
 dsimp only
 go_wp2
 (obtain ⟨W7, eW7⟩ : ∃ W7, (((((w4.setCell ⟨N, 0, none⟩ (.int .i64 14)).setCell ⟨N, 1, none⟩ (.int .i64 0)).setCell ⟨N, 2, none⟩ (.slice none 0 0)).setCell ⟨N, 3, none⟩ (.int .i64 4)).setCell ⟨N, 4, none⟩ (.int .i64 6)) = W7 := ⟨_, rfl⟩; obtain ⟨⟨v0, v1, v2, v3, v4, _⟩, k7⟩ := res_set R6.out _ _ _ _ _ eW7; rw [eW7]; refine bodyPost_ret (v := .agg #[.int .i64 14, .int .i64 0, .slice none 0 0, .int .i64 4, .int .i64 6]) (by simp [results, Try.results50, go_sem, v0, v1, v2, v3, v4]) rfl ⟨rfl, ?_⟩)
 refine ⟨A4.out.keep k7 (fun g hg e => ON.out g hg e), (((KM.out.trans K1.out).trans' (K4.out.mono fun g e => ?_)).older' k7 (by rw [EN.out]; exact Nat.le_refl _))⟩
 have e : g = t.f := e
 rw [e, OT.out.2]; decide
def tickL (z : LdI) : LdI := { z with clock := z.clock + 1 }
set_option maxRecDepth 100000 in
theorem commit_bad (h : LdAt w m K o z) {i : Nat} (hi : i < 8) (ht : z.s i = some t) (hx : (z.F t.f).st = 1) (hl : z.limit ≠ z.clock) (h0 : 0 ≤ z.clock) (h1 : z.clock ≤ z.limit) (h2 : z.limit ≤ 1099511627776) (hk : ∀ k, k < 64 → (z.k k).length ≤ 100000) (hv : holdsL (tickL z) t (z.clock + 1) = false) :
  Calls Try.prog 50 #[.pointer (some ⟨m, 0, none⟩), .pointer (some ⟨t.b, 0, none⟩)] w (LdRes w m K o (MoI.bad 3) { tickL z with F := updF z.F t.f ⟨4, 0⟩ }) := by
 obtain ⟨M, eM, rb, kM⟩ := res_box w; have hM := h.quiet kM; have ON := Lib.hid (show ∀ g, o g ≠ 0 → g ≠ w.heap.size from fun g hg e => by have := h.lt g hg; omega); obtain ⟨N, eN⟩ : ∃ N, w.heap.size = N := ⟨_, rfl⟩; rw [eN] at rb ON; have KM := Lib.hid kM; have HM := Lib.hid hM; have RB := Lib.hid rb; have EN := Lib.hid eN; have HT := Lib.hid ht; have OT := Lib.hid (h.oT i t hi ht); have OM := Lib.hid h.om; have hfN : ¬ N = t.f := fun e => ON.out t.f (by rw [OT.out.2]; decide) e.symm; have hmN : ¬ N = m := fun e => ON.out m (by rw [OM.out]; decide) e.symm
 have AB := Lib.hid fun w1 (a1 : LdAt w1 m K o (tickL z)) => abort_any a1 hi ht hx 3
 have D := draw_yes hM hl h0 h1 h2; have HH := Lib.hid fun w1 (a1 : LdAt w1 m K o (tickL z)) => holds_any a1 hi ht hk (z.clock + 1); obtain ⟨cl, ecl⟩ : ∃ cl, z.clock + 1 = cl := ⟨_, rfl⟩; rw [hv] at HH; rw [ecl] at D HH; clear h hM kM rb ht hx hl h0 h1 h2 hk hv
 unfold LdRes reV MoI.bad
 dsimp only
 go_enter Try.func50, Try.ntmps50; go_wp2_with fail; refine D.mono ?_; rintro e w1 ⟨rfl, a1, k1⟩; clear D eM; rw [← ecl] at a1; have HH := HH.out w1 a1; have A1 := Lib.hid a1; have K1 := Lib.hid k1; have R1 := Lib.hid (RB.out.keep k1 hmN); clear k1 a1; go_wp2_with fail; refine HH.mono ?_; rintro e w2 ⟨rfl, k2⟩; clear HH
 have AB := AB.out w2 (A1.out.quiet k2)
 have K2 := Lib.hid k2
 clear k2
 go_wp2_with fail
 refine AB.mono ?_
 rintro e w4 ⟨rfl, a4, k4⟩
 clear AB
 have R6 := Lib.hid ((R1.out.keep K2.out id).keep k4 hfN)
 obtain ⟨q0, q1, q2, q3, q4, q5⟩ := R6.out
 have A4 := Lib.hid a4
 have K4 := Lib.hid k4
 clear a4 k4
 unfold reV MoI.bad
 dsimp only
 go_wp2
 (obtain ⟨W7, eW7⟩ : ∃ W7, (((((w4.setCell ⟨N, 0, none⟩ (.int .i64 14)).setCell ⟨N, 1, none⟩ (.int .i64 0)).setCell ⟨N, 2, none⟩ (.slice none 0 0)).setCell ⟨N, 3, none⟩ (.int .i64 4)).setCell ⟨N, 4, none⟩ (.int .i64 3)) = W7 := ⟨_, rfl⟩; obtain ⟨⟨v0, v1, v2, v3, v4, _⟩, k7⟩ := res_set R6.out _ _ _ _ _ eW7; rw [eW7]; refine bodyPost_ret (v := .agg #[.int .i64 14, .int .i64 0, .slice none 0 0, .int .i64 4, .int .i64 3]) (by simp [results, Try.results50, go_sem, v0, v1, v2, v3, v4]) rfl ⟨rfl, ?_⟩)
 refine ⟨A4.out.keep k7 (fun g hg e => ON.out g hg e), ((((KM.out.trans' (K1.out.mono fun g e => ?_)).trans (K2.out.mono fun _ e => e.elim)).trans (K4.out.mono fun g e => ?_)).older' k7 (by rw [EN.out]; exact Nat.le_refl _))⟩
 ·have e : g = m := e
  rw [e, OM.out]; decide
 ·have e : g = t.f := e
  rw [e, OT.out.2]; decide
set_option maxRecDepth 100000 in
theorem commit_ok (h : LdAt w m K o z) {i : Nat} (hi : i < 8) (ht : z.s i = some t) (hx : (z.F t.f).st = 1) (hl : z.limit ≠ z.clock) (h0 : 0 ≤ z.clock) (h1 : z.clock ≤ z.limit) (h2 : z.limit ≤ 1099511627776) (hk : ∀ k, k < 64 → (z.k k).length ≤ 100000) (hv : holdsL (tickL z) t (z.clock + 1) = true) :
  Calls Try.prog 50 #[.pointer (some ⟨m, 0, none⟩), .pointer (some ⟨t.b, 0, none⟩)] w (LdRes w m K o ⟨0, 0, [], 3, 0⟩ { tickL z with F := updF z.F t.f ⟨3, z.clock + 1⟩ }) := by
 obtain ⟨M, eM, rb, kM⟩ := res_box w; have hM := h.quiet kM; have ON := Lib.hid (show ∀ g, o g ≠ 0 → g ≠ w.heap.size from fun g hg e => by have := h.lt g hg; omega); obtain ⟨N, eN⟩ : ∃ N, w.heap.size = N := ⟨_, rfl⟩; rw [eN] at rb ON; have KM := Lib.hid kM; have HM := Lib.hid hM; have RB := Lib.hid rb; have EN := Lib.hid eN; have HT := Lib.hid ht; have OT := Lib.hid (h.oT i t hi ht); have OM := Lib.hid h.om; have hfN : ¬ N = t.f := fun e => ON.out t.f (by rw [OT.out.2]; decide) e.symm; have hmN : ¬ N = m := fun e => ON.out m (by rw [OM.out]; decide) e.symm
 have TT := Lib.hid fun w1 (a1 : LdAt w1 m K o (tickL z)) => a1.t i t hi ht
 have PB := Lib.hid fun w1 (a1 : LdAt w1 m K o (tickL z)) => publish_any (a1.tf hi ht) hx 3 (z.clock + 1) (by decide)
 have D := draw_yes hM hl h0 h1 h2; have HH := Lib.hid fun w1 (a1 : LdAt w1 m K o (tickL z)) => holds_any a1 hi ht hk (z.clock + 1); obtain ⟨cl, ecl⟩ : ∃ cl, z.clock + 1 = cl := ⟨_, rfl⟩; rw [hv] at HH; rw [ecl] at D HH; clear h hM kM rb ht hx hl h0 h1 h2 hk hv
 rw [ecl] at PB
 unfold LdRes reV
 dsimp only
 rw [ecl]
 go_enter Try.func50, Try.ntmps50; go_wp2_with fail; refine D.mono ?_; rintro e w1 ⟨rfl, a1, k1⟩; clear D eM; rw [← ecl] at a1; have HH := HH.out w1 a1; have A1 := Lib.hid a1; have K1 := Lib.hid k1; have R1 := Lib.hid (RB.out.keep k1 hmN); clear k1 a1; go_wp2_with fail; refine HH.mono ?_; rintro e w2 ⟨rfl, k2⟩; clear HH
 have A2 := Lib.hid (A1.out.quiet k2)
 have PB := PB.out w2 A2.out
 have cf := (TT.out w2 A2.out).cf
 have K2 := Lib.hid k2
 clear k2
 go_wp2_with fail
 refine PB.mono ?_
 rintro e w4 ⟨rfl, f4, k4⟩
 clear PB cf
 have A4 := Lib.hid (A2.out.fate OT.out.2 k4 f4)
 have R6 := Lib.hid ((R1.out.keep K2.out id).keep k4 hfN)
 obtain ⟨q0, q1, q2, q3, q4, q5⟩ := R6.out
 have K4 := Lib.hid k4
 clear f4 k4
 go_wp2
 (obtain ⟨W7, eW7⟩ : ∃ W7, (((((w4.setCell ⟨N, 0, none⟩ (.int .i64 0)).setCell ⟨N, 1, none⟩ (.int .i64 0)).setCell ⟨N, 2, none⟩ (.slice none 0 0)).setCell ⟨N, 3, none⟩ (.int .i64 3)).setCell ⟨N, 4, none⟩ (.int .i64 0)) = W7 := ⟨_, rfl⟩; obtain ⟨⟨v0, v1, v2, v3, v4, _⟩, k7⟩ := res_set R6.out _ _ _ _ _ eW7; rw [eW7]; refine bodyPost_ret (v := .agg #[.int .i64 0, .int .i64 0, .slice none 0 0, .int .i64 3, .int .i64 0]) (by simp [results, Try.results50, go_sem, v0, v1, v2, v3, v4]) rfl ⟨rfl, ?_⟩)
 refine ⟨A4.out.keep k7 (fun g hg e => ON.out g hg e), ((((KM.out.trans' (K1.out.mono fun g e => ?_)).trans (K2.out.mono fun _ e => e.elim)).trans (K4.out.mono fun g e => ?_)).older' k7 (by rw [EN.out]; exact Nat.le_refl _))⟩
 ·have e : g = m := e
  rw [e, OM.out]; decide
 ·have e : g = t.f := e
  rw [e, OT.out.2]; decide
end
end Go.Proofs.Ytalkfnblnlcklaa
/- Package model as landed, in memory: execute. Condition: at most 100,000 versions of a key. -/
namespace Go.Proofs.Ytalkfnblnlcklaa
open Go.ChangeShapes Go.WideShapes Go.ChangeAt Go.RowKit
set_option linter.unusedVariables false
set_option linter.unusedSimpArgs false
section
variable {w w' w2 : World} {m g n c : Nat} {K : Nat → Value} {o : Nat → Nat} {z : LdI} {T : Nat → Prop} {F : Nat → FtI} {P : VeI → Bool} {t : TtI} {fv : Value} {l : List VeI}
def opsT (t : TtI) : TtI := { t with ops := t.ops + 1 }
set_option maxRecDepth 100000 in
set_option maxHeartbeats 2000000 in
theorem exec_commit (h : LdAt w m K o z) {i : Nat} (hi : i < 8) (ht : z.s i = some t) (key hi' val : Int) (r : ReI) (Zs : LdI → Prop)
  (hP : ∀ w1, LdAt w1 m K o z → Calls Try.prog 50 #[.pointer (some ⟨m, 0, none⟩), .pointer (some ⟨t.b, 0, none⟩)] w1 (LdEnd w1 m o r Zs)) :
  Calls Try.prog 38 #[.pointer (some ⟨m, 0, none⟩), .pointer (some ⟨t.b, 0, none⟩), opV ⟨6, key, hi', val⟩] w (LdEnd w m o r Zs) := by
 obtain ⟨kind, hkind⟩ : ∃ kind : Int, kind = 6 := ⟨_, rfl⟩
 rw [← hkind]
 obtain ⟨W1, eW1, ob, kW1⟩ := op_box w ⟨kind, key, hi', val⟩; obtain ⟨M, eM, rb, kM0⟩ := res_box W1; have kM := kW1.trans kM0; have ob := ob.keep kM0 id; have hM := h.quiet kM; have ONA := Lib.hid (show ∀ g, o g ≠ 0 → g < w.heap.size from h.lt); obtain ⟨N1, eN1⟩ : ∃ N1, w.heap.size = N1 := ⟨_, rfl⟩; obtain ⟨N, eN⟩ : ∃ N, W1.heap.size = N := ⟨_, rfl⟩; have hNN : N = N1 + 1 := (by rw [← eN, ← eW1, ← eN1]; simp); rw [eN1] at ob ONA; rw [eN] at rb; have OND := Lib.hid (show ∀ g, o g ≠ 0 → g ≠ N from fun g hg e => by have := ONA.out g hg; omega); have ON1 := Lib.hid (show ∀ g, o g ≠ 0 → g ≠ N1 from fun g hg e => by have := ONA.out g hg; omega); have NN := Lib.hid hNN; have KM := Lib.hid kM; have HM := Lib.hid hM; have RB := Lib.hid rb; have OB := Lib.hid ob; have EN := Lib.hid eN1; have OT := Lib.hid (h.oT i t hi ht); have NM := Lib.hid (lt_of_cell rb.r0); clear hNN
 have PP := hP M hM
 have d6 : (kind == 6) = true := by simpa using hkind
 obtain ⟨re, rv, rp, ro, rs⟩ := r
 obtain ⟨oa, ob, oc, od⟩ := ob
 have R5 := RB
 have KX : RowKit.Hid (Keep (fun g => o g ≠ 0) M M) := Lib.hid (Keep.refl _ _)
 unfold opV
 dsimp only at *
 clear h kM hM rb ht kM0 kW1 hkind hP
 go_enter Try.func38, Try.ntmps38
 go_wp2_with fail
 refine PP.mono ?_
 clear eM eW1 oa ob oc od
 rintro e w4 ⟨u4, z', K', o', rfl, hz, ou, og, a4, k4, n4⟩; clear PP; obtain ⟨A5, n5, c5, rfl⟩ := ownM_shape ou; have R6 := Lib.hid (R5.out.keep k4 (fun e => OND.out N e rfl)); obtain ⟨q0, q1, q2, q3, q4, q5⟩ := R6.out; have A4 := Lib.hid a4; have K4 := Lib.hid k4; have N4 := Lib.hid n4; have OU := Lib.hid ou; have OG := Lib.hid og; have HZ := Lib.hid hz; clear a4 k4 n4 ou og hz; unfold reV; dsimp only; go_wp2; (obtain ⟨W7, eW7⟩ : ∃ W7, (((((w4.setCell ⟨N, 0, none⟩ (.int .i64 re)).setCell ⟨N, 1, none⟩ (.int .i64 rv)).setCell ⟨N, 2, none⟩ (.slice A5 n5 c5)).setCell ⟨N, 3, none⟩ (.int .i64 ro)).setCell ⟨N, 4, none⟩ (.int .i64 rs)) = W7 := ⟨_, rfl⟩; obtain ⟨⟨v0, v1, v2, v3, v4, _⟩, k7⟩ := res_set R6.out _ _ _ _ _ eW7; rw [eW7]; refine bodyPost_ret (v := .agg #[.int .i64 re, .int .i64 rv, .slice A5 n5 c5, .int .i64 ro, .int .i64 rs]) (by simp [results, Try.results38, go_sem, v0, v1, v2, v3, v4]) rfl ?_); exact ⟨_, z', K', o', rfl, HZ.out, OU.out.keep k7 (fun g hg e => by have e : g = N := e; have := (OG.out g hg).1; have q : N < M.heap.size := NM.out; have := KX.out.size; omega), (fun g hg => ⟨Nat.le_trans (KM.out.trans' KX.out).size (OG.out g hg).1, (OG.out g hg).2⟩), A4.out.keep k7 (fun g hg e => by have e : g = N := e; rcases N4.out g hg with a | a; exact OND.out g a e; have q : N < M.heap.size := NM.out; have := KX.out.size; omega), (((KM.out.trans' KX.out).trans K4.out).older' k7 (by rw [EN.out]; have := NN.out; omega)), (fun g hg => (N4.out g hg).imp id (Nat.le_trans (KM.out.trans' KX.out).size))⟩
set_option maxRecDepth 100000 in
set_option maxHeartbeats 2000000 in
theorem exec_get (h : LdAt w m K o z) {i : Nat} (hi : i < 8) (ht : z.s i = some t) (key hi' val : Int) (ho : 0 ≤ t.ops ∧ t.ops ≤ 1000) (r : ReI) (Zs : LdI → Prop)
  (hP : ∀ w1, LdAt w1 m K o (setT z i (opsT t)) → Calls Try.prog 52 #[.pointer (some ⟨m, 0, none⟩), .pointer (some ⟨t.b, 0, none⟩), .int .i64 key] w1 (LdEnd w1 m o r Zs)) :
  Calls Try.prog 38 #[.pointer (some ⟨m, 0, none⟩), .pointer (some ⟨t.b, 0, none⟩), opV ⟨1, key, hi', val⟩] w (LdEnd w m o r Zs) := by
 obtain ⟨kind, hkind⟩ : ∃ kind : Int, kind = 1 := ⟨_, rfl⟩
 rw [← hkind]
 obtain ⟨W1, eW1, ob, kW1⟩ := op_box w ⟨kind, key, hi', val⟩; obtain ⟨M, eM, rb, kM0⟩ := res_box W1; have kM := kW1.trans kM0; have ob := ob.keep kM0 id; have hM := h.quiet kM; have ONA := Lib.hid (show ∀ g, o g ≠ 0 → g < w.heap.size from h.lt); obtain ⟨N1, eN1⟩ : ∃ N1, w.heap.size = N1 := ⟨_, rfl⟩; obtain ⟨N, eN⟩ : ∃ N, W1.heap.size = N := ⟨_, rfl⟩; have hNN : N = N1 + 1 := (by rw [← eN, ← eW1, ← eN1]; simp); rw [eN1] at ob ONA; rw [eN] at rb; have OND := Lib.hid (show ∀ g, o g ≠ 0 → g ≠ N from fun g hg e => by have := ONA.out g hg; omega); have ON1 := Lib.hid (show ∀ g, o g ≠ 0 → g ≠ N1 from fun g hg e => by have := ONA.out g hg; omega); have NN := Lib.hid hNN; have KM := Lib.hid kM; have HM := Lib.hid hM; have RB := Lib.hid rb; have OB := Lib.hid ob; have EN := Lib.hid eN1; have OT := Lib.hid (h.oT i t hi ht); have NM := Lib.hid (lt_of_cell rb.r0); clear hNN
 have d1 : (kind == 1) = true := by simpa using hkind
 have d6 : (kind == 6) = false := by rw [hkind]; rfl
 have d7 : (kind == 7) = false := by rw [hkind]; rfl
 have t3 := (hM.t i t hi ht).c3; have f3 := (hM.t i t hi ht).fz 3; have A2 := hM.txn hi ht (opsT t) rfl rfl ((hM.t i t hi ht).ops' (t.ops + 1)); obtain ⟨op1, eo1⟩ : ∃ op1, t.ops + 1 = op1 := ⟨_, rfl⟩; rw [eo1] at A2; have k2 := keep_one M ⟨t.b, 3, none⟩ (.int .i64 op1); obtain ⟨M2, e2⟩ : ∃ M2, M.setCell ⟨t.b, 3, none⟩ (.int .i64 op1) = M2 := ⟨_, rfl⟩; rw [e2] at A2 k2; have hbN : ¬ N = t.b := (fun e => OND.out t.b (by rw [OT.out.1]; omega) e.symm); have hbN1 : ¬ N1 = t.b := (fun e => ON1.out t.b (by rw [OT.out.1]; omega) e.symm); have R5 := Lib.hid (RB.out.keep k2 hbN); have ob2 := ob.keep k2 hbN1; have KX : RowKit.Hid (Keep (fun g => o g ≠ 0) M M2) := Lib.hid (k2.mono fun g e => by have e : g = t.b := e; rw [e, OT.out.1]; omega)
 have PP := hP M2 A2
 obtain ⟨re, rv, rp, ro, rs⟩ := r; obtain ⟨oa, ob, oc, od⟩ := ob; obtain ⟨pa, pb, pc, pd⟩ := ob2; obtain ⟨op0, eo0⟩ : ∃ op0, t.ops = op0 := ⟨_, rfl⟩; rw [eo0] at t3 eo1 ho; have wo : IntKind.i64.wrap (op0 + 1) = op1 := (by rw [← eo1]; exact IntWalk.i64_in _ (by omega)); unfold opV; dsimp only at *; clear h kM hM rb ht kM0 kW1 hkind hP A2 k2 eo0 eo1 ho
 go_enter Try.func38, Try.ntmps38
 go_wp2_with fail
 refine PP.mono ?_
 clear eM eW1 oa ob oc od pa pb pc pd t3 f3 e2
 rintro e w4 ⟨u4, z', K', o', rfl, hz, ou, og, a4, k4, n4⟩; clear PP; obtain ⟨A5, n5, c5, rfl⟩ := ownM_shape ou; have R6 := Lib.hid (R5.out.keep k4 (fun e => OND.out N e rfl)); obtain ⟨q0, q1, q2, q3, q4, q5⟩ := R6.out; have A4 := Lib.hid a4; have K4 := Lib.hid k4; have N4 := Lib.hid n4; have OU := Lib.hid ou; have OG := Lib.hid og; have HZ := Lib.hid hz; clear a4 k4 n4 ou og hz; unfold reV; dsimp only; go_wp2; (obtain ⟨W7, eW7⟩ : ∃ W7, (((((w4.setCell ⟨N, 0, none⟩ (.int .i64 re)).setCell ⟨N, 1, none⟩ (.int .i64 rv)).setCell ⟨N, 2, none⟩ (.slice A5 n5 c5)).setCell ⟨N, 3, none⟩ (.int .i64 ro)).setCell ⟨N, 4, none⟩ (.int .i64 rs)) = W7 := ⟨_, rfl⟩; obtain ⟨⟨v0, v1, v2, v3, v4, _⟩, k7⟩ := res_set R6.out _ _ _ _ _ eW7; rw [eW7]; refine bodyPost_ret (v := .agg #[.int .i64 re, .int .i64 rv, .slice A5 n5 c5, .int .i64 ro, .int .i64 rs]) (by simp [results, Try.results38, go_sem, v0, v1, v2, v3, v4]) rfl ?_); exact ⟨_, z', K', o', rfl, HZ.out, OU.out.keep k7 (fun g hg e => by have e : g = N := e; have := (OG.out g hg).1; have q : N < M.heap.size := NM.out; have := KX.out.size; omega), (fun g hg => ⟨Nat.le_trans (KM.out.trans' KX.out).size (OG.out g hg).1, (OG.out g hg).2⟩), A4.out.keep k7 (fun g hg e => by have e : g = N := e; rcases N4.out g hg with a | a; exact OND.out g a e; have q : N < M.heap.size := NM.out; have := KX.out.size; omega), (((KM.out.trans' KX.out).trans K4.out).older' k7 (by rw [EN.out]; have := NN.out; omega)), (fun g hg => (N4.out g hg).imp id (Nat.le_trans (KM.out.trans' KX.out).size))⟩
set_option maxRecDepth 100000 in
set_option maxHeartbeats 2000000 in
theorem exec_write (h : LdAt w m K o z) {i : Nat} (hi : i < 8) (ht : z.s i = some t) (kind key hi' val : Int) (hk : kind = 2 ∨ kind = 3 ∨ kind = 4) (ho : 0 ≤ t.ops ∧ t.ops ≤ 1000) (r : ReI) (Zs : LdI → Prop)
  (hP : ∀ w1, LdAt w1 m K o (setT z i (opsT t)) → Calls Try.prog 55 #[.pointer (some ⟨m, 0, none⟩), .pointer (some ⟨t.b, 0, none⟩), opV ⟨kind, key, hi', val⟩] w1 (LdEnd w1 m o r Zs)) :
  Calls Try.prog 38 #[.pointer (some ⟨m, 0, none⟩), .pointer (some ⟨t.b, 0, none⟩), opV ⟨kind, key, hi', val⟩] w (LdEnd w m o r Zs) := by
 obtain ⟨W1, eW1, ob, kW1⟩ := op_box w ⟨kind, key, hi', val⟩; obtain ⟨M, eM, rb, kM0⟩ := res_box W1; have kM := kW1.trans kM0; have ob := ob.keep kM0 id; have hM := h.quiet kM; have ONA := Lib.hid (show ∀ g, o g ≠ 0 → g < w.heap.size from h.lt); obtain ⟨N1, eN1⟩ : ∃ N1, w.heap.size = N1 := ⟨_, rfl⟩; obtain ⟨N, eN⟩ : ∃ N, W1.heap.size = N := ⟨_, rfl⟩; have hNN : N = N1 + 1 := (by rw [← eN, ← eW1, ← eN1]; simp); rw [eN1] at ob ONA; rw [eN] at rb; have OND := Lib.hid (show ∀ g, o g ≠ 0 → g ≠ N from fun g hg e => by have := ONA.out g hg; omega); have ON1 := Lib.hid (show ∀ g, o g ≠ 0 → g ≠ N1 from fun g hg e => by have := ONA.out g hg; omega); have NN := Lib.hid hNN; have KM := Lib.hid kM; have HM := Lib.hid hM; have RB := Lib.hid rb; have OB := Lib.hid ob; have EN := Lib.hid eN1; have OT := Lib.hid (h.oT i t hi ht); have NM := Lib.hid (lt_of_cell rb.r0); clear hNN
 have hkind := hk
 have d1 : (kind == 1) = false := by simp; omega
 have d5 : (kind == 5) = false := by simp; omega
 have d6 : (kind == 6) = false := by simp; omega
 have d7 : (kind == 7) = false := by simp; omega
 clear hk
 have t3 := (hM.t i t hi ht).c3; have f3 := (hM.t i t hi ht).fz 3; have A2 := hM.txn hi ht (opsT t) rfl rfl ((hM.t i t hi ht).ops' (t.ops + 1)); obtain ⟨op1, eo1⟩ : ∃ op1, t.ops + 1 = op1 := ⟨_, rfl⟩; rw [eo1] at A2; have k2 := keep_one M ⟨t.b, 3, none⟩ (.int .i64 op1); obtain ⟨M2, e2⟩ : ∃ M2, M.setCell ⟨t.b, 3, none⟩ (.int .i64 op1) = M2 := ⟨_, rfl⟩; rw [e2] at A2 k2; have hbN : ¬ N = t.b := (fun e => OND.out t.b (by rw [OT.out.1]; omega) e.symm); have hbN1 : ¬ N1 = t.b := (fun e => ON1.out t.b (by rw [OT.out.1]; omega) e.symm); have R5 := Lib.hid (RB.out.keep k2 hbN); have ob2 := ob.keep k2 hbN1; have KX : RowKit.Hid (Keep (fun g => o g ≠ 0) M M2) := Lib.hid (k2.mono fun g e => by have e : g = t.b := e; rw [e, OT.out.1]; omega)
 have PP := hP M2 A2
 unfold opV at PP
 obtain ⟨re, rv, rp, ro, rs⟩ := r; obtain ⟨oa, ob, oc, od⟩ := ob; obtain ⟨pa, pb, pc, pd⟩ := ob2; obtain ⟨op0, eo0⟩ : ∃ op0, t.ops = op0 := ⟨_, rfl⟩; rw [eo0] at t3 eo1 ho; have wo : IntKind.i64.wrap (op0 + 1) = op1 := (by rw [← eo1]; exact IntWalk.i64_in _ (by omega)); unfold opV; dsimp only at *; clear h kM hM rb ht kM0 kW1 hkind hP A2 k2 eo0 eo1 ho
 go_enter Try.func38, Try.ntmps38
 go_wp2_with fail
 refine PP.mono ?_
 clear eM eW1 oa ob oc od pa pb pc pd t3 f3 e2
 rintro e w4 ⟨u4, z', K', o', rfl, hz, ou, og, a4, k4, n4⟩; clear PP; obtain ⟨A5, n5, c5, rfl⟩ := ownM_shape ou; have R6 := Lib.hid (R5.out.keep k4 (fun e => OND.out N e rfl)); obtain ⟨q0, q1, q2, q3, q4, q5⟩ := R6.out; have A4 := Lib.hid a4; have K4 := Lib.hid k4; have N4 := Lib.hid n4; have OU := Lib.hid ou; have OG := Lib.hid og; have HZ := Lib.hid hz; clear a4 k4 n4 ou og hz; unfold reV; dsimp only; go_wp2; (obtain ⟨W7, eW7⟩ : ∃ W7, (((((w4.setCell ⟨N, 0, none⟩ (.int .i64 re)).setCell ⟨N, 1, none⟩ (.int .i64 rv)).setCell ⟨N, 2, none⟩ (.slice A5 n5 c5)).setCell ⟨N, 3, none⟩ (.int .i64 ro)).setCell ⟨N, 4, none⟩ (.int .i64 rs)) = W7 := ⟨_, rfl⟩; obtain ⟨⟨v0, v1, v2, v3, v4, _⟩, k7⟩ := res_set R6.out _ _ _ _ _ eW7; rw [eW7]; refine bodyPost_ret (v := .agg #[.int .i64 re, .int .i64 rv, .slice A5 n5 c5, .int .i64 ro, .int .i64 rs]) (by simp [results, Try.results38, go_sem, v0, v1, v2, v3, v4]) rfl ?_); exact ⟨_, z', K', o', rfl, HZ.out, OU.out.keep k7 (fun g hg e => by have e : g = N := e; have := (OG.out g hg).1; have q : N < M.heap.size := NM.out; have := KX.out.size; omega), (fun g hg => ⟨Nat.le_trans (KM.out.trans' KX.out).size (OG.out g hg).1, (OG.out g hg).2⟩), A4.out.keep k7 (fun g hg e => by have e : g = N := e; rcases N4.out g hg with a | a; exact OND.out g a e; have q : N < M.heap.size := NM.out; have := KX.out.size; omega), (((KM.out.trans' KX.out).trans K4.out).older' k7 (by rw [EN.out]; have := NN.out; omega)), (fun g hg => (N4.out g hg).imp id (Nat.le_trans (KM.out.trans' KX.out).size))⟩
end
end Go.Proofs.Ytalkfnblnlcklaa
/- Package model as landed, in memory: execute, where it aborts, and where it scans. Condition: at most 100,000 versions of a key. -/
namespace Go.Proofs.Ytalkfnblnlcklaa
open Go.ChangeShapes Go.WideShapes Go.ChangeAt Go.RowKit
set_option linter.unusedVariables false
set_option linter.unusedSimpArgs false
section
variable {w w' w2 : World} {m g n c : Nat} {K : Nat → Value} {o : Nat → Nat} {z : LdI} {T : Nat → Prop} {F : Nat → FtI} {P : VeI → Bool} {t : TtI} {fv : Value} {l : List VeI}
set_option maxRecDepth 100000 in
set_option maxHeartbeats 2000000 in
theorem exec_abort (h : LdAt w m K o z) {i : Nat} (hi : i < 8) (ht : z.s i = some t) (hx : (z.F t.f).st = 1) (key hi' val : Int) :
  Calls Try.prog 38 #[.pointer (some ⟨m, 0, none⟩), .pointer (some ⟨t.b, 0, none⟩), opV ⟨7, key, hi', val⟩] w (LdRes w m K o ⟨0, 0, [], 4, 1⟩ { z with F := updF z.F t.f ⟨4, 0⟩ }) := by
 obtain ⟨kind, hkind⟩ : ∃ kind : Int, kind = 7 := ⟨_, rfl⟩
 rw [← hkind]
 obtain ⟨W1, eW1, ob, kW1⟩ := op_box w ⟨kind, key, hi', val⟩; obtain ⟨M, eM, rb, kM0⟩ := res_box W1; have kM := kW1.trans kM0; have ob := ob.keep kM0 id; have hM := h.quiet kM; have ONA := Lib.hid (show ∀ g, o g ≠ 0 → g < w.heap.size from h.lt); obtain ⟨N1, eN1⟩ : ∃ N1, w.heap.size = N1 := ⟨_, rfl⟩; obtain ⟨N, eN⟩ : ∃ N, W1.heap.size = N := ⟨_, rfl⟩; have hNN : N = N1 + 1 := (by rw [← eN, ← eW1, ← eN1]; simp); rw [eN1] at ob ONA; rw [eN] at rb; have OND := Lib.hid (show ∀ g, o g ≠ 0 → g ≠ N from fun g hg e => by have := ONA.out g hg; omega); have ON1 := Lib.hid (show ∀ g, o g ≠ 0 → g ≠ N1 from fun g hg e => by have := ONA.out g hg; omega); have NN := Lib.hid hNN; have KM := Lib.hid kM; have HM := Lib.hid hM; have RB := Lib.hid rb; have OB := Lib.hid ob; have EN := Lib.hid eN1; have OT := Lib.hid (h.oT i t hi ht); have NM := Lib.hid (lt_of_cell rb.r0); clear hNN
 have AB := abort_any hM hi ht hx 1
 have d6 : (kind == 6) = false := by rw [hkind]; rfl
 have d7 : (kind == 7) = true := by rw [hkind]; rfl
 have hfN : ¬ N = t.f := fun e => OND.out t.f (by rw [OT.out.2]; decide) e.symm
 have hfN1 : ¬ N1 = t.f := fun e => ON1.out t.f (by rw [OT.out.2]; decide) e.symm
 obtain ⟨oa, ob, oc, od⟩ := ob
 unfold LdRes opV reV
 dsimp only at *
 clear h kM hM rb ht hx kM0 kW1 hkind
 go_enter Try.func38, Try.ntmps38
 go_wp2_with fail
 refine AB.mono ?_
 rintro e w4 ⟨rfl, a4, k4⟩
 clear AB eM eW1 oa ob oc od
 obtain ⟨w5, e5, rb5, k5⟩ := res_box w4
 obtain ⟨N2, eN2⟩ : ∃ N2, w4.heap.size = N2 := ⟨_, rfl⟩
 rw [eN2] at rb5
 obtain ⟨x0, x1, x2, x3, x4, x5⟩ := rb5
 have s4 := k4.size
 have nN : N < M.heap.size := NM.out
 have nN2 : ¬ N = N2 := by omega
 obtain ⟨w6, e6⟩ : ∃ w6, (((((w5.setCell ⟨N2, 0, none⟩ (.int .i64 14)).setCell ⟨N2, 1, none⟩ (.int .i64 0)).setCell ⟨N2, 2, none⟩ (.slice none 0 0)).setCell ⟨N2, 3, none⟩ (.int .i64 4)).setCell ⟨N2, 4, none⟩ (.int .i64 1)) = w6 := ⟨_, rfl⟩
 obtain ⟨rb6, k6⟩ := res_set ⟨x0, x1, x2, x3, x4, x5⟩ _ _ _ _ _ e6
 obtain ⟨w7, e7⟩ : ∃ w7, w6.setCell ⟨N2, 0, none⟩ (.int .i64 0) = w7 := ⟨_, rfl⟩
 have k7a : Keep (fun g => g = N2) w6 w7 := by rw [← e7]; exact keep_one w6 ⟨N2, 0, none⟩ _
 obtain ⟨y0, y1, y2, y3, y4, y5⟩ := rb6
 have v0 : w7.cell? ⟨N2, 0, none⟩ = some (.int .i64 0) := by rw [← e7]; exact World.cell?_setCell_same _ _ _ y0
 have v1 : w7.cell? ⟨N2, 1, none⟩ = some (.int .i64 0) := by rw [← e7, World.cell?_setCell_other _ _ _ _ (by first | (simp; done) | (simp; omega))]; exact y1
 have v2 : w7.cell? ⟨N2, 2, none⟩ = some (.slice none 0 0) := by rw [← e7, World.cell?_setCell_other _ _ _ _ (by first | (simp; done) | (simp; omega))]; exact y2
 have v3 : w7.cell? ⟨N2, 3, none⟩ = some (.int .i64 4) := by rw [← e7, World.cell?_setCell_other _ _ _ _ (by first | (simp; done) | (simp; omega))]; exact y3
 have v4 : w7.cell? ⟨N2, 4, none⟩ = some (.int .i64 1) := by rw [← e7, World.cell?_setCell_other _ _ _ _ (by first | (simp; done) | (simp; omega))]; exact y4
 have f0 := y5 0
 have KN : Keep (fun _ => False) w4 w7 := ⟨k7a.os.trans (k6.os.trans k5.os), k7a.tape.trans (k6.tape.trans k5.tape), k7a.output.trans (k6.output.trans k5.output), Nat.le_trans k5.size (Nat.le_trans k6.size k7a.size), fun j hj _ => (k7a.block j (Nat.lt_of_lt_of_le hj (Nat.le_trans k5.size k6.size)) (by omega)).trans ((k6.block j (Nat.lt_of_lt_of_le hj k5.size) (by omega)).trans (k5.block j hj id))⟩
 have R6 := Lib.hid ((RB.out.keep k4 hfN).keep KN id)
 obtain ⟨q0, q1, q2, q3, q4, q5⟩ := R6.out
 have A4 := Lib.hid (a4.quiet KN)
 have K4 := Lib.hid (k4.trans (KN.mono fun _ e => e.elim))
 have X5 := x5
 clear a4 k4 KN k5 k6 k7a y1 y2 y3 y4 y5
 unfold reV MoI.bad
 dsimp only
 go_wp2
 (obtain ⟨W7, eW7⟩ : ∃ W7, (((((w7.setCell ⟨N, 0, none⟩ (.int .i64 0)).setCell ⟨N, 1, none⟩ (.int .i64 0)).setCell ⟨N, 2, none⟩ (.slice none 0 0)).setCell ⟨N, 3, none⟩ (.int .i64 4)).setCell ⟨N, 4, none⟩ (.int .i64 1)) = W7 := ⟨_, rfl⟩; obtain ⟨⟨v0, v1, v2, v3, v4, _⟩, k7⟩ := res_set R6.out _ _ _ _ _ eW7; rw [eW7]; refine bodyPost_ret (v := .agg #[.int .i64 0, .int .i64 0, .slice none 0 0, .int .i64 4, .int .i64 1]) (by simp [results, Try.results38, go_sem, v0, v1, v2, v3, v4]) rfl ⟨rfl, ?_⟩)
 refine ⟨A4.out.keep k7 (fun g hg e => OND.out g hg e), ((KM.out.trans' (K4.out.mono fun g e => ?_)).older' k7 (by rw [EN.out]; have := NN.out; omega))⟩
 have e : g = t.f := e
 rw [e, OT.out.2]; decide
set_option maxRecDepth 100000 in
set_option maxHeartbeats 2000000 in
theorem exec_scan (h : LdAt w m K o z) {i : Nat} (hi : i < 8) (ht : z.s i = some t) (lo hh : Nat) (hlh : lo ≤ hh) (hh64 : hh < 64) (val : Int) (ho : 0 ≤ t.ops ∧ t.ops ≤ 1000) (hl : ∀ k, k < 64 → (z.k k).length ≤ 100000) :
  Calls Try.prog 38 #[.pointer (some ⟨m, 0, none⟩), .pointer (some ⟨t.b, 0, none⟩), opV ⟨5, lo, hh, val⟩] w (LdEnd w m o ⟨0, 0, pairsL z (seesV z.F t) lo (hh + 1 - lo), 0, 0⟩ fun z' => z' = setT z i (relyT (opsT t) 3 lo hh)) := by
 obtain ⟨kind, hkind⟩ : ∃ kind : Int, kind = 5 := ⟨_, rfl⟩
 obtain ⟨key, hkey⟩ : ∃ key : Int, (lo : Int) = key := ⟨_, rfl⟩
 obtain ⟨hi', hhi⟩ : ∃ hi' : Int, (hh : Int) = hi' := ⟨_, rfl⟩
 rw [← hkind, hkey, hhi]
 obtain ⟨W1, eW1, ob, kW1⟩ := op_box w ⟨kind, key, hi', val⟩; obtain ⟨M, eM, rb, kM0⟩ := res_box W1; have kM := kW1.trans kM0; have ob := ob.keep kM0 id; have hM := h.quiet kM; have ONA := Lib.hid (show ∀ g, o g ≠ 0 → g < w.heap.size from h.lt); obtain ⟨N1, eN1⟩ : ∃ N1, w.heap.size = N1 := ⟨_, rfl⟩; obtain ⟨N, eN⟩ : ∃ N, W1.heap.size = N := ⟨_, rfl⟩; have hNN : N = N1 + 1 := (by rw [← eN, ← eW1, ← eN1]; simp); rw [eN1] at ob ONA; rw [eN] at rb; have OND := Lib.hid (show ∀ g, o g ≠ 0 → g ≠ N from fun g hg e => by have := ONA.out g hg; omega); have ON1 := Lib.hid (show ∀ g, o g ≠ 0 → g ≠ N1 from fun g hg e => by have := ONA.out g hg; omega); have NN := Lib.hid hNN; have KM := Lib.hid kM; have HM := Lib.hid hM; have RB := Lib.hid rb; have OB := Lib.hid ob; have EN := Lib.hid eN1; have OT := Lib.hid (h.oT i t hi ht); have NM := Lib.hid (lt_of_cell rb.r0); clear hNN
 have d1 : (kind == 1) = false := by rw [hkind]; rfl
 have d5 : (kind == 5) = true := by rw [hkind]; rfl
 have d6 : (kind == 6) = false := by rw [hkind]; rfl
 have d7 : (kind == 7) = false := by rw [hkind]; rfl
 have t3 := (hM.t i t hi ht).c3; have f3 := (hM.t i t hi ht).fz 3; have A2 := hM.txn hi ht (opsT t) rfl rfl ((hM.t i t hi ht).ops' (t.ops + 1)); obtain ⟨op1, eo1⟩ : ∃ op1, t.ops + 1 = op1 := ⟨_, rfl⟩; rw [eo1] at A2; have k2 := keep_one M ⟨t.b, 3, none⟩ (.int .i64 op1); obtain ⟨M2, e2⟩ : ∃ M2, M.setCell ⟨t.b, 3, none⟩ (.int .i64 op1) = M2 := ⟨_, rfl⟩; rw [e2] at A2 k2; have hbN : ¬ N = t.b := (fun e => OND.out t.b (by rw [OT.out.1]; omega) e.symm); have hbN1 : ¬ N1 = t.b := (fun e => ON1.out t.b (by rw [OT.out.1]; omega) e.symm); have R5 := Lib.hid (RB.out.keep k2 hbN); have ob2 := ob.keep k2 hbN1; have KX : RowKit.Hid (Keep (fun g => o g ≠ 0) M M2) := Lib.hid (k2.mono fun g e => by have e : g = t.b := e; rw [e, OT.out.1]; omega)
 have RL := relies_any A2 hi (putT_self _ _ _) 3 lo hh hlh hh64
 have PR := Lib.hid fun w3 (a3 : LdAt w3 m K o (setT z i (relyT (opsT t) 3 lo hh))) => pairs_any a3 lo hh hh64 hl (hold_sees (a3.t i _ hi (putT_self _ _ _)) (a3.tf hi (putT_self _ _ _)))
 have es : seesV (setT z i (relyT (opsT t) 3 lo hh)).F (relyT (opsT t) 3 lo hh) = seesV z.F t := rfl
 have ez : ({ ({ z with s := putT z.s i (some (opsT t)) } : LdI) with s := putT (putT z.s i (some (opsT t))) i (some (relyT (opsT t) 3 lo hh)) } : LdI) = setT z i (relyT (opsT t) 3 lo hh) := by unfold setT; rw [putT_put]
 have ep : pairsL (setT z i (relyT (opsT t) 3 lo hh)) (seesV z.F t) lo (hh + 1 - lo) = pairsL z (seesV z.F t) lo (hh + 1 - lo) := rfl
 simp only [es, ep] at PR
 rw [hkey, hhi] at *
 rw [hkey, hhi] at RL PR ez
 rw [ez] at RL
 have tb : (relyT (opsT t) 3 key hi').b = t.b := rfl
 have tb2 : (opsT t).b = t.b := rfl
 rw [tb2] at RL
 rw [tb] at PR
 obtain ⟨zz, ezz⟩ : ∃ zz, setT z i (relyT (opsT t) 3 key hi') = zz := ⟨_, rfl⟩
 rw [ezz] at RL PR ⊢
 obtain ⟨pl, epl⟩ : ∃ pl, pairsL z (seesV z.F t) lo (hh + 1 - lo) = pl := ⟨_, rfl⟩
 rw [epl] at PR ⊢
 obtain ⟨oa, ob, oc, od⟩ := ob
 obtain ⟨pa, pb, pc, pd⟩ := ob2
 obtain ⟨op0, eo0⟩ : ∃ op0, t.ops = op0 := ⟨_, rfl⟩
 rw [eo0] at t3 eo1 ho
 have wo : IntKind.i64.wrap (op0 + 1) = op1 := by rw [← eo1]; exact IntWalk.i64_in _ (by omega)
 unfold opV
 dsimp only at *
 have OB2 := Lib.hid ((OB.out.keep k2 hbN1))
 have HBN := Lib.hid hbN
 have HBN1 := Lib.hid hbN1
 clear h kM hM rb ht kM0 kW1 hkind A2 k2 eo0 eo1 ho es ez ep tb tb2 ezz epl hkey hhi hlh hh64 hl
 go_enter Try.func38, Try.ntmps38
 go_wp2_with fail
 refine RL.mono ?_
 rintro e w3 ⟨rfl, a3, k3⟩
 clear RL eM eW1 oa ob oc od pa pb pc pd t3 f3 e2
 obtain ⟨oa, ob, oc, od⟩ := OB2.out.keep k3 HBN1.out
 have PR := PR.out w3 a3
 have A3 := Lib.hid a3
 have K3 := Lib.hid k3
 have R7 := Lib.hid (R5.out.keep k3 HBN.out)
 clear a3 k3
 go_wp2_with fail
 refine PR.mono ?_
 rintro e w4 ⟨u4, rfl, ou, og, k4⟩
 clear PR oa ob oc od
 obtain ⟨A5, n5, c5, rfl⟩ := ownM_shape ou
 have R6 := Lib.hid (R7.out.keep k4 id)
 obtain ⟨q0, q1, q2, q3, q4, q5⟩ := R6.out
 have A4 := Lib.hid (A3.out.quiet k4)
 have K4 := Lib.hid k4
 have OU := Lib.hid ou
 have OG := Lib.hid og
 clear k4 ou og
 go_wp2
 (obtain ⟨W7, eW7⟩ : ∃ W7, (((((w4.setCell ⟨N, 0, none⟩ (.int .i64 0)).setCell ⟨N, 1, none⟩ (.int .i64 0)).setCell ⟨N, 2, none⟩ (.slice A5 n5 c5)).setCell ⟨N, 3, none⟩ (.int .i64 0)).setCell ⟨N, 4, none⟩ (.int .i64 0)) = W7 := ⟨_, rfl⟩; obtain ⟨⟨v0, v1, v2, v3, v4, _⟩, k7⟩ := res_set R6.out _ _ _ _ _ eW7; rw [eW7]; refine bodyPost_ret (v := .agg #[.int .i64 0, .int .i64 0, .slice A5 n5 c5, .int .i64 0, .int .i64 0]) (by simp [results, Try.results38, go_sem, v0, v1, v2, v3, v4]) rfl ?_)
 have q : N < M.heap.size := NM.out
 have b1 := KX.out.size
 have b2 := K3.out.size
 have b3 := KM.out.size
 have KK : Keep (fun g => o g ≠ 0) w w3 := (KM.out.trans' KX.out).trans (K3.out.mono fun g e => by have e : g = t.b := e; rw [e, OT.out.1]; omega)
 exact ⟨_, zz, K, o, rfl, rfl, OU.out.keep k7 (fun g hg e => by have e : g = N := e; have := OG.out g hg; omega), (fun g hg => ⟨by have := OG.out g hg; omega, by
  cases q2 : o g with
  | zero => rfl
  | succ n => have := ONA.out g (by rw [q2]; omega); have := OG.out g hg; have := EN.out; omega⟩), A4.out.keep k7 (fun g hg e => OND.out g hg e), (KK.trans (K4.out.mono fun _ e => e.elim)).older' k7 (by rw [EN.out]; have := NN.out; omega), fun g hg => .inl hg⟩
end
end Go.Proofs.Ytalkfnblnlcklaa
