/- Package model as landed, in memory: execute. Condition: at most 100,000 versions of a key. -/
import Derived.Test.YtkkjofefjepodaaLdE
namespace Go.Proofs.Ytkkjofefjepodaa
open Go.ChangeShapes Go.WideShapes Go.ChangeAt Go.RowKit
set_option linter.unusedVariables false
set_option linter.unusedSimpArgs false
section
variable {w w' w2 : World} {m g n c : Nat} {K : Nat → Value} {o : Nat → Nat} {z : LdI} {T : Nat → Prop} {F : Nat → FtI} {P : VeI → Bool} {t : TtI} {fv : Value} {l : List VeI}
def opsT (t : TtI) : TtI := { t with ops := t.ops + 1 }
set_option maxRecDepth 100000 in
set_option maxHeartbeats 2000000 in
theorem exec_commit (h : LdAt w m K o z) {i : Nat} (hi : i < 8) (ht : z.s i = some t) (key hi' val : Int) (r : ReI) (Zs : LdI → Prop)
    (hP : ∀ w1, LdAt w1 m K o z → Calls Try.prog 73 #[.pointer (some ⟨m, 0, none⟩), .pointer (some ⟨t.b, 0, none⟩)] w1 (LdEnd w1 m o r Zs)) :
    Calls Try.prog 50 #[.pointer (some ⟨m, 0, none⟩), .pointer (some ⟨t.b, 0, none⟩), opV ⟨6, key, hi', val⟩] w (LdEnd w m o r Zs) := by
  obtain ⟨kind, hkind⟩ : ∃ kind : Int, kind = 6 := ⟨_, rfl⟩
  rw [← hkind]
  obtain ⟨W1, eW1, ob, kW1⟩ := op_box w ⟨kind, key, hi', val⟩; obtain ⟨M, eM, rb, kM0⟩ := res_box W1; have kM := kW1.trans kM0; have ob := ob.keep kM0 id; have hM := h.quiet kM; have ONA := Lib.hid (show ∀ g, o g ≠ 0 → g < w.heap.size from h.lt); obtain ⟨N1, eN1⟩ : ∃ N1, w.heap.size = N1 := ⟨_, rfl⟩; obtain ⟨N, eN⟩ : ∃ N, W1.heap.size = N := ⟨_, rfl⟩; have hNN : N = N1 + 1 := (by rw [← eN, ← eW1, ← eN1]; simp); rw [eN1] at ob ONA; rw [eN] at rb; have OND := Lib.hid (show ∀ g, o g ≠ 0 → g ≠ N from fun g hg e => by have := ONA.out g hg; omega); have ON1 := Lib.hid (show ∀ g, o g ≠ 0 → g ≠ N1 from fun g hg e => by have := ONA.out g hg; omega); have NN := Lib.hid hNN; have KM := Lib.hid kM; have HM := Lib.hid hM; have RB := Lib.hid rb; have OB := Lib.hid ob; have EN := Lib.hid eN1; have OT := Lib.hid (h.oT i t hi ht); have NM := Lib.hid (lt_of_cell rb.r0); clear hNN
  have PP := hP M hM
  have d6 : (kind == 6) = true := by simpa using hkind
  obtain ⟨re, rv, rp, ro, rs⟩ := r
  obtain ⟨oa, ob, oc, od⟩ := ob
  have R5 := RB
  have KX : RowKit.Hid (Keep (fun g => o g ≠ 0) M M) := Lib.hid (Keep.refl _ _)
  unfold opV
  dsimp only at *
  clear h kM hM rb ht kM0 kW1 hkind hP
  go_enter Try.func50, Try.ntmps50
  go_wp2_with fail
  refine PP.mono ?_
  clear eM eW1 oa ob oc od
  rintro e w4 ⟨u4, z', K', o', rfl, hz, ou, og, a4, k4, n4⟩; clear PP; obtain ⟨A5, n5, c5, rfl⟩ := ownM_shape ou; have R6 := Lib.hid (R5.out.keep k4 (fun e => OND.out N e rfl)); obtain ⟨q0, q1, q2, q3, q4, q5⟩ := R6.out; have A4 := Lib.hid a4; have K4 := Lib.hid k4; have N4 := Lib.hid n4; have OU := Lib.hid ou; have OG := Lib.hid og; have HZ := Lib.hid hz; clear a4 k4 n4 ou og hz; unfold reV; dsimp only; go_wp2; (obtain ⟨W7, eW7⟩ : ∃ W7, (((((w4.setCell ⟨N, 0, none⟩ (.int .i64 re)).setCell ⟨N, 1, none⟩ (.int .i64 rv)).setCell ⟨N, 2, none⟩ (.slice A5 n5 c5)).setCell ⟨N, 3, none⟩ (.int .i64 ro)).setCell ⟨N, 4, none⟩ (.int .i64 rs)) = W7 := ⟨_, rfl⟩; obtain ⟨⟨v0, v1, v2, v3, v4, _⟩, k7⟩ := res_set R6.out _ _ _ _ _ eW7; rw [eW7]; refine bodyPost_ret (v := .agg #[.int .i64 re, .int .i64 rv, .slice A5 n5 c5, .int .i64 ro, .int .i64 rs]) (by simp [results, Try.results50, go_sem, v0, v1, v2, v3, v4]) rfl ?_); exact ⟨_, z', K', o', rfl, HZ.out, OU.out.keep k7 (fun g hg e => by have e : g = N := e; have := (OG.out g hg).1; have q : N < M.heap.size := NM.out; have := KX.out.size; omega), (fun g hg => ⟨Nat.le_trans (KM.out.trans' KX.out).size (OG.out g hg).1, (OG.out g hg).2⟩), A4.out.keep k7 (fun g hg e => by have e : g = N := e; rcases N4.out g hg with a | a; exact OND.out g a e; have q : N < M.heap.size := NM.out; have := KX.out.size; omega), (((KM.out.trans' KX.out).trans K4.out).older' k7 (by rw [EN.out]; have := NN.out; omega)), (fun g hg => (N4.out g hg).imp id (Nat.le_trans (KM.out.trans' KX.out).size))⟩
set_option maxRecDepth 100000 in
set_option maxHeartbeats 2000000 in
theorem exec_get (h : LdAt w m K o z) {i : Nat} (hi : i < 8) (ht : z.s i = some t) (key hi' val : Int) (ho : 0 ≤ t.ops ∧ t.ops ≤ 1000) (r : ReI) (Zs : LdI → Prop)
    (hP : ∀ w1, LdAt w1 m K o (setT z i (opsT t)) → Calls Try.prog 75 #[.pointer (some ⟨m, 0, none⟩), .pointer (some ⟨t.b, 0, none⟩), .int .i64 key] w1 (LdEnd w1 m o r Zs)) :
    Calls Try.prog 50 #[.pointer (some ⟨m, 0, none⟩), .pointer (some ⟨t.b, 0, none⟩), opV ⟨1, key, hi', val⟩] w (LdEnd w m o r Zs) := by
  obtain ⟨kind, hkind⟩ : ∃ kind : Int, kind = 1 := ⟨_, rfl⟩
  rw [← hkind]
  obtain ⟨W1, eW1, ob, kW1⟩ := op_box w ⟨kind, key, hi', val⟩; obtain ⟨M, eM, rb, kM0⟩ := res_box W1; have kM := kW1.trans kM0; have ob := ob.keep kM0 id; have hM := h.quiet kM; have ONA := Lib.hid (show ∀ g, o g ≠ 0 → g < w.heap.size from h.lt); obtain ⟨N1, eN1⟩ : ∃ N1, w.heap.size = N1 := ⟨_, rfl⟩; obtain ⟨N, eN⟩ : ∃ N, W1.heap.size = N := ⟨_, rfl⟩; have hNN : N = N1 + 1 := (by rw [← eN, ← eW1, ← eN1]; simp); rw [eN1] at ob ONA; rw [eN] at rb; have OND := Lib.hid (show ∀ g, o g ≠ 0 → g ≠ N from fun g hg e => by have := ONA.out g hg; omega); have ON1 := Lib.hid (show ∀ g, o g ≠ 0 → g ≠ N1 from fun g hg e => by have := ONA.out g hg; omega); have NN := Lib.hid hNN; have KM := Lib.hid kM; have HM := Lib.hid hM; have RB := Lib.hid rb; have OB := Lib.hid ob; have EN := Lib.hid eN1; have OT := Lib.hid (h.oT i t hi ht); have NM := Lib.hid (lt_of_cell rb.r0); clear hNN
  have d1 : (kind == 1) = true := by simpa using hkind
  have d6 : (kind == 6) = false := by rw [hkind]; rfl
  have d7 : (kind == 7) = false := by rw [hkind]; rfl
  have t3 := (hM.t i t hi ht).c3; have f3 := (hM.t i t hi ht).fz 3; have A2 := hM.txn hi ht (opsT t) rfl rfl ((hM.t i t hi ht).ops' (t.ops + 1)); obtain ⟨op1, eo1⟩ : ∃ op1, t.ops + 1 = op1 := ⟨_, rfl⟩; rw [eo1] at A2; have k2 := keep_one M ⟨t.b, 3, none⟩ (.int .i64 op1); obtain ⟨M2, e2⟩ : ∃ M2, M.setCell ⟨t.b, 3, none⟩ (.int .i64 op1) = M2 := ⟨_, rfl⟩; rw [e2] at A2 k2; have hbN : ¬ N = t.b := (fun e => OND.out t.b (by rw [OT.out.1]; omega) e.symm); have hbN1 : ¬ N1 = t.b := (fun e => ON1.out t.b (by rw [OT.out.1]; omega) e.symm); have R5 := Lib.hid (RB.out.keep k2 hbN); have ob2 := ob.keep k2 hbN1; have KX : RowKit.Hid (Keep (fun g => o g ≠ 0) M M2) := Lib.hid (k2.mono fun g e => by have e : g = t.b := e; rw [e, OT.out.1]; omega)
  have PP := hP M2 A2
  obtain ⟨re, rv, rp, ro, rs⟩ := r; obtain ⟨oa, ob, oc, od⟩ := ob; obtain ⟨pa, pb, pc, pd⟩ := ob2; obtain ⟨op0, eo0⟩ : ∃ op0, t.ops = op0 := ⟨_, rfl⟩; rw [eo0] at t3 eo1 ho; have wo : IntKind.i64.wrap (op0 + 1) = op1 := (by rw [← eo1]; exact IntWalk.i64_in _ (by omega)); unfold opV; dsimp only at *; clear h kM hM rb ht kM0 kW1 hkind hP A2 k2 eo0 eo1 ho
  go_enter Try.func50, Try.ntmps50
  go_wp2_with fail
  refine PP.mono ?_
  clear eM eW1 oa ob oc od pa pb pc pd t3 f3 e2
  rintro e w4 ⟨u4, z', K', o', rfl, hz, ou, og, a4, k4, n4⟩; clear PP; obtain ⟨A5, n5, c5, rfl⟩ := ownM_shape ou; have R6 := Lib.hid (R5.out.keep k4 (fun e => OND.out N e rfl)); obtain ⟨q0, q1, q2, q3, q4, q5⟩ := R6.out; have A4 := Lib.hid a4; have K4 := Lib.hid k4; have N4 := Lib.hid n4; have OU := Lib.hid ou; have OG := Lib.hid og; have HZ := Lib.hid hz; clear a4 k4 n4 ou og hz; unfold reV; dsimp only; go_wp2; (obtain ⟨W7, eW7⟩ : ∃ W7, (((((w4.setCell ⟨N, 0, none⟩ (.int .i64 re)).setCell ⟨N, 1, none⟩ (.int .i64 rv)).setCell ⟨N, 2, none⟩ (.slice A5 n5 c5)).setCell ⟨N, 3, none⟩ (.int .i64 ro)).setCell ⟨N, 4, none⟩ (.int .i64 rs)) = W7 := ⟨_, rfl⟩; obtain ⟨⟨v0, v1, v2, v3, v4, _⟩, k7⟩ := res_set R6.out _ _ _ _ _ eW7; rw [eW7]; refine bodyPost_ret (v := .agg #[.int .i64 re, .int .i64 rv, .slice A5 n5 c5, .int .i64 ro, .int .i64 rs]) (by simp [results, Try.results50, go_sem, v0, v1, v2, v3, v4]) rfl ?_); exact ⟨_, z', K', o', rfl, HZ.out, OU.out.keep k7 (fun g hg e => by have e : g = N := e; have := (OG.out g hg).1; have q : N < M.heap.size := NM.out; have := KX.out.size; omega), (fun g hg => ⟨Nat.le_trans (KM.out.trans' KX.out).size (OG.out g hg).1, (OG.out g hg).2⟩), A4.out.keep k7 (fun g hg e => by have e : g = N := e; rcases N4.out g hg with a | a; exact OND.out g a e; have q : N < M.heap.size := NM.out; have := KX.out.size; omega), (((KM.out.trans' KX.out).trans K4.out).older' k7 (by rw [EN.out]; have := NN.out; omega)), (fun g hg => (N4.out g hg).imp id (Nat.le_trans (KM.out.trans' KX.out).size))⟩
set_option maxRecDepth 100000 in
set_option maxHeartbeats 2000000 in
theorem exec_write (h : LdAt w m K o z) {i : Nat} (hi : i < 8) (ht : z.s i = some t) (kind key hi' val : Int) (hk : kind = 2 ∨ kind = 3 ∨ kind = 4) (ho : 0 ≤ t.ops ∧ t.ops ≤ 1000) (r : ReI) (Zs : LdI → Prop)
    (hP : ∀ w1, LdAt w1 m K o (setT z i (opsT t)) → Calls Try.prog 78 #[.pointer (some ⟨m, 0, none⟩), .pointer (some ⟨t.b, 0, none⟩), opV ⟨kind, key, hi', val⟩] w1 (LdEnd w1 m o r Zs)) :
    Calls Try.prog 50 #[.pointer (some ⟨m, 0, none⟩), .pointer (some ⟨t.b, 0, none⟩), opV ⟨kind, key, hi', val⟩] w (LdEnd w m o r Zs) := by
  obtain ⟨W1, eW1, ob, kW1⟩ := op_box w ⟨kind, key, hi', val⟩; obtain ⟨M, eM, rb, kM0⟩ := res_box W1; have kM := kW1.trans kM0; have ob := ob.keep kM0 id; have hM := h.quiet kM; have ONA := Lib.hid (show ∀ g, o g ≠ 0 → g < w.heap.size from h.lt); obtain ⟨N1, eN1⟩ : ∃ N1, w.heap.size = N1 := ⟨_, rfl⟩; obtain ⟨N, eN⟩ : ∃ N, W1.heap.size = N := ⟨_, rfl⟩; have hNN : N = N1 + 1 := (by rw [← eN, ← eW1, ← eN1]; simp); rw [eN1] at ob ONA; rw [eN] at rb; have OND := Lib.hid (show ∀ g, o g ≠ 0 → g ≠ N from fun g hg e => by have := ONA.out g hg; omega); have ON1 := Lib.hid (show ∀ g, o g ≠ 0 → g ≠ N1 from fun g hg e => by have := ONA.out g hg; omega); have NN := Lib.hid hNN; have KM := Lib.hid kM; have HM := Lib.hid hM; have RB := Lib.hid rb; have OB := Lib.hid ob; have EN := Lib.hid eN1; have OT := Lib.hid (h.oT i t hi ht); have NM := Lib.hid (lt_of_cell rb.r0); clear hNN
  have hkind := hk
  have d1 : (kind == 1) = false := by simp; omega
  have d5 : (kind == 5) = false := by simp; omega
  have d6 : (kind == 6) = false := by simp; omega
  have d7 : (kind == 7) = false := by simp; omega
  clear hk
  have t3 := (hM.t i t hi ht).c3; have f3 := (hM.t i t hi ht).fz 3; have A2 := hM.txn hi ht (opsT t) rfl rfl ((hM.t i t hi ht).ops' (t.ops + 1)); obtain ⟨op1, eo1⟩ : ∃ op1, t.ops + 1 = op1 := ⟨_, rfl⟩; rw [eo1] at A2; have k2 := keep_one M ⟨t.b, 3, none⟩ (.int .i64 op1); obtain ⟨M2, e2⟩ : ∃ M2, M.setCell ⟨t.b, 3, none⟩ (.int .i64 op1) = M2 := ⟨_, rfl⟩; rw [e2] at A2 k2; have hbN : ¬ N = t.b := (fun e => OND.out t.b (by rw [OT.out.1]; omega) e.symm); have hbN1 : ¬ N1 = t.b := (fun e => ON1.out t.b (by rw [OT.out.1]; omega) e.symm); have R5 := Lib.hid (RB.out.keep k2 hbN); have ob2 := ob.keep k2 hbN1; have KX : RowKit.Hid (Keep (fun g => o g ≠ 0) M M2) := Lib.hid (k2.mono fun g e => by have e : g = t.b := e; rw [e, OT.out.1]; omega)
  have PP := hP M2 A2
  unfold opV at PP
  obtain ⟨re, rv, rp, ro, rs⟩ := r; obtain ⟨oa, ob, oc, od⟩ := ob; obtain ⟨pa, pb, pc, pd⟩ := ob2; obtain ⟨op0, eo0⟩ : ∃ op0, t.ops = op0 := ⟨_, rfl⟩; rw [eo0] at t3 eo1 ho; have wo : IntKind.i64.wrap (op0 + 1) = op1 := (by rw [← eo1]; exact IntWalk.i64_in _ (by omega)); unfold opV; dsimp only at *; clear h kM hM rb ht kM0 kW1 hkind hP A2 k2 eo0 eo1 ho
  go_enter Try.func50, Try.ntmps50
  go_wp2_with fail
  refine PP.mono ?_
  clear eM eW1 oa ob oc od pa pb pc pd t3 f3 e2
  rintro e w4 ⟨u4, z', K', o', rfl, hz, ou, og, a4, k4, n4⟩; clear PP; obtain ⟨A5, n5, c5, rfl⟩ := ownM_shape ou; have R6 := Lib.hid (R5.out.keep k4 (fun e => OND.out N e rfl)); obtain ⟨q0, q1, q2, q3, q4, q5⟩ := R6.out; have A4 := Lib.hid a4; have K4 := Lib.hid k4; have N4 := Lib.hid n4; have OU := Lib.hid ou; have OG := Lib.hid og; have HZ := Lib.hid hz; clear a4 k4 n4 ou og hz; unfold reV; dsimp only; go_wp2; (obtain ⟨W7, eW7⟩ : ∃ W7, (((((w4.setCell ⟨N, 0, none⟩ (.int .i64 re)).setCell ⟨N, 1, none⟩ (.int .i64 rv)).setCell ⟨N, 2, none⟩ (.slice A5 n5 c5)).setCell ⟨N, 3, none⟩ (.int .i64 ro)).setCell ⟨N, 4, none⟩ (.int .i64 rs)) = W7 := ⟨_, rfl⟩; obtain ⟨⟨v0, v1, v2, v3, v4, _⟩, k7⟩ := res_set R6.out _ _ _ _ _ eW7; rw [eW7]; refine bodyPost_ret (v := .agg #[.int .i64 re, .int .i64 rv, .slice A5 n5 c5, .int .i64 ro, .int .i64 rs]) (by simp [results, Try.results50, go_sem, v0, v1, v2, v3, v4]) rfl ?_); exact ⟨_, z', K', o', rfl, HZ.out, OU.out.keep k7 (fun g hg e => by have e : g = N := e; have := (OG.out g hg).1; have q : N < M.heap.size := NM.out; have := KX.out.size; omega), (fun g hg => ⟨Nat.le_trans (KM.out.trans' KX.out).size (OG.out g hg).1, (OG.out g hg).2⟩), A4.out.keep k7 (fun g hg e => by have e : g = N := e; rcases N4.out g hg with a | a; exact OND.out g a e; have q : N < M.heap.size := NM.out; have := KX.out.size; omega), (((KM.out.trans' KX.out).trans K4.out).older' k7 (by rw [EN.out]; have := NN.out; omega)), (fun g hg => (N4.out g hg).imp id (Nat.le_trans (KM.out.trans' KX.out).size))⟩
end
end Go.Proofs.Ytkkjofefjepodaa
