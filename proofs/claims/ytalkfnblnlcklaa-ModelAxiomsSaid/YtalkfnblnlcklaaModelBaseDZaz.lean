/- Several texts, one behind the other: LdJ, MdD1, MdD2. -/
import Derived.Test.YtalkfnblnlcklaaModelBaseDZay
import Derived.Test.YtalkfnblnlcklaaModelBaseDZao
import Derived.Test.YtalkfnblnlcklaaModelBaseDZat
import Derived.Test.YtalkfnblnlcklaaModelBaseDZav
import Derived.Test.YtalkfnblnlcklaaModelBaseDZap
import Derived.Test.YtalkfnblnlcklaaModelBaseDZaw
import Derived.Test.YtalkfnblnlcklaaModelBaseDZaf
/- Package model as landed, in memory: Do. Condition: at most 100,000 versions of a key. -/
namespace Go.Proofs.Ytalkfnblnlcklaa
open Go.ChangeShapes Go.WideShapes Go.ChangeAt Go.RowKit
set_option linter.unusedVariables false
set_option linter.unusedSimpArgs false
section
variable {w w' w2 : World} {m g n c : Nat} {K : Nat → Value} {o : Nat → Nat} {z : LdI} {T : Nat → Prop} {F : Nat → FtI} {P : VeI → Bool} {t : TtI} {fv : Value} {l : List VeI}
/-- What Do answers, and leaves. -/
def DoEnd (w : World) (m : Nat) (o : Nat → Nat) (r : ReI) (e0 : Int) (Zs : LdI → Prop) (e : Ending) (w' : World) : Prop :=
 ∃ u z' K' o', e = .returned (.tuple #[reV r u, .int .i64 e0]) ∧ Zs z' ∧ OwnPr w' u r.pairs ∧ (∀ g, u.ownBlock = some g → w.heap.size ≤ g ∧ o' g = 0) ∧ LdAt w' m K' o' z' ∧ Keep (fun g => o g ≠ 0) w w' ∧ ∀ g, o' g ≠ 0 → o g ≠ 0 ∨ w.heap.size ≤ g
set_option maxRecDepth 100000 in
set_option maxHeartbeats 2000000 in
theorem do_arg (h : LdAt w m K o z) (s : Int) (hs : s < 0 ∨ 7 < s) (op : OpI) : Calls Try.prog 19 #[.pointer (some ⟨m, 0, none⟩), .int .i64 s, opV op] w (DoEnd w m o re0 1 fun z' => z' = z) := by
 obtain ⟨W1, eW1, ob, kW1⟩ := op_box w op; obtain ⟨M, eM, rb, kM0⟩ := res_box W1; have kM := kW1.trans kM0; have ob := ob.keep kM0 id; have hM := h.quiet kM; have ONA := Lib.hid (show ∀ g, o g ≠ 0 → g < w.heap.size from h.lt); obtain ⟨N1, eN1⟩ : ∃ N1, w.heap.size = N1 := ⟨_, rfl⟩; obtain ⟨N, eN⟩ : ∃ N, W1.heap.size = N := ⟨_, rfl⟩; have hNN : N = N1 + 1 := (by rw [← eN, ← eW1, ← eN1]; simp); rw [eN1] at ob ONA; rw [eN] at rb; have OND := Lib.hid (show ∀ g, o g ≠ 0 → g ≠ N from fun g hg e => by have := ONA.out g hg; omega); have NN := Lib.hid hNN; have KM := Lib.hid kM; have HM := Lib.hid hM; have RB := Lib.hid rb; have OB := Lib.hid ob; have EN := Lib.hid eN1; have NM := Lib.hid (lt_of_cell rb.r0); clear hNN; obtain ⟨kind, key, hi', val⟩ := op; obtain ⟨oa, ob, oc, od⟩ := ob; unfold opV; dsimp only at *
 have S := issession_any s false (by symm; rw [decide_eq_false_iff_not]; omega) M
 have KX : RowKit.Hid (Keep (fun _ => False) M M) := Lib.hid (Keep.refl _ _)
 clear h kM hM rb kM0 kW1 hs
 go_enter Try.func19, Try.ntmps19
 go_wp2_with fail
 refine S.mono ?_
 rintro e w1 ⟨rfl, rfl⟩
 clear S eM eW1 oa ob oc od
 have R6 := Lib.hid (RB.out.keep KX.out id); obtain ⟨q0, q1, q2, q3, q4, q5⟩ := R6.out; go_wp2; (obtain ⟨W7, eW7⟩ : ∃ W7, (((((w1.setCell ⟨N, 0, none⟩ (.int .i64 0)).setCell ⟨N, 1, none⟩ (.int .i64 0)).setCell ⟨N, 2, none⟩ (.slice none 0 0)).setCell ⟨N, 3, none⟩ (.int .i64 0)).setCell ⟨N, 4, none⟩ (.int .i64 0)) = W7 := ⟨_, rfl⟩; obtain ⟨⟨v0, v1, v2, v3, v4, _⟩, k7⟩ := res_set R6.out _ _ _ _ _ eW7; rw [eW7]; refine bodyPost_ret (v := .tuple #[.agg #[.int .i64 0, .int .i64 0, .slice none 0 0, .int .i64 0, .int .i64 0], .int .i64 1]) (by simp [results, Try.results19, go_sem, v0, v1, v2, v3, v4]) rfl ?_); exact ⟨_, z, K, o, rfl, rfl, OwnM.nil, (fun g hg => by cases hg), (HM.out.quiet KX.out).keep k7 (fun g hg e => OND.out g hg e), (((KM.out.trans KX.out).mono fun _ e => e.elim).older' k7 (by rw [EN.out]; have := NN.out; omega)), fun g hg => .inl hg⟩
set_option maxRecDepth 100000 in
set_option maxHeartbeats 2000000 in
theorem do_none (h : LdAt w m K o z) (i : Nat) (hi : i < 8) (hn : z.s i = none) (op : OpI) : Calls Try.prog 19 #[.pointer (some ⟨m, 0, none⟩), .int .i64 i, opV op] w (DoEnd w m o re0 9 fun z' => z' = z) := by
 obtain ⟨W1, eW1, ob, kW1⟩ := op_box w op; obtain ⟨M, eM, rb, kM0⟩ := res_box W1; have kM := kW1.trans kM0; have ob := ob.keep kM0 id; have hM := h.quiet kM; have ONA := Lib.hid (show ∀ g, o g ≠ 0 → g < w.heap.size from h.lt); obtain ⟨N1, eN1⟩ : ∃ N1, w.heap.size = N1 := ⟨_, rfl⟩; obtain ⟨N, eN⟩ : ∃ N, W1.heap.size = N := ⟨_, rfl⟩; have hNN : N = N1 + 1 := (by rw [← eN, ← eW1, ← eN1]; simp); rw [eN1] at ob ONA; rw [eN] at rb; have OND := Lib.hid (show ∀ g, o g ≠ 0 → g ≠ N from fun g hg e => by have := ONA.out g hg; omega); have NN := Lib.hid hNN; have KM := Lib.hid kM; have HM := Lib.hid hM; have RB := Lib.hid rb; have OB := Lib.hid ob; have EN := Lib.hid eN1; have NM := Lib.hid (lt_of_cell rb.r0); clear hNN; obtain ⟨kind, key, hi', val⟩ := op; obtain ⟨oa, ob, oc, od⟩ := ob; unfold opV; dsimp only at *
 have S := issession_any i true (by symm; rw [decide_eq_true_iff]; omega) M
 have KX : RowKit.Hid (Keep (fun _ => False) M M) := Lib.hid (Keep.refl _ _)
 have cs := hM.a.cs i hi
 rw [hn] at cs
 dsimp only [Option.map, ptrO] at cs
 have hi2 : (i : Int) < 8 := by omega
 clear h kM hM rb kM0 kW1 hn
 go_enter Try.func19, Try.ntmps19
 go_wp2_with fail
 refine S.mono ?_
 rintro e w1 ⟨rfl, rfl⟩
 clear S eM eW1 oa ob oc od
 have R6 := Lib.hid (RB.out.keep KX.out id); obtain ⟨q0, q1, q2, q3, q4, q5⟩ := R6.out; go_wp2; (obtain ⟨W7, eW7⟩ : ∃ W7, (((((w1.setCell ⟨N, 0, none⟩ (.int .i64 0)).setCell ⟨N, 1, none⟩ (.int .i64 0)).setCell ⟨N, 2, none⟩ (.slice none 0 0)).setCell ⟨N, 3, none⟩ (.int .i64 0)).setCell ⟨N, 4, none⟩ (.int .i64 0)) = W7 := ⟨_, rfl⟩; obtain ⟨⟨v0, v1, v2, v3, v4, _⟩, k7⟩ := res_set R6.out _ _ _ _ _ eW7; rw [eW7]; refine bodyPost_ret (v := .tuple #[.agg #[.int .i64 0, .int .i64 0, .slice none 0 0, .int .i64 0, .int .i64 0], .int .i64 9]) (by simp [results, Try.results19, go_sem, v0, v1, v2, v3, v4]) rfl ?_); exact ⟨_, z, K, o, rfl, rfl, OwnM.nil, (fun g hg => by cases hg), (HM.out.quiet KX.out).keep k7 (fun g hg e => OND.out g hg e), (((KM.out.trans KX.out).mono fun _ e => e.elim).older' k7 (by rw [EN.out]; have := NN.out; omega)), fun g hg => .inl hg⟩
set_option maxRecDepth 100000 in
set_option maxHeartbeats 2000000 in
theorem do_bad (h : LdAt w m K o z) (i : Nat) (hi : i < 8) (ht : z.s i = some t) (op : OpI) (hok : okI op = false) : Calls Try.prog 19 #[.pointer (some ⟨m, 0, none⟩), .int .i64 i, opV op] w (DoEnd w m o re0 9 fun z' => z' = z) := by
 obtain ⟨W1, eW1, ob, kW1⟩ := op_box w op; obtain ⟨M, eM, rb, kM0⟩ := res_box W1; have kM := kW1.trans kM0; have ob := ob.keep kM0 id; have hM := h.quiet kM; have ONA := Lib.hid (show ∀ g, o g ≠ 0 → g < w.heap.size from h.lt); obtain ⟨N1, eN1⟩ : ∃ N1, w.heap.size = N1 := ⟨_, rfl⟩; obtain ⟨N, eN⟩ : ∃ N, W1.heap.size = N := ⟨_, rfl⟩; have hNN : N = N1 + 1 := (by rw [← eN, ← eW1, ← eN1]; simp); rw [eN1] at ob ONA; rw [eN] at rb; have OND := Lib.hid (show ∀ g, o g ≠ 0 → g ≠ N from fun g hg e => by have := ONA.out g hg; omega); have NN := Lib.hid hNN; have KM := Lib.hid kM; have HM := Lib.hid hM; have RB := Lib.hid rb; have OB := Lib.hid ob; have EN := Lib.hid eN1; have NM := Lib.hid (lt_of_cell rb.r0); clear hNN; obtain ⟨kind, key, hi', val⟩ := op; obtain ⟨oa, ob, oc, od⟩ := ob; unfold opV; dsimp only at *
 have S := issession_any i true (by symm; rw [decide_eq_true_iff]; omega) M; have cs := hM.a.cs i hi; rw [ht] at cs; dsimp only [Option.map, ptrO] at cs; have hi2 : (i : Int) < 8 := (by omega); have IO := isop_any ⟨kind, key, hi', val⟩ M; unfold opV at IO; rw [hok] at IO; dsimp only at IO
 have qe := fun w => (eql_nilT (w := w) (a := t.b)).1
 clear h kM hM rb kM0 kW1 ht hok
 go_enter Try.func19, Try.ntmps19
 go_wp2_with fail
 refine S.mono ?_
 rintro e w1 ⟨rfl, rfl⟩
 clear S
 go_wp2_with fail
 refine IO.mono ?_
 rintro e w2 ⟨rfl, k2⟩
 have KX := Lib.hid k2
 clear IO eM eW1 oa ob oc od cs k2
 have R6 := Lib.hid (RB.out.keep KX.out id); obtain ⟨q0, q1, q2, q3, q4, q5⟩ := R6.out; go_wp2; (obtain ⟨W7, eW7⟩ : ∃ W7, (((((w2.setCell ⟨N, 0, none⟩ (.int .i64 0)).setCell ⟨N, 1, none⟩ (.int .i64 0)).setCell ⟨N, 2, none⟩ (.slice none 0 0)).setCell ⟨N, 3, none⟩ (.int .i64 0)).setCell ⟨N, 4, none⟩ (.int .i64 0)) = W7 := ⟨_, rfl⟩; obtain ⟨⟨v0, v1, v2, v3, v4, _⟩, k7⟩ := res_set R6.out _ _ _ _ _ eW7; rw [eW7]; refine bodyPost_ret (v := .tuple #[.agg #[.int .i64 0, .int .i64 0, .slice none 0 0, .int .i64 0, .int .i64 0], .int .i64 9]) (by simp [results, Try.results19, go_sem, v0, v1, v2, v3, v4]) rfl ?_); exact ⟨_, z, K, o, rfl, rfl, OwnM.nil, (fun g hg => by cases hg), (HM.out.quiet KX.out).keep k7 (fun g hg e => OND.out g hg e), (((KM.out.trans KX.out).mono fun _ e => e.elim).older' k7 (by rw [EN.out]; have := NN.out; omega)), fun g hg => .inl hg⟩
set_option maxRecDepth 100000 in
set_option maxHeartbeats 2000000 in
theorem do_many (h : LdAt w m K o z) (i : Nat) (hi : i < 8) (ht : z.s i = some t) (op : OpI) (hok : okI op = true) (hk : decide (op.kind = 6 ∨ op.kind = 7) = false) (h12 : t.ops = 12) : Calls Try.prog 19 #[.pointer (some ⟨m, 0, none⟩), .int .i64 i, opV op] w (DoEnd w m o re0 65 fun z' => z' = z) := by
 obtain ⟨W1, eW1, ob, kW1⟩ := op_box w op; obtain ⟨M, eM, rb, kM0⟩ := res_box W1; have kM := kW1.trans kM0; have ob := ob.keep kM0 id; have hM := h.quiet kM; have ONA := Lib.hid (show ∀ g, o g ≠ 0 → g < w.heap.size from h.lt); obtain ⟨N1, eN1⟩ : ∃ N1, w.heap.size = N1 := ⟨_, rfl⟩; obtain ⟨N, eN⟩ : ∃ N, W1.heap.size = N := ⟨_, rfl⟩; have hNN : N = N1 + 1 := (by rw [← eN, ← eW1, ← eN1]; simp); rw [eN1] at ob ONA; rw [eN] at rb; have OND := Lib.hid (show ∀ g, o g ≠ 0 → g ≠ N from fun g hg e => by have := ONA.out g hg; omega); have NN := Lib.hid hNN; have KM := Lib.hid kM; have HM := Lib.hid hM; have RB := Lib.hid rb; have OB := Lib.hid ob; have EN := Lib.hid eN1; have NM := Lib.hid (lt_of_cell rb.r0); clear hNN; obtain ⟨kind, key, hi', val⟩ := op; obtain ⟨oa, ob, oc, od⟩ := ob; unfold opV; dsimp only at *
 have S := issession_any i true (by symm; rw [decide_eq_true_iff]; omega) M; have cs := hM.a.cs i hi; rw [ht] at cs; dsimp only [Option.map, ptrO] at cs; have hi2 : (i : Int) < 8 := (by omega); have IO := isop_any ⟨kind, key, hi', val⟩ M; unfold opV at IO; rw [hok] at IO; dsimp only at IO
 have EO := Lib.hid fun w2 => ends_any ⟨kind, key, hi', val⟩ w2; unfold opV at EO; rw [hk] at EO; dsimp only at EO
 have qe := fun w => (eql_nilT (w := w) (a := t.b)).1
 have T3 := Lib.hid fun w1 (k1 : Keep (fun _ => False) M w1) => k1.cell (hM.t i t hi ht).c3 id
 rw [h12] at T3
 clear h kM hM rb kM0 kW1 ht hok hk h12
 go_enter Try.func19, Try.ntmps19; go_wp2_with fail; refine S.mono ?_; rintro e w1 ⟨rfl, rfl⟩; clear S; go_wp2_with fail; refine IO.mono ?_; rintro e w2 ⟨rfl, k2⟩; have K2 := Lib.hid k2; clear IO eM eW1 oa ob oc od cs k2; obtain ⟨oa, ob, oc, od⟩ := OB.out.keep K2.out id; have EO := EO.out w2; go_wp2_with fail; refine EO.mono ?_; rintro e w3 ⟨rfl, k3⟩; have KX := Lib.hid (K2.out.trans k3); clear EO k3 K2 oa ob oc od
 have t3 := T3.out w3 KX.out
 have R6 := Lib.hid (RB.out.keep KX.out id); obtain ⟨q0, q1, q2, q3, q4, q5⟩ := R6.out; go_wp2; (obtain ⟨W7, eW7⟩ : ∃ W7, (((((w3.setCell ⟨N, 0, none⟩ (.int .i64 0)).setCell ⟨N, 1, none⟩ (.int .i64 0)).setCell ⟨N, 2, none⟩ (.slice none 0 0)).setCell ⟨N, 3, none⟩ (.int .i64 0)).setCell ⟨N, 4, none⟩ (.int .i64 0)) = W7 := ⟨_, rfl⟩; obtain ⟨⟨v0, v1, v2, v3, v4, _⟩, k7⟩ := res_set R6.out _ _ _ _ _ eW7; rw [eW7]; refine bodyPost_ret (v := .tuple #[.agg #[.int .i64 0, .int .i64 0, .slice none 0 0, .int .i64 0, .int .i64 0], .int .i64 65]) (by simp [results, Try.results19, go_sem, v0, v1, v2, v3, v4]) rfl ?_); exact ⟨_, z, K, o, rfl, rfl, OwnM.nil, (fun g hg => by cases hg), (HM.out.quiet KX.out).keep k7 (fun g hg e => OND.out g hg e), (((KM.out.trans KX.out).mono fun _ e => e.elim).older' k7 (by rw [EN.out]; have := NN.out; omega)), fun g hg => .inl hg⟩
theorem LdEnd.to {r : ReI} {Zs : LdI → Prop} {e : Ending} (h : LdEnd w m o r Zs e w') : ∃ A q c z' K' o', e = .returned (reV r (.slice A q c)) ∧ Zs z' ∧ OwnPr w' (.slice A q c) r.pairs ∧ (∀ g, (Value.slice A q c).ownBlock = some g → w.heap.size ≤ g ∧ o' g = 0) ∧ LdAt w' m K' o' z' ∧ Keep (fun g => o g ≠ 0) w w' ∧ ∀ g, o' g ≠ 0 → o g ≠ 0 ∨ w.heap.size ≤ g := by
 obtain ⟨u, z', K', o', a, b, c, d⟩ := h
 obtain ⟨A, q, cc, rfl⟩ := ownM_shape c
 exact ⟨A, q, cc, z', K', o', a, b, c, d⟩
/-- A result in a box of its own, told again. -/
theorem res_box2 (w4 : World) {N2 : Nat} (eN2 : w4.heap.size = N2) (v0 v1 v2 v3 v4 : Value) : ∃ w5, w4.alloc (.cells #[.int .i64 0, .int .i64 0, .slice none 0 0, .int .i64 0, .int .i64 0] 65) = w5 ∧ ResAt w5 N2 (.int .i64 0) (.int .i64 0) (.slice none 0 0) (.int .i64 0) (.int .i64 0) ∧
  ∃ w6, (((((w5.setCell ⟨N2, 0, none⟩ v0).setCell ⟨N2, 1, none⟩ v1).setCell ⟨N2, 2, none⟩ v2).setCell ⟨N2, 3, none⟩ v3).setCell ⟨N2, 4, none⟩ v4) = w6 ∧ ResAt w6 N2 v0 v1 v2 v3 v4 ∧ Keep (fun _ => False) w4 w6 := by
 obtain ⟨w5, e5, rb5, k5⟩ := res_box w4
 rw [eN2] at rb5
 obtain ⟨w6, e6⟩ : ∃ w6, (((((w5.setCell ⟨N2, 0, none⟩ v0).setCell ⟨N2, 1, none⟩ v1).setCell ⟨N2, 2, none⟩ v2).setCell ⟨N2, 3, none⟩ v3).setCell ⟨N2, 4, none⟩ v4) = w6 := ⟨_, rfl⟩
 obtain ⟨rb6, k6⟩ := res_set rb5 _ _ _ _ _ e6
 exact ⟨w5, e5, rb5, w6, e6, rb6, ⟨k6.os.trans k5.os, k6.tape.trans k5.tape, k6.output.trans k5.output, Nat.le_trans k5.size k6.size, fun j hj _ => (k6.block j (Nat.lt_of_lt_of_le hj k5.size) (by omega)).trans (k5.block j hj id)⟩⟩
set_option maxRecDepth 100000 in
set_option maxHeartbeats 4000000 in
theorem do_stay (h : LdAt w m K o z) (i : Nat) (hi : i < 8) (ht : z.s i = some t) (op : OpI) (hok : okI op = true) (b : Bool) (hk : decide (op.kind = 6 ∨ op.kind = 7) = b) (h12 : b = true ∨ t.ops ≠ 12) (r : ReI) (hov : r.over = 0) (Zs : LdI → Prop)
  (hP : ∀ w1, LdAt w1 m K o z → Calls Try.prog 38 #[.pointer (some ⟨m, 0, none⟩), .pointer (some ⟨t.b, 0, none⟩), opV op] w1 (LdEnd w1 m o r Zs)) :
  Calls Try.prog 19 #[.pointer (some ⟨m, 0, none⟩), .int .i64 i, opV op] w (DoEnd w m o r 0 Zs) := by
 obtain ⟨W1, eW1, ob, kW1⟩ := op_box w op; obtain ⟨M, eM, rb, kM0⟩ := res_box W1; have kM := kW1.trans kM0; have ob := ob.keep kM0 id; have hM := h.quiet kM; have ONA := Lib.hid (show ∀ g, o g ≠ 0 → g < w.heap.size from h.lt); obtain ⟨N1, eN1⟩ : ∃ N1, w.heap.size = N1 := ⟨_, rfl⟩; obtain ⟨N, eN⟩ : ∃ N, W1.heap.size = N := ⟨_, rfl⟩; have hNN : N = N1 + 1 := (by rw [← eN, ← eW1, ← eN1]; simp); rw [eN1] at ob ONA; rw [eN] at rb; have OND := Lib.hid (show ∀ g, o g ≠ 0 → g ≠ N from fun g hg e => by have := ONA.out g hg; omega); have NN := Lib.hid hNN; have KM := Lib.hid kM; have HM := Lib.hid hM; have RB := Lib.hid rb; have OB := Lib.hid ob; have EN := Lib.hid eN1; have NM := Lib.hid (lt_of_cell rb.r0); clear hNN; obtain ⟨kind, key, hi', val⟩ := op; obtain ⟨oa, ob, oc, od⟩ := ob; unfold opV; dsimp only at *
 have S := issession_any i true (by symm; rw [decide_eq_true_iff]; omega) M; have cs := hM.a.cs i hi; rw [ht] at cs; dsimp only [Option.map, ptrO] at cs; have hi2 : (i : Int) < 8 := (by omega); have IO := isop_any ⟨kind, key, hi', val⟩ M; unfold opV at IO; rw [hok] at IO; dsimp only at IO
 have EO := Lib.hid fun w2 => ends_any ⟨kind, key, hi', val⟩ w2; unfold opV at EO; rw [hk] at EO; dsimp only at EO
 have qe := fun w => (eql_nilT (w := w) (a := t.b)).1
 have T3 := Lib.hid fun w1 (k1 : Keep (fun _ => False) M w1) => k1.cell (hM.t i t hi ht).c3 id
 have PP := Lib.hid fun w1 (k1 : Keep (fun _ => False) M w1) => hP w1 (hM.quiet k1)
 obtain ⟨re, rv, rp, ro, rs⟩ := r
 obtain ⟨t0, et0⟩ : ∃ t0, t.ops = t0 := ⟨_, rfl⟩
 rw [et0] at T3 h12
 have dov : (ro != 0) = false := by simpa using hov
 unfold opV at PP
 dsimp only at PP
 have hi2 : (i : Int) < 8 := by omega
 clear h kM hM rb kM0 kW1 ht hok hk hP hov et0
 cases b
 ·have d12 : (t0 == 12) = false := by simpa using h12
  clear h12
  go_enter Try.func19, Try.ntmps19
  go_wp2_with fail; refine S.mono ?_; rintro e w1 ⟨rfl, rfl⟩; clear S; go_wp2_with fail; refine IO.mono ?_; rintro e w2 ⟨rfl, k2⟩; have K2 := Lib.hid k2; clear IO eM eW1 oa ob oc od cs k2; obtain ⟨oa, ob, oc, od⟩ := OB.out.keep K2.out id; have EO := EO.out w2; go_wp2_with fail; refine EO.mono ?_; rintro e w3 ⟨rfl, k3⟩; have KX := Lib.hid (K2.out.trans k3); clear EO k3 K2 oa ob oc od; have t3 := T3.out w3 KX.out; have PP := PP.out w3 KX.out; obtain ⟨oa, ob, oc, od⟩ := OB.out.keep KX.out id; go_wp2_with fail; refine PP.mono ?_; intro e w4 hend; obtain ⟨A5, n5, c5, z', K', o', rfl, hz, ou, og, a4, k4, n4⟩ := LdEnd.to hend; clear PP hend; have s4 := k4.size; have s3 := KX.out.size; obtain ⟨N2, eN2⟩ : ∃ N2, w4.heap.size = N2 := ⟨_, rfl⟩; obtain ⟨w5, e5, ⟨x0, x1, x2, x3, x4, x5⟩, w6, e6, ⟨y0, y1, y2, y3, y4, y5⟩, k6⟩ := res_box2 w4 eN2 (.int .i64 re) (.int .i64 rv) (.slice A5 n5 c5) (.int .i64 ro) (.int .i64 rs); have nN : N < _ := NM.out; have nN2 : ¬ N = N2 := (by omega); have N4 := Lib.hid n4; have OG := Lib.hid og; have HZ := Lib.hid hz; have A6 := Lib.hid (a4.quiet k6); have OU := Lib.hid (ou.keep k6 (fun _ _ => id)); have K6 := Lib.hid (((KM.out.trans KX.out).trans' k4).trans (k6.mono fun _ e => e.elim)); have RW := Lib.hid ((RB.out.keep KX.out id).keep k4 (fun e => OND.out N e rfl)); have RW6 := Lib.hid (RW.out.keep k6 id); clear oa ob oc od n4 og hz a4 ou k4 k6 RW; unfold reV; dsimp only
  have R6 := RW6; obtain ⟨q0, q1, q2, q3, q4, q5⟩ := R6.out; go_wp2; (obtain ⟨W7, eW7⟩ : ∃ W7, (((((w6.setCell ⟨N, 0, none⟩ (.int .i64 re)).setCell ⟨N, 1, none⟩ (.int .i64 rv)).setCell ⟨N, 2, none⟩ (.slice A5 n5 c5)).setCell ⟨N, 3, none⟩ (.int .i64 ro)).setCell ⟨N, 4, none⟩ (.int .i64 rs)) = W7 := ⟨_, rfl⟩; obtain ⟨⟨v0, v1, v2, v3, v4, _⟩, k7⟩ := res_set R6.out _ _ _ _ _ eW7; rw [eW7]; refine bodyPost_ret (v := .tuple #[.agg #[.int .i64 re, .int .i64 rv, .slice A5 n5 c5, .int .i64 ro, .int .i64 rs], .int .i64 0]) (by simp [results, Try.results19, go_sem, v0, v1, v2, v3, v4]) rfl ?_); exact ⟨_, z', K', o', rfl, HZ.out, OU.out.keep k7 (fun g hg e => by have e : g = N := e; have := (OG.out g hg).1; omega), (fun g hg => ⟨Nat.le_trans (KM.out.trans KX.out).size (OG.out g hg).1, (OG.out g hg).2⟩), A6.out.keep k7 (fun g hg e => by have e : g = N := e; rcases N4.out g hg with a | a; exact OND.out g a e; omega), K6.out.older' k7 (by rw [EN.out]; have := NN.out; omega), fun g hg => (N4.out g hg).imp id (Nat.le_trans (KM.out.trans KX.out).size)⟩
 ·clear h12
  go_enter Try.func19, Try.ntmps19
  go_wp2_with fail; refine S.mono ?_; rintro e w1 ⟨rfl, rfl⟩; clear S; go_wp2_with fail; refine IO.mono ?_; rintro e w2 ⟨rfl, k2⟩; have K2 := Lib.hid k2; clear IO eM eW1 oa ob oc od cs k2; obtain ⟨oa, ob, oc, od⟩ := OB.out.keep K2.out id; have EO := EO.out w2; go_wp2_with fail; refine EO.mono ?_; rintro e w3 ⟨rfl, k3⟩; have KX := Lib.hid (K2.out.trans k3); clear EO k3 K2 oa ob oc od; have t3 := T3.out w3 KX.out; have PP := PP.out w3 KX.out; obtain ⟨oa, ob, oc, od⟩ := OB.out.keep KX.out id; go_wp2_with fail; refine PP.mono ?_; intro e w4 hend; obtain ⟨A5, n5, c5, z', K', o', rfl, hz, ou, og, a4, k4, n4⟩ := LdEnd.to hend; clear PP hend; have s4 := k4.size; have s3 := KX.out.size; obtain ⟨N2, eN2⟩ : ∃ N2, w4.heap.size = N2 := ⟨_, rfl⟩; obtain ⟨w5, e5, ⟨x0, x1, x2, x3, x4, x5⟩, w6, e6, ⟨y0, y1, y2, y3, y4, y5⟩, k6⟩ := res_box2 w4 eN2 (.int .i64 re) (.int .i64 rv) (.slice A5 n5 c5) (.int .i64 ro) (.int .i64 rs); have nN : N < _ := NM.out; have nN2 : ¬ N = N2 := (by omega); have N4 := Lib.hid n4; have OG := Lib.hid og; have HZ := Lib.hid hz; have A6 := Lib.hid (a4.quiet k6); have OU := Lib.hid (ou.keep k6 (fun _ _ => id)); have K6 := Lib.hid (((KM.out.trans KX.out).trans' k4).trans (k6.mono fun _ e => e.elim)); have RW := Lib.hid ((RB.out.keep KX.out id).keep k4 (fun e => OND.out N e rfl)); have RW6 := Lib.hid (RW.out.keep k6 id); clear oa ob oc od n4 og hz a4 ou k4 k6 RW; unfold reV; dsimp only
  have R6 := RW6; obtain ⟨q0, q1, q2, q3, q4, q5⟩ := R6.out; go_wp2; (obtain ⟨W7, eW7⟩ : ∃ W7, (((((w6.setCell ⟨N, 0, none⟩ (.int .i64 re)).setCell ⟨N, 1, none⟩ (.int .i64 rv)).setCell ⟨N, 2, none⟩ (.slice A5 n5 c5)).setCell ⟨N, 3, none⟩ (.int .i64 ro)).setCell ⟨N, 4, none⟩ (.int .i64 rs)) = W7 := ⟨_, rfl⟩; obtain ⟨⟨v0, v1, v2, v3, v4, _⟩, k7⟩ := res_set R6.out _ _ _ _ _ eW7; rw [eW7]; refine bodyPost_ret (v := .tuple #[.agg #[.int .i64 re, .int .i64 rv, .slice A5 n5 c5, .int .i64 ro, .int .i64 rs], .int .i64 0]) (by simp [results, Try.results19, go_sem, v0, v1, v2, v3, v4]) rfl ?_); exact ⟨_, z', K', o', rfl, HZ.out, OU.out.keep k7 (fun g hg e => by have e : g = N := e; have := (OG.out g hg).1; omega), (fun g hg => ⟨Nat.le_trans (KM.out.trans KX.out).size (OG.out g hg).1, (OG.out g hg).2⟩), A6.out.keep k7 (fun g hg e => by have e : g = N := e; rcases N4.out g hg with a | a; exact OND.out g a e; omega), K6.out.older' k7 (by rw [EN.out]; have := NN.out; omega), fun g hg => (N4.out g hg).imp id (Nat.le_trans (KM.out.trans KX.out).size)⟩
set_option maxRecDepth 100000 in
set_option maxHeartbeats 4000000 in
theorem do_over (h : LdAt w m K o z) (i : Nat) (hi : i < 8) (ht : z.s i = some t) (op : OpI) (hok : okI op = true) (b : Bool) (hk : decide (op.kind = 6 ∨ op.kind = 7) = b) (h12 : b = true ∨ t.ops ≠ 12) (r : ReI) (hov : r.over ≠ 0) (Zs : LdI → Prop)
  (hP : ∀ w1, LdAt w1 m K o z → Calls Try.prog 38 #[.pointer (some ⟨m, 0, none⟩), .pointer (some ⟨t.b, 0, none⟩), opV op] w1 (LdEnd w1 m o r Zs)) :
  Calls Try.prog 19 #[.pointer (some ⟨m, 0, none⟩), .int .i64 i, opV op] w (DoEnd w m o r 0 fun z' => ∃ z0, Zs z0 ∧ z' = { z0 with s := putT z0.s i none }) := by
 obtain ⟨W1, eW1, ob, kW1⟩ := op_box w op; obtain ⟨M, eM, rb, kM0⟩ := res_box W1; have kM := kW1.trans kM0; have ob := ob.keep kM0 id; have hM := h.quiet kM; have ONA := Lib.hid (show ∀ g, o g ≠ 0 → g < w.heap.size from h.lt); obtain ⟨N1, eN1⟩ : ∃ N1, w.heap.size = N1 := ⟨_, rfl⟩; obtain ⟨N, eN⟩ : ∃ N, W1.heap.size = N := ⟨_, rfl⟩; have hNN : N = N1 + 1 := (by rw [← eN, ← eW1, ← eN1]; simp); rw [eN1] at ob ONA; rw [eN] at rb; have OND := Lib.hid (show ∀ g, o g ≠ 0 → g ≠ N from fun g hg e => by have := ONA.out g hg; omega); have NN := Lib.hid hNN; have KM := Lib.hid kM; have HM := Lib.hid hM; have RB := Lib.hid rb; have OB := Lib.hid ob; have EN := Lib.hid eN1; have NM := Lib.hid (lt_of_cell rb.r0); clear hNN; obtain ⟨kind, key, hi', val⟩ := op; obtain ⟨oa, ob, oc, od⟩ := ob; unfold opV; dsimp only at *
 have S := issession_any i true (by symm; rw [decide_eq_true_iff]; omega) M; have cs := hM.a.cs i hi; rw [ht] at cs; dsimp only [Option.map, ptrO] at cs; have hi2 : (i : Int) < 8 := (by omega); have IO := isop_any ⟨kind, key, hi', val⟩ M; unfold opV at IO; rw [hok] at IO; dsimp only at IO
 have EO := Lib.hid fun w2 => ends_any ⟨kind, key, hi', val⟩ w2; unfold opV at EO; rw [hk] at EO; dsimp only at EO
 have qe := fun w => (eql_nilT (w := w) (a := t.b)).1
 have T3 := Lib.hid fun w1 (k1 : Keep (fun _ => False) M w1) => k1.cell (hM.t i t hi ht).c3 id
 have PP := Lib.hid fun w1 (k1 : Keep (fun _ => False) M w1) => hP w1 (hM.quiet k1)
 obtain ⟨re, rv, rp, ro, rs⟩ := r
 obtain ⟨t0, et0⟩ : ∃ t0, t.ops = t0 := ⟨_, rfl⟩
 rw [et0] at T3 h12
 have dov : (ro != 0) = true := by simpa using hov
 unfold opV at PP
 dsimp only at PP
 have hi2 : (i : Int) < 8 := by omega
 clear h kM hM rb kM0 kW1 ht hok hk hP hov et0
 cases b
 ·have d12 : (t0 == 12) = false := by simpa using h12
  clear h12
  go_enter Try.func19, Try.ntmps19
  go_wp2_with fail; refine S.mono ?_; rintro e w1 ⟨rfl, rfl⟩; clear S; go_wp2_with fail; refine IO.mono ?_; rintro e w2 ⟨rfl, k2⟩; have K2 := Lib.hid k2; clear IO eM eW1 oa ob oc od cs k2; obtain ⟨oa, ob, oc, od⟩ := OB.out.keep K2.out id; have EO := EO.out w2; go_wp2_with fail; refine EO.mono ?_; rintro e w3 ⟨rfl, k3⟩; have KX := Lib.hid (K2.out.trans k3); clear EO k3 K2 oa ob oc od; have t3 := T3.out w3 KX.out; have PP := PP.out w3 KX.out; obtain ⟨oa, ob, oc, od⟩ := OB.out.keep KX.out id; go_wp2_with fail; refine PP.mono ?_; intro e w4 hend; obtain ⟨A5, n5, c5, z', K', o', rfl, hz, ou, og, a4, k4, n4⟩ := LdEnd.to hend; clear PP hend; have s4 := k4.size; have s3 := KX.out.size; obtain ⟨N2, eN2⟩ : ∃ N2, w4.heap.size = N2 := ⟨_, rfl⟩; obtain ⟨w5, e5, ⟨x0, x1, x2, x3, x4, x5⟩, w6, e6, ⟨y0, y1, y2, y3, y4, y5⟩, k6⟩ := res_box2 w4 eN2 (.int .i64 re) (.int .i64 rv) (.slice A5 n5 c5) (.int .i64 ro) (.int .i64 rs); have nN : N < _ := NM.out; have nN2 : ¬ N = N2 := (by omega); have N4 := Lib.hid n4; have OG := Lib.hid og; have HZ := Lib.hid hz; have A6 := Lib.hid (a4.quiet k6); have OU := Lib.hid (ou.keep k6 (fun _ _ => id)); have K6 := Lib.hid (((KM.out.trans KX.out).trans' k4).trans (k6.mono fun _ e => e.elim)); have RW := Lib.hid ((RB.out.keep KX.out id).keep k4 (fun e => OND.out N e rfl)); have RW6 := Lib.hid (RW.out.keep k6 id); clear oa ob oc od n4 og hz a4 ou k4 k6 RW; unfold reV; dsimp only
  have cso := Lib.hid (A6.out.a.cs i hi); have fso := Lib.hid (A6.out.a.fz (4 + i)); obtain ⟨cs, hcs⟩ : ∃ u, w6.cell? ⟨m, 4 + i, none⟩ = some u := ⟨_, cso.out⟩; have fs := fso.out; have A8 := Lib.hid (A6.out.ses hi none (fun u hu => by cases hu)); have k8 := keep_one w6 ⟨m, 4 + i, none⟩ (.pointer none); obtain ⟨w8, e8⟩ : ∃ w8, w6.setCell ⟨m, 4 + i, none⟩ (.pointer none) = w8 := ⟨_, rfl⟩; have A8 : RowKit.Hid (LdAt w8 m K' o' { z' with s := putT z'.s i none }) := Lib.hid (by rw [← e8]; exact A8.out); have om' := A6.out.om; have omW : o m ≠ 0 ∨ w3.heap.size ≤ m := N4.out m (by rw [om']; decide); have HMm := HM.out.om; have nm2 : ¬ N2 = m := (fun e => by have := HM.out.a.lt; omega); have nmN : ¬ N = m := (fun e => OND.out m (by rw [HMm]; decide) e.symm); rw [e8] at k8; have y0 := k8.cell y0 nm2; have y1 := k8.cell y1 nm2; have y2 := k8.cell y2 nm2; have y3b := k8.cell y3 nm2; have y4 := k8.cell y4 nm2; have R6 := Lib.hid (RW6.out.keep k8 nmN); obtain ⟨q0, q1, q2, q3, q4, q5⟩ := R6.out; have OU8 := Lib.hid (OU.out.keep k8 (fun g hg e => by have e : g = m := e; have := (OG.out g hg).2; rw [e, om'] at this; cases this)); have K8 := Lib.hid (K6.out.trans (k8.mono fun g e => by have e : g = m := e; rw [e, HMm]; decide)); clear cso fso k8 om' omW HMm nm2 nmN; go_wp2; (obtain ⟨W7, eW7⟩ : ∃ W7, (((((w8.setCell ⟨N, 0, none⟩ (.int .i64 re)).setCell ⟨N, 1, none⟩ (.int .i64 rv)).setCell ⟨N, 2, none⟩ (.slice A5 n5 c5)).setCell ⟨N, 3, none⟩ (.int .i64 ro)).setCell ⟨N, 4, none⟩ (.int .i64 rs)) = W7 := ⟨_, rfl⟩; obtain ⟨⟨v0, v1, v2, v3, v4, _⟩, k7⟩ := res_set R6.out _ _ _ _ _ eW7; rw [eW7]; refine bodyPost_ret (v := .tuple #[.agg #[.int .i64 re, .int .i64 rv, .slice A5 n5 c5, .int .i64 ro, .int .i64 rs], .int .i64 0]) (by simp [results, Try.results19, go_sem, v0, v1, v2, v3, v4]) rfl ?_); exact ⟨_, _, K', o', rfl, ⟨z', HZ.out, rfl⟩, OU8.out.keep k7 (fun g hg e => by have e : g = N := e; have := (OG.out g hg).1; omega), (fun g hg => ⟨Nat.le_trans (KM.out.trans KX.out).size (OG.out g hg).1, (OG.out g hg).2⟩), A8.out.keep k7 (fun g hg e => by have e : g = N := e; rcases N4.out g hg with a | a; exact OND.out g a e; omega), K8.out.older' k7 (by rw [EN.out]; have := NN.out; omega), fun g hg => (N4.out g hg).imp id (Nat.le_trans (KM.out.trans KX.out).size)⟩
 ·clear h12
  go_enter Try.func19, Try.ntmps19
  go_wp2_with fail; refine S.mono ?_; rintro e w1 ⟨rfl, rfl⟩; clear S; go_wp2_with fail; refine IO.mono ?_; rintro e w2 ⟨rfl, k2⟩; have K2 := Lib.hid k2; clear IO eM eW1 oa ob oc od cs k2; obtain ⟨oa, ob, oc, od⟩ := OB.out.keep K2.out id; have EO := EO.out w2; go_wp2_with fail; refine EO.mono ?_; rintro e w3 ⟨rfl, k3⟩; have KX := Lib.hid (K2.out.trans k3); clear EO k3 K2 oa ob oc od; have t3 := T3.out w3 KX.out; have PP := PP.out w3 KX.out; obtain ⟨oa, ob, oc, od⟩ := OB.out.keep KX.out id; go_wp2_with fail; refine PP.mono ?_; intro e w4 hend; obtain ⟨A5, n5, c5, z', K', o', rfl, hz, ou, og, a4, k4, n4⟩ := LdEnd.to hend; clear PP hend; have s4 := k4.size; have s3 := KX.out.size; obtain ⟨N2, eN2⟩ : ∃ N2, w4.heap.size = N2 := ⟨_, rfl⟩; obtain ⟨w5, e5, ⟨x0, x1, x2, x3, x4, x5⟩, w6, e6, ⟨y0, y1, y2, y3, y4, y5⟩, k6⟩ := res_box2 w4 eN2 (.int .i64 re) (.int .i64 rv) (.slice A5 n5 c5) (.int .i64 ro) (.int .i64 rs); have nN : N < _ := NM.out; have nN2 : ¬ N = N2 := (by omega); have N4 := Lib.hid n4; have OG := Lib.hid og; have HZ := Lib.hid hz; have A6 := Lib.hid (a4.quiet k6); have OU := Lib.hid (ou.keep k6 (fun _ _ => id)); have K6 := Lib.hid (((KM.out.trans KX.out).trans' k4).trans (k6.mono fun _ e => e.elim)); have RW := Lib.hid ((RB.out.keep KX.out id).keep k4 (fun e => OND.out N e rfl)); have RW6 := Lib.hid (RW.out.keep k6 id); clear oa ob oc od n4 og hz a4 ou k4 k6 RW; unfold reV; dsimp only
  have cso := Lib.hid (A6.out.a.cs i hi); have fso := Lib.hid (A6.out.a.fz (4 + i)); obtain ⟨cs, hcs⟩ : ∃ u, w6.cell? ⟨m, 4 + i, none⟩ = some u := ⟨_, cso.out⟩; have fs := fso.out; have A8 := Lib.hid (A6.out.ses hi none (fun u hu => by cases hu)); have k8 := keep_one w6 ⟨m, 4 + i, none⟩ (.pointer none); obtain ⟨w8, e8⟩ : ∃ w8, w6.setCell ⟨m, 4 + i, none⟩ (.pointer none) = w8 := ⟨_, rfl⟩; have A8 : RowKit.Hid (LdAt w8 m K' o' { z' with s := putT z'.s i none }) := Lib.hid (by rw [← e8]; exact A8.out); have om' := A6.out.om; have omW : o m ≠ 0 ∨ w3.heap.size ≤ m := N4.out m (by rw [om']; decide); have HMm := HM.out.om; have nm2 : ¬ N2 = m := (fun e => by have := HM.out.a.lt; omega); have nmN : ¬ N = m := (fun e => OND.out m (by rw [HMm]; decide) e.symm); rw [e8] at k8; have y0 := k8.cell y0 nm2; have y1 := k8.cell y1 nm2; have y2 := k8.cell y2 nm2; have y3b := k8.cell y3 nm2; have y4 := k8.cell y4 nm2; have R6 := Lib.hid (RW6.out.keep k8 nmN); obtain ⟨q0, q1, q2, q3, q4, q5⟩ := R6.out; have OU8 := Lib.hid (OU.out.keep k8 (fun g hg e => by have e : g = m := e; have := (OG.out g hg).2; rw [e, om'] at this; cases this)); have K8 := Lib.hid (K6.out.trans (k8.mono fun g e => by have e : g = m := e; rw [e, HMm]; decide)); clear cso fso k8 om' omW HMm nm2 nmN; go_wp2; (obtain ⟨W7, eW7⟩ : ∃ W7, (((((w8.setCell ⟨N, 0, none⟩ (.int .i64 re)).setCell ⟨N, 1, none⟩ (.int .i64 rv)).setCell ⟨N, 2, none⟩ (.slice A5 n5 c5)).setCell ⟨N, 3, none⟩ (.int .i64 ro)).setCell ⟨N, 4, none⟩ (.int .i64 rs)) = W7 := ⟨_, rfl⟩; obtain ⟨⟨v0, v1, v2, v3, v4, _⟩, k7⟩ := res_set R6.out _ _ _ _ _ eW7; rw [eW7]; refine bodyPost_ret (v := .tuple #[.agg #[.int .i64 re, .int .i64 rv, .slice A5 n5 c5, .int .i64 ro, .int .i64 rs], .int .i64 0]) (by simp [results, Try.results19, go_sem, v0, v1, v2, v3, v4]) rfl ?_); exact ⟨_, _, K', o', rfl, ⟨z', HZ.out, rfl⟩, OU8.out.keep k7 (fun g hg e => by have e : g = N := e; have := (OG.out g hg).1; omega), (fun g hg => ⟨Nat.le_trans (KM.out.trans KX.out).size (OG.out g hg).1, (OG.out g hg).2⟩), A8.out.keep k7 (fun g hg e => by have e : g = N := e; rcases N4.out g hg with a | a; exact OND.out g a e; omega), K8.out.older' k7 (by rw [EN.out]; have := NN.out; omega), fun g hg => (N4.out g hg).imp id (Nat.le_trans (KM.out.trans KX.out).size)⟩
end
end Go.Proofs.Ytalkfnblnlcklaa
/- Package model as landed, its laws' face: the contracts over a Model in plain lists. Condition: numbers that fit. -/
namespace Go.Proofs.Ytalkfnblnlcklaa
open Go.ChangeShapes Go.WideShapes Go.ChangeAt Go.RowKit
set_option linter.unusedVariables false
set_option linter.unusedSimpArgs false

def I64 (x : Int) : Prop := -9223372036854775808 ≤ x ∧ x ≤ 9223372036854775807
/-- A call's numbers fit. -/
structure OpB (o : OpI) : Prop where
 a : I64 o.kind
 b : I64 o.key
 c : I64 o.hi
 d : I64 o.val
/-- Since W a Model m has been made, in new blocks S; it is x; nothing of W has turned. -/
structure Md (W w : World) (m : Nat) (S : Nat → Prop) (x : MoI) : Prop where
 gd : Good x
 g : ∀ k, S k → W.heap.size ≤ k
 lt : ∀ k, S k → k < w.heap.size
 b : Below W.heap.size W w
 ld : ∃ K o z, LdAt w m K o z ∧ Lr z x ∧ ∀ k, o k ≠ 0 ↔ S k
section
variable {W w w' : World} {m : Nat} {S S' T : Nat → Prop} {x y : MoI} {K : Nat → Value} {o : Nat → Nat} {z : LdI}
theorem Md.own (h : Md W w m S x) {X : Nat → Prop} (kk : Keep X w w') (hX : ∀ g, X g → ¬ S g ∧ W.heap.size ≤ g) : Md W w' m S x := by
 obtain ⟨K, o, z, a, l, e⟩ := h.ld
 exact ⟨h.gd, h.g, fun x hx => Nat.lt_of_lt_of_le (h.lt x hx) kk.size, h.b.trans (kk.below h.b.size (fun g hg => (hX g hg).2)), K, o, z, a.keep kk (fun g hg c => (hX g c).1 ((e g).1 hg)), l, e⟩
theorem Md.quiet (h : Md W w m S x) (kk : Keep (fun _ => False) w w') : Md W w' m S x := h.own kk (fun g hg => hg.elim)
/-- A call that leaves a Model, and nothing else. -/
def MdPost (W w : World) (m : Nat) (S : Nat → Prop) (v : Value) (y : MoI) (e : Ending) (w' : World) : Prop := e = .returned v ∧ ∃ S', Md W w' m S' y ∧ VKeep S S' w w'
/-- A call that leaves a Model, and tells a slice of its own. -/
def MdTold (W w : World) (m : Nat) (S : Nat → Prop) (v : Value → Value) (P : World → Value → Prop) (y : MoI) (e : Ending) (w' : World) : Prop :=
 ∃ u S', e = .returned (v u) ∧ P w' u ∧ (∀ g, u.ownBlock = some g → w.heap.size ≤ g ∧ ¬ S' g) ∧ Md W w' m S' y ∧ VKeep S S' w w'
/-- What a call leaves, out of its cells. -/
theorem Md.step (h : Md W w m S x) (e : ∀ k, o k ≠ 0 ↔ S k) {K' : Nat → Value} {o' : Nat → Nat} {z' : LdI} (gd : Good y) (a : LdAt w' m K' o' z') (l : Lr z' y) (k : Keep (fun g => o g ≠ 0) w w') (n : ∀ g, o' g ≠ 0 → o g ≠ 0 ∨ w.heap.size ≤ g) :
  Md W w' m (fun g => o' g ≠ 0) y ∧ VKeep S (fun g => o' g ≠ 0) w w' := by
 have ks : Keep S w w' := k.mono fun g hg => (e g).1 hg
 have ns : ∀ g, o' g ≠ 0 → S g ∨ w.heap.size ≤ g := fun g hg => (n g hg).imp (e g).1 id
 refine ⟨⟨gd, fun g hg => ?_, fun g hg => a.lt g hg, h.b.trans (ks.below h.b.size h.g), K', o', z', a, l, fun _ => Iff.rfl⟩, ks, ns⟩
 rcases ns g hg with q | q
 ·exact h.g g q
 ·exact Nat.le_trans h.b.size q
theorem Md.stay (h : Md W w m S x) (k : Keep (fun _ => False) w w') : Md W w' m S x ∧ VKeep S S w w' := ⟨h.quiet k, k.mono fun _ e => e.elim, fun _ hk => .inl hk⟩
theorem lr_len (g : Good x) (l : Lr z x) : (∀ k, k < 64 → (z.k k).length ≤ 99999) ∧ usedL z 64 = x.v.length ∧ usedL z 64 ≤ 100000 := by
 obtain ⟨L, io, h⟩ := l
 have u := h.used
 have hl := g.len
 have hc := g.conf
 have e : usedL z 64 = x.v.length := u
 refine ⟨fun k hk => ?_, e, by omega⟩
 have := usedL_le z (show k + 1 ≤ 64 from hk)
 rw [usedL_succ] at this
 omega
theorem md_new (w : World) (slots limit : Int) (hs : I64 slots) (hl : U64 limit) (h : confI slots limit = true) : Calls Try.prog 5 #[cfV slots limit] w fun e w' => ∃ m S, e = .returned (.tuple #[.pointer (some ⟨m, 0, none⟩), .int .i64 0]) ∧ Md w w' m S (new0 slots limit) := by
 refine (new_yes slots limit h w).mono ?_
 rintro e w' ⟨m, o, rfl, hm, a, hg, k⟩
 exact ⟨m, fun g => o g ≠ 0, rfl, good_new h, fun g q => by rw [hg g q]; exact hm, fun g q => a.lt g q, (Below.refl _ w).trans (k.below (Nat.le_refl _) fun _ e => e.elim), _, o, _, a, lr_new _ _ _, fun _ => Iff.rfl⟩
theorem md_none (w : World) (slots limit : Int) (hs : I64 slots) (hl : U64 limit) (h : confI slots limit = false) : Calls Try.prog 5 #[cfV slots limit] w fun e w' => e = .returned (.tuple #[.pointer none, .int .i64 1]) ∧ Below w.heap.size w w' := by
 refine (new_no slots limit h w).mono ?_
 rintro e w' ⟨rfl, k⟩
 exact ⟨rfl, (Below.refl _ w).trans (k.below (Nat.le_refl _) fun _ e => e.elim)⟩
theorem md_begin (h : Md W w m S x) (s level : Int) (hs : I64 s) (hl : I64 level) (n e0 : Int) (y : MoI) (hn : x.begN s level = n) (he : x.begE s level = e0) (hy : x.beg s level = y) :
  Calls Try.prog 16 #[.pointer (some ⟨m, 0, none⟩), .int .i64 s, .int .i64 level] w (MdPost W w m S (.tuple #[.int .i64 n, .int .i64 e0]) y) := by
 subst hn; subst he; subst hy
 obtain ⟨K, o, z, a, ⟨L, io, l⟩, e⟩ := h.ld
 have no : ∀ c : Int, x.begE s level = c → c ≠ 0 → x.begN s level = 0 ∧ x.beg s level = x := fun c hc h0 => by
  unfold MoI.begN MoI.beg
  rw [if_neg (by rw [hc]; exact h0), if_neg (by rw [hc]; exact h0)]
  exact ⟨rfl, rfl⟩
 have c1 := l.c1
 have c2 := l.c2
 have c3 := l.c3
 have c4 := l.c4
 have mm := h.gd.made
 have tt := h.gd.time
 have cf := h.gd.conf
 by_cases hb : s < 0 ∨ 7 < s ∨ level < 1 ∨ 3 < level
 ·have e1 : x.begE s level = 1 := by unfold MoI.begE; rw [if_pos hb]
  obtain ⟨n1, n2⟩ := no 1 e1 (by decide)
  rw [e1, n1, n2]
  refine (begin_arg s level hb w).mono ?_
  rintro e2 w' ⟨rfl, rfl⟩
  exact ⟨rfl, S, h.stay (Keep.refl _ _)⟩
 ·obtain ⟨i, rfl⟩ : ∃ i : Nat, s = (i : Int) := ⟨s.toNat, by omega⟩
  have i8 : i < 8 := by omega
  have lv : 1 ≤ level ∧ level ≤ 3 := by omega
  by_cases hid : (x.s i).id = 0
  ·have zn := (l.ses0 i8).2 hid
   by_cases hm : 2000 ≤ x.made
   ·have e1 : x.begE i level = 65 := by unfold MoI.begE; rw [if_neg hb, Int.toNat_natCast, if_neg (fun c => c hid), if_pos hm]
    obtain ⟨n1, n2⟩ := no 65 e1 (by decide)
    rw [e1, n1, n2]
    refine (begin_many a i i8 level lv zn (by omega)).mono ?_
    rintro e2 w' ⟨rfl, rfl⟩
    exact ⟨rfl, S, h.stay (Keep.refl _ _)⟩
   ·by_cases ht : x.limit ≤ x.time
    ·have e1 : x.begE i level = 16 := by unfold MoI.begE; rw [if_neg hb, Int.toNat_natCast, if_neg (fun c => c hid), if_neg hm, if_pos ht]
     obtain ⟨n1, n2⟩ := no 16 e1 (by decide)
     rw [e1, n1, n2]
     refine (begin_late a i i8 level lv zn (by omega) (by omega)).mono ?_
     rintro e2 w' ⟨rfl, k⟩
     exact ⟨rfl, S, h.stay k⟩
    ·have e1 : x.begE i level = 0 := by unfold MoI.begE; rw [if_neg hb, Int.toNat_natCast, if_neg (fun c => c hid), if_neg hm, if_neg ht]
     have gb := good_beg h.gd i level
     have n1 : x.begN i level = z.begun + 1 := by unfold MoI.begN; rw [if_pos e1, c4]
     have n2 : x.beg i level = { x with time := x.time + 1, made := x.made + 1, s := putS x.s i ⟨x.made + 1, level, 0, x.time + 1, [], []⟩ } := by unfold MoI.beg; rw [if_pos e1, Int.toNat_natCast]
     rw [n2] at gb
     rw [e1, n1, n2]
     refine (begin_ok a i i8 level lv zn (by omega) (by omega) (by omega) (by omega) (by omega) (by omega)).mono ?_
     rintro e2 w' ⟨rfl, tb, tf, o', ob, of, a2, k2, n3⟩
     have lab : ∀ p ∈ L, o p.2.mr = 81 ∧ ∀ d, p.2.en = some d → o d = 81 := fun p hp => by
      have p64 := l.lt p hp
      have : p.2 ∈ z.k p.1 := by rw [l.k p.1 p64]; exact List.mem_map.2 ⟨p, List.mem_filter.2 ⟨hp, decide_eq_true rfl⟩, rfl⟩
      exact (a.oV p.1 p.2 p64 this).2
     have bl := l.beg h.gd i8 zn ⟨tb, z.begun + 1, level, z.clock + 1, 0, fun _ => false, tf⟩ rfl rfl (fun _ => rfl) (fun p hp => ⟨fun c => absurd ((congrArg o c).symm.trans (lab p hp).1) (by rw [of]; decide), fun c => absurd ((lab p hp).2 _ c) (by rw [of]; decide)⟩) (fun j u hj hu c => absurd ((congrArg o c).symm.trans (a.oT j u hj hu).2) (by rw [of]; decide)) 0
     rw [c3, c4] at gb ⊢
     exact ⟨rfl, _, h.step e gb a2 ⟨_, _, bl⟩ k2 n3⟩
  ·obtain ⟨t, ht⟩ := l.sess i8 hid
   have e1 : x.begE i level = 9 := by unfold MoI.begE; rw [if_neg hb, Int.toNat_natCast, if_pos hid]
   obtain ⟨n1, n2⟩ := no 9 e1 (by decide)
   rw [e1, n1, n2]
   refine (begin_live a i i8 level lv ht).mono ?_
   rintro e2 w' ⟨rfl, rfl⟩
   exact ⟨rfl, S, h.stay (Keep.refl _ _)⟩
theorem lowN_eq {L : List (Nat × VeI)} {io : Nat → Int} (h : LrL L io z x) : lowN z 8 = lowL x := by
  have key : ∀ n, n ≤ 8 → lowN z n = (List.range n).foldl (fun a i => if (x.s i).id ≠ 0 then min a (x.s i).start else a) 18446744073709551615 := fun n => by
    induction n with
    | zero => intro _; rfl
    | succ n ih =>
      intro hn
      rw [lowN_succ, List.range_succ, List.foldl_append, List.foldl_cons, List.foldl_nil, ih (by omega)]
      cases ht : z.s n with
      | none =>
        have := (h.ses0 (show n < 8 by omega)).1 ht
        rw [if_neg (fun c => c this)]
      | some t =>
        have ts := h.ts n t (by omega) ht
        rw [if_pos (by rw [ts.id]; exact ts.nz), ts.start]
  exact key 8 (Nat.le_refl _)
theorem md_collect (h : Md W w m S x) (n : Int) (y : MoI) (hn : x.collected = n) (hy : x.collect = y) :
  Calls Try.prog 17 #[.pointer (some ⟨m, 0, none⟩)] w (MdPost W w m S (.int .i64 n) y) := by
 subst hn; subst hy
 obtain ⟨K, o, z, a, ⟨L, io, l⟩, e⟩ := h.ld
 obtain ⟨_, u1, u2⟩ := lr_len h.gd ⟨L, io, l⟩
 have tt := h.gd.time
 have cf := h.gd.conf
 have ub : ∀ i t, i < 8 → z.s i = some t → U64 t.start := fun i t hi ht => by
  have ts := l.ts i t hi ht
  have := (h.gd.ses i hi).lv (by rw [ts.id]; exact ts.nz)
  rw [ts.start] at this
  exact ⟨by omega, by omega⟩
 have lo := lowN_eq l
 have lc := l.collect h.gd
 have ec : sweptL z (lowN z 8) 64 = { z with k := fun k => if k < 64 then (z.k k).filter fun v => !garbV z.F (lowL x) v else z.k k } := by unfold sweptL; rw [lo]
 have lc2 : LrL (L.filter fun p => !garbV z.F (lowL x) p.2) io (sweptL z (lowN z 8) 64) x.collect := by
  rw [ec]
  exact ⟨lc.c1, lc.c2, lc.c3, lc.c4, lc.v, fun k hk => by show (if k < 64 then _ else _) = _; rw [if_pos hk]; exact lc.k k hk, lc.lt, lc.nd, lc.mu, lc.en, lc.no, lc.ts⟩
 have gc := good_collect h.gd
 have u3 : usedL (sweptL z (lowN z 8) 64) 64 = x.collect.v.length := lc2.used
 refine (collect_any a u2 ub).mono ?_
 rintro e2 w' ⟨rfl, K', a2, k2⟩
 refine ⟨?_, _, h.step e gc a2 ⟨_, _, lc2⟩ k2 fun g hg => .inl hg⟩
 rw [u1, u3]
 rfl
theorem md_used (h : Md W w m S x) (n : Int) (hn : (x.v.length : Int) = n) :
  Calls Try.prog 31 #[.pointer (some ⟨m, 0, none⟩)] w (MdPost W w m S (.int .i64 n) x) := by
 subst hn
 obtain ⟨K, o, z, a, l, e⟩ := h.ld
 obtain ⟨_, u1, u2⟩ := lr_len h.gd l
 refine (used_any a u2).mono ?_
 rintro e2 w' ⟨rfl, k⟩
 exact ⟨by rw [u1], S, h.stay k⟩
theorem md_now (h : Md W w m S x) (t : Int) (ht : x.time = t) :
  Calls Try.prog 14 #[.pointer (some ⟨m, 0, none⟩)] w (MdPost W w m S (.int .u64 t) x) := by
 subst ht
 obtain ⟨K, o, z, a, ⟨L, io, l⟩, e⟩ := h.ld
 refine (now_any a).mono ?_
 rintro e2 w' ⟨rfl, rfl⟩
 exact ⟨by rw [l.c3], S, h.stay (Keep.refl _ _)⟩
theorem md_pairs (h : Md W w m S x) (at' : Int) (ha : U64 at') (l : List (Int × Int)) (hl : x.pairs at' = l) :
  Calls Try.prog 13 #[.pointer (some ⟨m, 0, none⟩), .int .u64 at'] w (MdTold W w m S id (fun w' u => OwnPr w' u l) x) := by
 subst hl
 obtain ⟨K, o, z, a, lr, e⟩ := h.ld
 obtain ⟨u0, _, _⟩ := lr_len h.gd lr
 obtain ⟨L, io, lr⟩ := lr
 refine (Pairs_any a (fun k hk => by have := u0 k hk; omega) at').mono ?_
 rintro e2 w' ⟨u, rfl, ou, og, k⟩
 rw [lr.pairs h.gd at'] at ou
 exact ⟨u, S, rfl, ou, fun g hg => ⟨og g hg, fun c => by have := h.lt g c; have := og g hg; omega⟩, h.stay k⟩
theorem md_status (h : Md W w m S x) (s : Int) (hs : I64 s) (v : Value) (hv : x.statV s = v) :
    Calls Try.prog 18 #[.pointer (some ⟨m, 0, none⟩), .int .i64 s] w (MdPost W w m S v x) := by
  subst hv
  obtain ⟨K, o, z, a, ⟨L, io, lr⟩, e⟩ := h.ld
  have es : statL z s = x.statV s := by
    unfold statL MoI.statV
    by_cases hb : s < 0 ∨ 7 < s
    · rw [if_pos hb, if_pos hb]
    · rw [if_neg hb, if_neg hb]
      have s8 : s.toNat < 8 := by omega
      have := lr.ses0 s8
      cases c : z.s s.toNat with
      | none => rw [if_pos (this.1 c)]
      | some t =>
        have ts := lr.ts _ t s8 c
        rw [if_neg (by rw [ts.id]; exact ts.nz), ts.id, ts.level, ts.start, ts.ops]
  refine (status_any a s).mono ?_
  rintro e2 w' ⟨rfl, k⟩
  exact ⟨by rw [es], S, h.stay k⟩
end
end Go.Proofs.Ytalkfnblnlcklaa
/- Package model as landed, its laws' face, second part: gets, scans, ends. Condition: numbers that fit. -/
namespace Go.Proofs.Ytalkfnblnlcklaa
open Go.ChangeShapes Go.WideShapes Go.ChangeAt Go.RowKit
set_option linter.unusedVariables false
set_option linter.unusedSimpArgs false
section
variable {W w w' : World} {m : Nat} {S S' T : Nat → Prop} {x y : MoI} {K : Nat → Value} {o : Nat → Nat} {z : LdI} {t : TtI}
/-- What Do is to show. -/
def DoX (w : World) (m : Nat) (K : Nat → Value) (o : Nat → Nat) (z : LdI) (n : Nat) (op : OpI) (r : ReI) (y : MoI) : Prop := Calls Try.prog 19 #[.pointer (some ⟨m, 0, none⟩), .int .i64 n, opV op] w (DoEnd w m o r 0 fun z' => Lr z' y)
theorem DoEnd.mono {r : ReI} {e0 : Int} {Z1 Z2 : LdI → Prop} {e : Ending} (h : DoEnd w m o r e0 Z1 e w') (hz : ∀ z, Z1 z → Z2 z) : DoEnd w m o r e0 Z2 e w' := by
 obtain ⟨u, z', K', o', a, b, c⟩ := h
 exact ⟨u, z', K', o', a, hz _ b, c⟩
theorem dox_over (a : LdAt w m K o z) {L : List (Nat × VeI)} {io : Nat → Int} (l : LrL L io z x) (g : Good x) {n : Nat} (n8 : n < 8) (ht : z.s n = some t) (key hi val : Int) (hok : okI ⟨7, key, hi, val⟩ = true) : DoX w m K o z n ⟨7, key, hi, val⟩ ⟨0, 0, [], 4, 1⟩ (x.over n) := by
 have ts := l.ts n t n8 ht
 refine (do_over a n n8 ht ⟨7, key, hi, val⟩ hok true (by simp) (.inl rfl) ⟨0, 0, [], 4, 1⟩ (by decide) (fun z' => z' = { z with F := updF z.F t.f ⟨4, 0⟩ }) fun w1 a1 => (exec_abort a1 n8 ht ts.st key hi val).mono fun e w' => LdRes.fin rfl).mono fun e w' hd => hd.mono ?_
 rintro z' ⟨z0, rfl, rfl⟩
 exact ⟨L, io, l.gone g n8 ht 0⟩
theorem dox_commit (a : LdAt w m K o z) {L : List (Nat × VeI)} {io : Nat → Int} (l : LrL L io z x) (g : Good x) {n : Nat} (n8 : n < 8) (ht : z.s n = some t) (key hi val : Int) (hok : okI ⟨6, key, hi, val⟩ = true) : DoX w m K o z n ⟨6, key, hi, val⟩ (x.commit n).1 (x.commit n).2 := by
  have ts := l.ts n t n8 ht
  obtain ⟨u0, _, _⟩ := lr_len g ⟨L, io, l⟩
  have u1 : ∀ k, k < 64 → (z.k k).length ≤ 100000 := fun k hk => by have := u0 k hk; omega
  have c2 := l.c2
  have c3 := l.c3
  have tt := g.time
  have cf := g.conf
  by_cases hl : x.limit ≤ x.time
  · have e : x.commit n = (MoI.bad 6, x.over n) := by unfold MoI.commit; rw [if_pos hl]
    rw [e]
    refine (do_over a n n8 ht ⟨6, key, hi, val⟩ hok true (by simp) (.inl rfl) (MoI.bad 6) (by decide) (fun z' => z' = { z with F := updF z.F t.f ⟨4, 0⟩ }) fun w1 a1 => exec_commit a1 n8 ht key hi val _ _ fun w2 a2 => (commit_late a2 n8 ht ts.st (by omega)).mono fun e w' => LdRes.fin rfl).mono fun e w' hd => hd.mono ?_
    rintro z' ⟨z0, rfl, rfl⟩
    exact ⟨L, io, l.gone g n8 ht 0⟩
  · have lt : LrL L io (tickL z) { x with time := x.time + 1 } := by
      have := l.tick (z.clock + 1)
      rw [c3]
      exact this
    have gt := good_tick g (show x.time < x.limit by omega)
    have hh := lt.holds gt n8 (show (tickL z).s n = some t from ht) (z.clock + 1) (by show x.time + 1 ≤ z.clock + 1; omega)
    have hx : ({ ({ x with time := x.time + 1 } : MoI) with time := z.clock + 1 } : MoI) = { x with time := x.time + 1 } := by rw [c3]
    rw [hx] at hh
    have hlv := ts.level
    cases hv : holdsL (tickL z) t (z.clock + 1) with
    | false =>
      rw [hv] at hh
      have hh := hh.symm
      rw [Bool.or_eq_false_iff, decide_eq_false_iff_not] at hh
      have e : x.commit n = (MoI.bad 3, ({ x with time := x.time + 1 } : MoI).over n) := by
        unfold MoI.commit
        rw [if_neg hl]
        simp only
        rw [if_pos ⟨by rw [hlv]; exact hh.1, hh.2⟩]
      rw [e]
      refine (do_over a n n8 ht ⟨6, key, hi, val⟩ hok true (by simp) (.inl rfl) (MoI.bad 3) (by decide) (fun z' => z' = { tickL z with F := updF z.F t.f ⟨4, 0⟩ }) fun w1 a1 => exec_commit a1 n8 ht key hi val _ _ fun w2 a2 => (commit_bad a2 n8 ht ts.st (by omega) (by omega) (by omega) (by omega) u1 hv).mono fun e w' => LdRes.fin rfl).mono fun e w' hd => hd.mono ?_
      rintro z' ⟨z0, rfl, rfl⟩
      exact ⟨L, io, lt.gone gt n8 ht 0⟩
    | true =>
      rw [hv] at hh
      have hh := hh.symm
      rw [Bool.or_eq_true, decide_eq_true_iff] at hh
      have e : x.commit n = (⟨0, 0, [], 3, 0⟩, { x with time := x.time + 1, v := x.v.map (doneV (x.s n).id (x.time + 1)), s := putS x.s n tx0 }) := by
        unfold MoI.commit
        rw [if_neg hl]
        simp only
        rw [if_neg (fun c => by
          rcases hh with q | q
          · exact c.1 (hlv.trans q)
          · have := c.2; rw [q] at this; cases this)]
      rw [e]
      refine (do_over a n n8 ht ⟨6, key, hi, val⟩ hok true (by simp) (.inl rfl) ⟨0, 0, [], 3, 0⟩ (by decide) (fun z' => z' = { tickL z with F := updF z.F t.f ⟨3, z.clock + 1⟩ }) fun w1 a1 => exec_commit a1 n8 ht key hi val _ _ fun w2 a2 => (commit_ok a2 n8 ht ts.st (by omega) (by omega) (by omega) (by omega) u1 hv).mono fun e w' => LdRes.fin rfl).mono fun e w' hd => hd.mono ?_
      rintro z' ⟨z0, rfl, rfl⟩
      have := lt.done gt n8 ht (z.clock + 1) (by omega)
      rw [c3]
      rw [c3] at this
      exact ⟨L, io, this⟩
theorem dox_get (a : LdAt w m K o z) {L : List (Nat × VeI)} {io : Nat → Int} (l : LrL L io z x) (g : Good x) {n : Nat} (n8 : n < 8) (ht : z.s n = some t) (hop : (x.s n).ops < 12) (k : Nat) (k64 : k < 64) (hi val : Int) (hok : okI ⟨1, k, hi, val⟩ = true) : DoX w m K o z n ⟨1, k, hi, val⟩ ((x.count n).get n ⟨1, k, hi, val⟩).1 ((x.count n).get n ⟨1, k, hi, val⟩).2 := by
 have ts := l.ts n t n8 ht
 have id0 : (x.s n).id ≠ 0 := by rw [ts.id]; exact ts.nz
 have hops := ts.ops
 have so := (g.ses n n8).ops
 obtain ⟨u0, _, _⟩ := lr_len g ⟨L, io, l⟩
 have lc : LrL L io (setT z n (opsT t)) (x.count n) := l.count n8 ht
 have gc := good_count g n8 id0 hop
 have h1 : (setT z n (opsT t)).s n = some (opsT t) := putT_self _ _ _
 have c1 := count_at x n
 have hw : ∀ q : Int, q ∈ ((x.count n).s n).wrote ↔ q ∈ (x.s n).wrote := fun q => by rw [c1]
 have run : ∀ r Zs, (∀ w2, LdAt w2 m K o (setT z n (opsT t)) → Calls Try.prog 52 #[.pointer (some ⟨m, 0, none⟩), .pointer (some ⟨t.b, 0, none⟩), .int .i64 k] w2 (LdEnd w2 m o r Zs)) → r.over = 0 → Calls Try.prog 19 #[.pointer (some ⟨m, 0, none⟩), .int .i64 n, opV ⟨1, k, hi, val⟩] w (DoEnd w m o r 0 Zs) := fun r Zs hP hr =>
  do_stay a n n8 ht ⟨1, k, hi, val⟩ hok false (by simp) (.inr (by omega)) r hr Zs fun w1 a1 => exec_get a1 n8 ht k hi val (by omega) r Zs hP
 have G := fun w2 (a2 : LdAt w2 m K o (setT z n (opsT t))) => lget_any a2 n8 h1 k64 (by show (z.k k).length ≤ 100000; have := u0 k k64; omega)
 unfold DoX MoI.get
 simp only
 rcases lc.sees gc n8 h1 k64 with ⟨e1, e2⟩ | ⟨j, v, e1, e2, e3, _⟩
 ·rw [e1]
  rw [e2] at G
  refine run _ _ (fun w2 a2 => (G w2 a2).mono fun e w' q => (LdRes.fin rfl q).mono ?_) rfl
  rintro z' rfl
  have ez : setT (setT z n (opsT t)) n (gotT (opsT t) none k) = { setT z n (opsT t) with s := putT (setT z n (opsT t)).s n (some (relyT (opsT t) 3 k k)) } := rfl
  by_cases hk : (k : Int) ∈ ((x.count n).s n).wrote
  ·rw [if_pos hk]
   exact ⟨L, io, lc.keepA n8 h1 3 (by decide) hk⟩
  ·rw [if_neg hk]
   exact ⟨L, io, lc.keepR n8 h1 3 k k false false (by simp)⟩
 ·rw [e1]
  rw [e3] at G
  have ev : valI (x.count n).v j = v.val := by
   have := lc.at e2
   unfold valI
   rw [this]
   rfl
  simp only [ev]
  refine run _ _ (fun w2 a2 => (G w2 a2).mono fun e w' q => (LdRes.fin rfl q).mono ?_) rfl
  rintro z' rfl
  by_cases hk : (k : Int) ∈ ((x.count n).s n).wrote
  ·rw [if_pos hk]
   exact ⟨L, io, lc.keepA n8 h1 2 (by decide) hk⟩
  ·rw [if_neg hk]
   exact ⟨L, io, lc.keepR n8 h1 2 k k true false (by simp)⟩
theorem dox_scan (a : LdAt w m K o z) {L : List (Nat × VeI)} {io : Nat → Int} (l : LrL L io z x) (g : Good x) {n : Nat} (n8 : n < 8) (ht : z.s n = some t) (hop : (x.s n).ops < 12) (lo hh : Nat) (h1 : lo ≤ hh) (h2 : hh < 64) (val : Int) (hok : okI ⟨5, lo, hh, val⟩ = true) : DoX w m K o z n ⟨5, lo, hh, val⟩ ((x.count n).scan n ⟨5, lo, hh, val⟩).1 ((x.count n).scan n ⟨5, lo, hh, val⟩).2 := by
 have ts := l.ts n t n8 ht
 have id0 : (x.s n).id ≠ 0 := by rw [ts.id]; exact ts.nz
 have hops := ts.ops
 have so := (g.ses n n8).ops
 obtain ⟨u0, _, _⟩ := lr_len g ⟨L, io, l⟩
 have lc : LrL L io (setT z n (opsT t)) (x.count n) := l.count n8 ht
 have gc := good_count g n8 id0 hop
 have hs1 : (setT z n (opsT t)).s n = some (opsT t) := putT_self _ _ _
 have e : pairsL z (seesV z.F t) lo (hh + 1 - lo) = scanI (x.count n).v ((x.count n).s n).id ((x.count n).s n).start lo hh := lc.scan gc n8 hs1 lo hh h1 h2
 unfold DoX MoI.scan
 simp only
 rw [← e]
 refine (do_stay a n n8 ht ⟨5, lo, hh, val⟩ hok false (by simp) (.inr (by omega)) _ rfl _ fun w1 a1 => exec_scan a1 n8 ht lo hh h1 h2 val (by omega) (fun k hk => by have := u0 k hk; omega)).mono fun e w' hd => hd.mono ?_
 rintro z' rfl
 have := lc.keepR n8 hs1 3 lo hh false true (by simp)
 have ez : ({ setT z n (opsT t) with s := putT (setT z n (opsT t)).s n (some { opsT t with again := fun k => (opsT t).again k || (decide ((3 : Int) ≤ (opsT t).level) && decide ((lo : Int) ≤ (k : Int)) && decide ((k : Int) ≤ (hh : Int))) }) } : LdI) = setT z n (relyT (opsT t) 3 lo hh) := by
  unfold setT
  simp only [putT_put]
  rfl
 rw [ez] at this
 exact ⟨L, io, this⟩
end
end Go.Proofs.Ytalkfnblnlcklaa
