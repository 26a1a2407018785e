/- Several texts, one behind the other: LdZ, LdB2. -/
import Derived.Test.YtalkfnblnlcklaaModelBaseDZau
import Derived.Test.YtalkfnblnlcklaaModelBaseDZas
/- Package model as landed, in memory: write. Condition: at most 100,000 versions of a key. -/
namespace Go.Proofs.Ytalkfnblnlcklaa
open Go.ChangeShapes Go.WideShapes Go.ChangeAt Go.RowKit
set_option linter.unusedVariables false
set_option linter.unusedSimpArgs false
section
variable {w w' w2 : World} {m g n c : Nat} {K : Nat → Value} {o : Nat → Nat} {z : LdI} {T : Nat → Prop} {F : Nat → FtI} {P : VeI → Bool} {t : TtI} {fv : Value} {l : List VeI}
set_option maxRecDepth 100000 in
set_option maxHeartbeats 2000000 in
theorem lwrite_no (h : LdAt w m K o z) {i : Nat} (hi : i < 8) (ht : z.s i = some t) {k : Nat} (hk : k < 64) (hl : ∀ k, k < 64 → (z.k k).length ≤ 100000) (kind val : Int) (r : Int) (hr : r = if kind = 2 ∧ ((z.k k).find? (seesV z.F t)).isSome = true then 12 else if kind ≠ 2 ∧ ((z.k k).find? (seesV z.F t)).isSome = false then 11 else 0) (h0 : r ≠ 0) :
    Calls Try.prog 55 #[.pointer (some ⟨m, 0, none⟩), .pointer (some ⟨t.b, 0, none⟩), opV ⟨kind, k, 0, val⟩] w (LdRes w m K o ⟨r, 0, [], 0, 0⟩ (setT z i (relyT t 3 k k))) := by
  obtain ⟨W1, eW1, ob, kW1⟩ := op_box w ⟨kind, k, 0, val⟩; obtain ⟨M, eM, rb, kM0⟩ := res_box W1; have kM := kW1.trans kM0; have ob := ob.keep kM0 id; have hM := h.quiet kM; have C := find_any hM hk (hl k hk) (hold_sees (hM.t i t hi ht) (hM.tf hi ht)); have ONA := Lib.hid (show ∀ g, o g ≠ 0 → g < w.heap.size from h.lt); obtain ⟨N1, eN1⟩ : ∃ N1, w.heap.size = N1 := ⟨_, rfl⟩; obtain ⟨N, eN⟩ : ∃ N, W1.heap.size = N := ⟨_, rfl⟩; have hNN : N = N1 + 1 := (by rw [← eN, ← eW1, ← eN1]; simp); rw [eN1] at ob ONA; rw [eN] at rb; have OND := Lib.hid (show ∀ g, o g ≠ 0 → g ≠ N from fun g hg e => by have := ONA.out g hg; omega); have ON1 := Lib.hid (show ∀ g, o g ≠ 0 → g ≠ N1 from fun g hg e => by have := ONA.out g hg; omega); have NN := Lib.hid hNN; obtain ⟨q, eq⟩ : ∃ q, (z.k k).find? (seesV z.F t) = q := ⟨_, rfl⟩; rw [eq] at C; have KM := Lib.hid kM; have HM := Lib.hid hM; have RB := Lib.hid rb; have OB := Lib.hid ob; have EN := Lib.hid eN1; have HT := Lib.hid ht; have EQ := Lib.hid eq; have OT := Lib.hid (h.oT i t hi ht); have VH := Lib.hid (fun v (hv : (z.k k).find? (seesV z.F t) = some v) => (List.mem_of_find?_eq_some hv : v ∈ z.k k)); have OV := Lib.hid h.oV; clear hNN
  have d : (r != 0) = true := by simpa using h0
  have RL := Lib.hid fun w1 (k1 : Keep (fun _ => False) M w1) => relies_any (hM.quiet k1) hi ht 3 k k (Nat.le_refl _) hk
  have hbN : ¬ N = t.b := fun e => OND.out t.b (by rw [OT.out.1]; omega) e.symm
  rw [eq] at hr
  unfold LdRes reV opV setT
  dsimp only
  cases q with
  | none =>
    dsimp only [Option.map, ptrO, Option.isSome] at C hr
    have FA := fun w1 => fault_any kind false r hr w1
    have qe := fun w => (eql_nilsV (w := w)).2
    clear h0 hr; clear h kM hM rb ob ht eq kM0 kW1; obtain ⟨oa, ob, oc, od⟩ := OB.out; go_enter Try.func55, Try.ntmps55; go_wp2_with fail; refine C.mono ?_; rintro e w1 ⟨rfl, k1⟩; clear C eM eW1 oa ob oc od; obtain ⟨o0, o1, o2, o3⟩ := OB.out.keep k1 id; have FA := FA w1; have RL := RL.out w1 k1; have K1 := Lib.hid k1; clear k1; go_wp2_with fail; refine FA.mono ?_; rintro e w2 ⟨rfl, rfl⟩; clear FA; go_wp2_with fail; refine RL.mono ?_; rintro e w3 ⟨rfl, a3, k3⟩; clear RL; have R6 := Lib.hid ((RB.out.keep K1.out id).keep k3 hbN); obtain ⟨q0, q1, q2, q3, q4, q5⟩ := R6.out; have A3 := Lib.hid a3; have K3 := Lib.hid k3; clear a3 k3; go_wp2; (obtain ⟨W7, eW7⟩ : ∃ W7, (((((w3.setCell ⟨N, 0, none⟩ (.int .i64 r)).setCell ⟨N, 1, none⟩ (.int .i64 0)).setCell ⟨N, 2, none⟩ (.slice none 0 0)).setCell ⟨N, 3, none⟩ (.int .i64 0)).setCell ⟨N, 4, none⟩ (.int .i64 0)) = W7 := ⟨_, rfl⟩; obtain ⟨⟨v0, v1, v2, v3, v4, _⟩, k7⟩ := res_set R6.out _ _ _ _ _ eW7; rw [eW7]; refine bodyPost_ret (v := .agg #[.int .i64 r, .int .i64 0, .slice none 0 0, .int .i64 0, .int .i64 0]) (by simp [results, Try.results55, go_sem, v0, v1, v2, v3, v4]) rfl ⟨rfl, ?_⟩); refine ⟨A3.out.keep k7 (fun g hg e => OND.out g hg e), (((KM.out.trans K1.out).trans' (K3.out.mono fun g e => ?_)).older' k7 (by rw [EN.out]; have := NN.out; omega))⟩; have e : g = t.b := e; rw [e, OT.out.1]; omega
  | some u =>
    dsimp only [Option.map, ptrO, Option.isSome] at C hr
    have FA := fun w1 => fault_any kind true r hr w1
    have qe := fun w => (eql_nilV (w := w) (a := u.b)).2
    clear h0 hr; clear h kM hM rb ob ht eq kM0 kW1; obtain ⟨oa, ob, oc, od⟩ := OB.out; go_enter Try.func55, Try.ntmps55; go_wp2_with fail; refine C.mono ?_; rintro e w1 ⟨rfl, k1⟩; clear C eM eW1 oa ob oc od; obtain ⟨o0, o1, o2, o3⟩ := OB.out.keep k1 id; have FA := FA w1; have RL := RL.out w1 k1; have K1 := Lib.hid k1; clear k1; go_wp2_with fail; refine FA.mono ?_; rintro e w2 ⟨rfl, rfl⟩; clear FA; go_wp2_with fail; refine RL.mono ?_; rintro e w3 ⟨rfl, a3, k3⟩; clear RL; have R6 := Lib.hid ((RB.out.keep K1.out id).keep k3 hbN); obtain ⟨q0, q1, q2, q3, q4, q5⟩ := R6.out; have A3 := Lib.hid a3; have K3 := Lib.hid k3; clear a3 k3; go_wp2; (obtain ⟨W7, eW7⟩ : ∃ W7, (((((w3.setCell ⟨N, 0, none⟩ (.int .i64 r)).setCell ⟨N, 1, none⟩ (.int .i64 0)).setCell ⟨N, 2, none⟩ (.slice none 0 0)).setCell ⟨N, 3, none⟩ (.int .i64 0)).setCell ⟨N, 4, none⟩ (.int .i64 0)) = W7 := ⟨_, rfl⟩; obtain ⟨⟨v0, v1, v2, v3, v4, _⟩, k7⟩ := res_set R6.out _ _ _ _ _ eW7; rw [eW7]; refine bodyPost_ret (v := .agg #[.int .i64 r, .int .i64 0, .slice none 0 0, .int .i64 0, .int .i64 0]) (by simp [results, Try.results55, go_sem, v0, v1, v2, v3, v4]) rfl ⟨rfl, ?_⟩); refine ⟨A3.out.keep k7 (fun g hg e => OND.out g hg e), (((KM.out.trans K1.out).trans' (K3.out.mono fun g e => ?_)).older' k7 (by rw [EN.out]; have := NN.out; omega))⟩; have e : g = t.b := e; rw [e, OT.out.1]; omega
set_option maxRecDepth 100000 in
set_option maxHeartbeats 2000000 in
theorem lwrite_con (h : LdAt w m K o z) {i : Nat} (hi : i < 8) (ht : z.s i = some t) (hx : (z.F t.f).st = 1) {k : Nat} (hk : k < 64) (hl : ∀ k, k < 64 → (z.k k).length ≤ 100000) (kind val : Int) (hr : (0 : Int) = if kind = 2 ∧ ((z.k k).find? (seesV z.F t)).isSome = true then 12 else if kind ≠ 2 ∧ ((z.k k).find? (seesV z.F t)).isSome = false then 11 else 0) {v : VeI} (hc : (z.k k).find? (confV z.F t) = some v) :
    Calls Try.prog 55 #[.pointer (some ⟨m, 0, none⟩), .pointer (some ⟨t.b, 0, none⟩), opV ⟨kind, k, 0, val⟩] w (LdRes w m K o (MoI.bad 2) { z with F := updF z.F t.f ⟨4, 0⟩ }) := by
  obtain ⟨W1, eW1, ob, kW1⟩ := op_box w ⟨kind, k, 0, val⟩; obtain ⟨M, eM, rb, kM0⟩ := res_box W1; have kM := kW1.trans kM0; have ob := ob.keep kM0 id; have hM := h.quiet kM; have C := find_any hM hk (hl k hk) (hold_sees (hM.t i t hi ht) (hM.tf hi ht)); have ONA := Lib.hid (show ∀ g, o g ≠ 0 → g < w.heap.size from h.lt); obtain ⟨N1, eN1⟩ : ∃ N1, w.heap.size = N1 := ⟨_, rfl⟩; obtain ⟨N, eN⟩ : ∃ N, W1.heap.size = N := ⟨_, rfl⟩; have hNN : N = N1 + 1 := (by rw [← eN, ← eW1, ← eN1]; simp); rw [eN1] at ob ONA; rw [eN] at rb; have OND := Lib.hid (show ∀ g, o g ≠ 0 → g ≠ N from fun g hg e => by have := ONA.out g hg; omega); have ON1 := Lib.hid (show ∀ g, o g ≠ 0 → g ≠ N1 from fun g hg e => by have := ONA.out g hg; omega); have NN := Lib.hid hNN; obtain ⟨q, eq⟩ : ∃ q, (z.k k).find? (seesV z.F t) = q := ⟨_, rfl⟩; rw [eq] at C; have KM := Lib.hid kM; have HM := Lib.hid hM; have RB := Lib.hid rb; have OB := Lib.hid ob; have EN := Lib.hid eN1; have HT := Lib.hid ht; have EQ := Lib.hid eq; have OT := Lib.hid (h.oT i t hi ht); have VH := Lib.hid (fun v (hv : (z.k k).find? (seesV z.F t) = some v) => (List.mem_of_find?_eq_some hv : v ∈ z.k k)); have OV := Lib.hid h.oV; clear hNN
  have C2 := Lib.hid fun w1 (k1 : Keep (fun _ => False) M w1) => find_any (hM.quiet k1) hk (hl k hk) (hold_conf ((hM.quiet k1).t i t hi ht) ((hM.quiet k1).tf hi ht))
  rw [hc] at C2
  dsimp only [Option.map, ptrO] at C2
  have AB := Lib.hid fun w1 (k1 : Keep (fun _ => False) M w1) => abort_any (hM.quiet k1) hi ht hx 2
  have hfN : ¬ N = t.f := fun e => OND.out t.f (by rw [OT.out.2]; decide) e.symm
  rw [eq] at hr
  unfold LdRes opV
  unfold reV MoI.bad
  dsimp only
  cases q with
  | none =>
    dsimp only [Option.map, ptrO, Option.isSome] at C hr
    have FA := fun w1 => fault_any kind false 0 hr w1
    have qe := fun w => (eql_nilsV (w := w)).2
    clear hr; clear h kM hM rb ob ht eq kM0 kW1; obtain ⟨oa, ob, oc, od⟩ := OB.out; go_enter Try.func55, Try.ntmps55; go_wp2_with fail; refine C.mono ?_; rintro e w1 ⟨rfl, k1⟩; clear C eM eW1 oa ob oc od; obtain ⟨o0, o1, o2, o3⟩ := OB.out.keep k1 id; have FA := FA w1; have C2 := C2.out w1 k1; have K1 := Lib.hid k1; clear k1; go_wp2_with fail; refine FA.mono ?_; rintro e w2 ⟨rfl, rfl⟩; clear FA; go_wp2_with fail; refine C2.mono ?_; rintro e w3 ⟨rfl, k3⟩; clear C2 o0 o1 o2 o3; have K3 := Lib.hid (K1.out.trans k3); clear k3 K1; obtain ⟨o0, o1, o2, o3⟩ := OB.out.keep K3.out id; have qe2 := (eql_nilV (w := w3) (a := v.b)).2; have AB := AB.out w3 K3.out; go_wp2_with fail; refine AB.mono ?_; rintro e w4 ⟨rfl, a4, k4⟩; clear AB; have R6 := Lib.hid ((RB.out.keep K3.out id).keep k4 hfN); obtain ⟨q0, q1, q2, q3, q4, q5⟩ := R6.out; have A4 := Lib.hid a4; have K4 := Lib.hid k4; clear a4 k4; unfold reV MoI.bad; dsimp only; go_wp2; (obtain ⟨W7, eW7⟩ : ∃ W7, (((((w4.setCell ⟨N, 0, none⟩ (.int .i64 14)).setCell ⟨N, 1, none⟩ (.int .i64 0)).setCell ⟨N, 2, none⟩ (.slice none 0 0)).setCell ⟨N, 3, none⟩ (.int .i64 4)).setCell ⟨N, 4, none⟩ (.int .i64 2)) = W7 := ⟨_, rfl⟩; obtain ⟨⟨v0, v1, v2, v3, v4, _⟩, k7⟩ := res_set R6.out _ _ _ _ _ eW7; rw [eW7]; refine bodyPost_ret (v := .agg #[.int .i64 14, .int .i64 0, .slice none 0 0, .int .i64 4, .int .i64 2]) (by simp [results, Try.results55, go_sem, v0, v1, v2, v3, v4]) rfl ⟨rfl, ?_⟩); refine ⟨A4.out.keep k7 (fun g hg e => OND.out g hg e), (((KM.out.trans K3.out).trans' (K4.out.mono fun g e => ?_)).older' k7 (by rw [EN.out]; have := NN.out; omega))⟩; have e : g = t.f := e; rw [e, OT.out.2]; decide
  | some u =>
    dsimp only [Option.map, ptrO, Option.isSome] at C hr
    have FA := fun w1 => fault_any kind true 0 hr w1
    have qe := fun w => (eql_nilV (w := w) (a := u.b)).2
    clear hr; clear h kM hM rb ob ht eq kM0 kW1; obtain ⟨oa, ob, oc, od⟩ := OB.out; go_enter Try.func55, Try.ntmps55; go_wp2_with fail; refine C.mono ?_; rintro e w1 ⟨rfl, k1⟩; clear C eM eW1 oa ob oc od; obtain ⟨o0, o1, o2, o3⟩ := OB.out.keep k1 id; have FA := FA w1; have C2 := C2.out w1 k1; have K1 := Lib.hid k1; clear k1; go_wp2_with fail; refine FA.mono ?_; rintro e w2 ⟨rfl, rfl⟩; clear FA; go_wp2_with fail; refine C2.mono ?_; rintro e w3 ⟨rfl, k3⟩; clear C2 o0 o1 o2 o3; have K3 := Lib.hid (K1.out.trans k3); clear k3 K1; obtain ⟨o0, o1, o2, o3⟩ := OB.out.keep K3.out id; have qe2 := (eql_nilV (w := w3) (a := v.b)).2; have AB := AB.out w3 K3.out; go_wp2_with fail; refine AB.mono ?_; rintro e w4 ⟨rfl, a4, k4⟩; clear AB; have R6 := Lib.hid ((RB.out.keep K3.out id).keep k4 hfN); obtain ⟨q0, q1, q2, q3, q4, q5⟩ := R6.out; have A4 := Lib.hid a4; have K4 := Lib.hid k4; clear a4 k4; unfold reV MoI.bad; dsimp only; go_wp2; (obtain ⟨W7, eW7⟩ : ∃ W7, (((((w4.setCell ⟨N, 0, none⟩ (.int .i64 14)).setCell ⟨N, 1, none⟩ (.int .i64 0)).setCell ⟨N, 2, none⟩ (.slice none 0 0)).setCell ⟨N, 3, none⟩ (.int .i64 4)).setCell ⟨N, 4, none⟩ (.int .i64 2)) = W7 := ⟨_, rfl⟩; obtain ⟨⟨v0, v1, v2, v3, v4, _⟩, k7⟩ := res_set R6.out _ _ _ _ _ eW7; rw [eW7]; refine bodyPost_ret (v := .agg #[.int .i64 14, .int .i64 0, .slice none 0 0, .int .i64 4, .int .i64 2]) (by simp [results, Try.results55, go_sem, v0, v1, v2, v3, v4]) rfl ⟨rfl, ?_⟩); refine ⟨A4.out.keep k7 (fun g hg e => OND.out g hg e), (((KM.out.trans K3.out).trans' (K4.out.mono fun g e => ?_)).older' k7 (by rw [EN.out]; have := NN.out; omega))⟩; have e : g = t.f := e; rw [e, OT.out.2]; decide
set_option maxRecDepth 100000 in
set_option maxHeartbeats 2000000 in
theorem write_del (h : LdAt w m K o z) {i : Nat} (hi : i < 8) (ht : z.s i = some t) {k : Nat} (hk : k < 64) (hl : ∀ k, k < 64 → (z.k k).length ≤ 100000) (val : Int) {u : VeI} (hq : (z.k k).find? (seesV z.F t) = some u) (hc : (z.k k).find? (confV z.F t) = none) :
  Calls Try.prog 55 #[.pointer (some ⟨m, 0, none⟩), .pointer (some ⟨t.b, 0, none⟩), opV ⟨4, k, 0, val⟩] w (LdRes w m K o re0 (turnZ z k u.b (endV t.f))) := by
 obtain ⟨kind, hkind⟩ : ∃ kind : Int, kind = 4 := ⟨_, rfl⟩
 rw [← hkind]
 obtain ⟨W1, eW1, ob, kW1⟩ := op_box w ⟨kind, k, 0, val⟩; obtain ⟨M, eM, rb, kM0⟩ := res_box W1; have kM := kW1.trans kM0; have ob := ob.keep kM0 id; have hM := h.quiet kM; have C := find_any hM hk (hl k hk) (hold_sees (hM.t i t hi ht) (hM.tf hi ht)); have ONA := Lib.hid (show ∀ g, o g ≠ 0 → g < w.heap.size from h.lt); obtain ⟨N1, eN1⟩ : ∃ N1, w.heap.size = N1 := ⟨_, rfl⟩; obtain ⟨N, eN⟩ : ∃ N, W1.heap.size = N := ⟨_, rfl⟩; have hNN : N = N1 + 1 := (by rw [← eN, ← eW1, ← eN1]; simp); rw [eN1] at ob ONA; rw [eN] at rb; have OND := Lib.hid (show ∀ g, o g ≠ 0 → g ≠ N from fun g hg e => by have := ONA.out g hg; omega); have ON1 := Lib.hid (show ∀ g, o g ≠ 0 → g ≠ N1 from fun g hg e => by have := ONA.out g hg; omega); have NN := Lib.hid hNN; obtain ⟨q, eq⟩ : ∃ q, (z.k k).find? (seesV z.F t) = q := ⟨_, rfl⟩; rw [eq] at C; have KM := Lib.hid kM; have HM := Lib.hid hM; have RB := Lib.hid rb; have OB := Lib.hid ob; have EN := Lib.hid eN1; have HT := Lib.hid ht; have EQ := Lib.hid eq; have OT := Lib.hid (h.oT i t hi ht); have VH := Lib.hid (fun v (hv : (z.k k).find? (seesV z.F t) = some v) => (List.mem_of_find?_eq_some hv : v ∈ z.k k)); have OV := Lib.hid h.oV; clear hNN
 obtain rfl : q = some u := eq.symm.trans hq
 have C2 := Lib.hid fun w1 (k1 : Keep (fun _ => False) M w1) => find_any (hM.quiet k1) hk (hl k hk) (hold_conf ((hM.quiet k1).t i t hi ht) ((hM.quiet k1).tf hi ht))
 rw [hc] at C2
 have hu := List.mem_of_find?_eq_some hq
 have FIN := Lib.hid fun w1 (k1 : Keep (fun _ => False) M w1) => (hM.quiet k1).end2 hk hu hi ht
 have UU := Lib.hid fun w1 (k1 : Keep (fun _ => False) M w1) => (hM.quiet k1).v k u hk hu
 have TT := Lib.hid fun w1 (k1 : Keep (fun _ => False) M w1) => (hM.quiet k1).t i t hi ht
 have OU := Lib.hid (h.oV k u hk hu).1
 have huN : ¬ N = u.b := fun e => OND.out u.b (by rw [OU.out]; decide) e.symm
 have hr : (0 : Int) = if kind = 2 ∧ true = true then 12 else if kind ≠ 2 ∧ true = false then 11 else 0 := by rw [hkind]; rfl
 have FA := fun w1 => fault_any kind true 0 hr w1
 have qe := fun w => (eql_nilV (w := w) (a := u.b)).2
 have d4 : (kind == 4) = true := by simpa using hkind
 dsimp only [Option.map, ptrO] at C C2
 clear hq hc hu hkind
 unfold LdRes opV reV re0
 dsimp only
 clear hr; clear h kM hM rb ob ht eq kM0 kW1; obtain ⟨oa, ob, oc, od⟩ := OB.out; go_enter Try.func55, Try.ntmps55; go_wp2_with fail; refine C.mono ?_; rintro e w1 ⟨rfl, k1⟩; clear C eM eW1 oa ob oc od; obtain ⟨o0, o1, o2, o3⟩ := OB.out.keep k1 id; have FA := FA w1; have C2 := C2.out w1 k1; have K1 := Lib.hid k1; clear k1; go_wp2_with fail; refine FA.mono ?_; rintro e w2 ⟨rfl, rfl⟩; clear FA; go_wp2_with fail; refine C2.mono ?_; rintro e w3 ⟨rfl, k3⟩; clear C2 o0 o1 o2 o3; have K3 := Lib.hid (K1.out.trans k3); clear k3 K1; obtain ⟨o0, o1, o2, o3⟩ := OB.out.keep K3.out id
 have qe2 := (eql_nilsV (w := w3)).2
 have c2 := (UU.out w3 K3.out).c2
 have f2 := (UU.out w3 K3.out).fz 2
 have cf := (TT.out w3 K3.out).cf
 have A4 := Lib.hid (FIN.out w3 K3.out)
 have k4 := keep_one w3 ⟨u.b, 2, none⟩ (.pointer (some ⟨t.f, 0, none⟩))
 obtain ⟨w4, e4⟩ : ∃ w4, w3.setCell ⟨u.b, 2, none⟩ (.pointer (some ⟨t.f, 0, none⟩)) = w4 := ⟨_, rfl⟩
 rw [e4] at A4 k4
 have R6 := Lib.hid ((RB.out.keep K3.out id).keep k4 huN)
 obtain ⟨q0, q1, q2, q3, q4, q5⟩ := R6.out
 have K4 := Lib.hid k4
 clear k4
 go_wp2
 (obtain ⟨W7, eW7⟩ : ∃ W7, (((((w4.setCell ⟨N, 0, none⟩ (.int .i64 0)).setCell ⟨N, 1, none⟩ (.int .i64 0)).setCell ⟨N, 2, none⟩ (.slice none 0 0)).setCell ⟨N, 3, none⟩ (.int .i64 0)).setCell ⟨N, 4, none⟩ (.int .i64 0)) = W7 := ⟨_, rfl⟩; obtain ⟨⟨v0, v1, v2, v3, v4, _⟩, k7⟩ := res_set R6.out _ _ _ _ _ eW7; rw [eW7]; refine bodyPost_ret (v := .agg #[.int .i64 0, .int .i64 0, .slice none 0 0, .int .i64 0, .int .i64 0]) (by simp [results, Try.results55, go_sem, v0, v1, v2, v3, v4]) rfl ⟨rfl, ?_⟩)
 refine ⟨A4.out.keep k7 (fun g hg e => OND.out g hg e), (((KM.out.trans K3.out).trans' (K4.out.mono fun g e => ?_)).older' k7 (by rw [EN.out]; have := NN.out; omega))⟩
 have e : g = u.b := e
 rw [e, OU.out]; decide
theorem ownM_shape {w : World} {v : Value} {l : List (Int × Int)} (o : OwnPr w v l) : ∃ A n c, v = .slice A n c := by
 rcases o.form with ⟨h1, _⟩ | ⟨g, c, h1, _⟩ <;> exact ⟨_, _, _, h1⟩
set_option maxRecDepth 100000 in
set_option maxHeartbeats 2000000 in
theorem write_put (h : LdAt w m K o z) {i : Nat} (hi : i < 8) (ht : z.s i = some t) {k : Nat} (hk : k < 64) (hl : ∀ k, k < 64 → (z.k k).length ≤ 100000) (kind val : Int) (h4 : kind ≠ 4) (hr : (0 : Int) = if kind = 2 ∧ ((z.k k).find? (seesV z.F t)).isSome = true then 12 else if kind ≠ 2 ∧ ((z.k k).find? (seesV z.F t)).isSome = false then 11 else 0) (hc : (z.k k).find? (confV z.F t) = none) (r : ReI) (Zs : LdI → Prop)
    (hP : ∀ w1, LdAt w1 m K o z → Calls Try.prog 63 #[.pointer (some ⟨m, 0, none⟩), .pointer (some ⟨t.b, 0, none⟩), .int .i64 k, .int .i64 val, ptrO (((z.k k).find? (seesV z.F t)).map VeI.b)] w1 (LdEnd w1 m o r Zs)) :
    Calls Try.prog 55 #[.pointer (some ⟨m, 0, none⟩), .pointer (some ⟨t.b, 0, none⟩), opV ⟨kind, k, 0, val⟩] w (LdEnd w m o r Zs) := by
  obtain ⟨W1, eW1, ob, kW1⟩ := op_box w ⟨kind, k, 0, val⟩; obtain ⟨M, eM, rb, kM0⟩ := res_box W1; have kM := kW1.trans kM0; have ob := ob.keep kM0 id; have hM := h.quiet kM; have C := find_any hM hk (hl k hk) (hold_sees (hM.t i t hi ht) (hM.tf hi ht)); have ONA := Lib.hid (show ∀ g, o g ≠ 0 → g < w.heap.size from h.lt); obtain ⟨N1, eN1⟩ : ∃ N1, w.heap.size = N1 := ⟨_, rfl⟩; obtain ⟨N, eN⟩ : ∃ N, W1.heap.size = N := ⟨_, rfl⟩; have hNN : N = N1 + 1 := (by rw [← eN, ← eW1, ← eN1]; simp); rw [eN1] at ob ONA; rw [eN] at rb; have OND := Lib.hid (show ∀ g, o g ≠ 0 → g ≠ N from fun g hg e => by have := ONA.out g hg; omega); have ON1 := Lib.hid (show ∀ g, o g ≠ 0 → g ≠ N1 from fun g hg e => by have := ONA.out g hg; omega); have NN := Lib.hid hNN; obtain ⟨q, eq⟩ : ∃ q, (z.k k).find? (seesV z.F t) = q := ⟨_, rfl⟩; rw [eq] at C; have KM := Lib.hid kM; have HM := Lib.hid hM; have RB := Lib.hid rb; have OB := Lib.hid ob; have EN := Lib.hid eN1; have HT := Lib.hid ht; have EQ := Lib.hid eq; have OT := Lib.hid (h.oT i t hi ht); have VH := Lib.hid (fun v (hv : (z.k k).find? (seesV z.F t) = some v) => (List.mem_of_find?_eq_some hv : v ∈ z.k k)); have OV := Lib.hid h.oV; clear hNN
  have C2 := Lib.hid fun w1 (k1 : Keep (fun _ => False) M w1) => find_any (hM.quiet k1) hk (hl k hk) (hold_conf ((hM.quiet k1).t i t hi ht) ((hM.quiet k1).tf hi ht))
  rw [hc] at C2
  have PP := Lib.hid fun w1 (k1 : Keep (fun _ => False) M w1) => hP w1 (hM.quiet k1)
  have d4 : (kind == 4) = false := by simpa using h4
  rw [eq] at hr PP
  obtain ⟨re, rv, rp, ro, rs⟩ := r
  unfold opV
  dsimp only
  clear hP hc h4
  cases q with
  | none =>
    dsimp only [Option.map, ptrO, Option.isSome] at C hr C2 PP
    have FA := fun w1 => fault_any kind false 0 hr w1
    have qe := fun w => (eql_nilsV (w := w)).2
    clear hr; clear h kM hM rb ob ht eq kM0 kW1; obtain ⟨oa, ob, oc, od⟩ := OB.out; go_enter Try.func55, Try.ntmps55; go_wp2_with fail; refine C.mono ?_; rintro e w1 ⟨rfl, k1⟩; clear C eM eW1 oa ob oc od; obtain ⟨o0, o1, o2, o3⟩ := OB.out.keep k1 id; have FA := FA w1; have C2 := C2.out w1 k1; have K1 := Lib.hid k1; clear k1; go_wp2_with fail; refine FA.mono ?_; rintro e w2 ⟨rfl, rfl⟩; clear FA; go_wp2_with fail; refine C2.mono ?_; rintro e w3 ⟨rfl, k3⟩; clear C2 o0 o1 o2 o3; have K3 := Lib.hid (K1.out.trans k3); clear k3 K1; obtain ⟨o0, o1, o2, o3⟩ := OB.out.keep K3.out id; have qe2 := (eql_nilsV (w := w3)).2; have PP := PP.out w3 K3.out; go_wp2_with fail; refine PP.mono ?_; rintro e w4 ⟨u4, z', K', o', rfl, hz, ou, og, a4, k4, n4⟩; clear PP; obtain ⟨A5, n5, c5, rfl⟩ := ownM_shape ou; have R6 := Lib.hid ((RB.out.keep K3.out id).keep k4 (fun e => OND.out N e rfl)); obtain ⟨q0, q1, q2, q3, q4, q5⟩ := R6.out; have A4 := Lib.hid a4; have K4 := Lib.hid k4; have N4 := Lib.hid n4; have OU := Lib.hid ou; have OG := Lib.hid og; have HZ := Lib.hid hz; have NW4 := Lib.hid (K3.out.size); clear a4 k4 n4 ou og hz; unfold reV; dsimp only; go_wp2; (obtain ⟨W7, eW7⟩ : ∃ W7, (((((w4.setCell ⟨N, 0, none⟩ (.int .i64 re)).setCell ⟨N, 1, none⟩ (.int .i64 rv)).setCell ⟨N, 2, none⟩ (.slice A5 n5 c5)).setCell ⟨N, 3, none⟩ (.int .i64 ro)).setCell ⟨N, 4, none⟩ (.int .i64 rs)) = W7 := ⟨_, rfl⟩; obtain ⟨⟨v0, v1, v2, v3, v4, _⟩, k7⟩ := res_set R6.out _ _ _ _ _ eW7; rw [eW7]; refine bodyPost_ret (v := .agg #[.int .i64 re, .int .i64 rv, .slice A5 n5 c5, .int .i64 ro, .int .i64 rs]) (by simp [results, Try.results55, go_sem, v0, v1, v2, v3, v4]) rfl ?_); exact ⟨_, z', K', o', rfl, HZ.out, OU.out.keep k7 (fun g hg e => by have e : g = N := e; have := (OG.out g hg).1; have q : N < M.heap.size := lt_of_cell RB.out.r0; have := K3.out.size; omega), (fun g hg => ⟨Nat.le_trans (KM.out.trans K3.out).size (OG.out g hg).1, (OG.out g hg).2⟩), A4.out.keep k7 (fun g hg e => by have e : g = N := e; rcases N4.out g hg with a | a; exact OND.out g a e; have q : N < M.heap.size := lt_of_cell RB.out.r0; have := K3.out.size; omega), (((KM.out.trans K3.out).trans' K4.out).older' k7 (by rw [EN.out]; have := NN.out; omega)), (fun g hg => (N4.out g hg).imp id (Nat.le_trans (KM.out.trans K3.out).size))⟩
  | some u =>
    dsimp only [Option.map, ptrO, Option.isSome] at C hr C2 PP
    have FA := fun w1 => fault_any kind true 0 hr w1
    have qe := fun w => (eql_nilV (w := w) (a := u.b)).2
    clear hr; clear h kM hM rb ob ht eq kM0 kW1; obtain ⟨oa, ob, oc, od⟩ := OB.out; go_enter Try.func55, Try.ntmps55; go_wp2_with fail; refine C.mono ?_; rintro e w1 ⟨rfl, k1⟩; clear C eM eW1 oa ob oc od; obtain ⟨o0, o1, o2, o3⟩ := OB.out.keep k1 id; have FA := FA w1; have C2 := C2.out w1 k1; have K1 := Lib.hid k1; clear k1; go_wp2_with fail; refine FA.mono ?_; rintro e w2 ⟨rfl, rfl⟩; clear FA; go_wp2_with fail; refine C2.mono ?_; rintro e w3 ⟨rfl, k3⟩; clear C2 o0 o1 o2 o3; have K3 := Lib.hid (K1.out.trans k3); clear k3 K1; obtain ⟨o0, o1, o2, o3⟩ := OB.out.keep K3.out id; have qe2 := (eql_nilsV (w := w3)).2; have PP := PP.out w3 K3.out; go_wp2_with fail; refine PP.mono ?_; rintro e w4 ⟨u4, z', K', o', rfl, hz, ou, og, a4, k4, n4⟩; clear PP; obtain ⟨A5, n5, c5, rfl⟩ := ownM_shape ou; have R6 := Lib.hid ((RB.out.keep K3.out id).keep k4 (fun e => OND.out N e rfl)); obtain ⟨q0, q1, q2, q3, q4, q5⟩ := R6.out; have A4 := Lib.hid a4; have K4 := Lib.hid k4; have N4 := Lib.hid n4; have OU := Lib.hid ou; have OG := Lib.hid og; have HZ := Lib.hid hz; have NW4 := Lib.hid (K3.out.size); clear a4 k4 n4 ou og hz; unfold reV; dsimp only; go_wp2; (obtain ⟨W7, eW7⟩ : ∃ W7, (((((w4.setCell ⟨N, 0, none⟩ (.int .i64 re)).setCell ⟨N, 1, none⟩ (.int .i64 rv)).setCell ⟨N, 2, none⟩ (.slice A5 n5 c5)).setCell ⟨N, 3, none⟩ (.int .i64 ro)).setCell ⟨N, 4, none⟩ (.int .i64 rs)) = W7 := ⟨_, rfl⟩; obtain ⟨⟨v0, v1, v2, v3, v4, _⟩, k7⟩ := res_set R6.out _ _ _ _ _ eW7; rw [eW7]; refine bodyPost_ret (v := .agg #[.int .i64 re, .int .i64 rv, .slice A5 n5 c5, .int .i64 ro, .int .i64 rs]) (by simp [results, Try.results55, go_sem, v0, v1, v2, v3, v4]) rfl ?_); exact ⟨_, z', K', o', rfl, HZ.out, OU.out.keep k7 (fun g hg e => by have e : g = N := e; have := (OG.out g hg).1; have q : N < M.heap.size := lt_of_cell RB.out.r0; have := K3.out.size; omega), (fun g hg => ⟨Nat.le_trans (KM.out.trans K3.out).size (OG.out g hg).1, (OG.out g hg).2⟩), A4.out.keep k7 (fun g hg e => by have e : g = N := e; rcases N4.out g hg with a | a; exact OND.out g a e; have q : N < M.heap.size := lt_of_cell RB.out.r0; have := K3.out.size; omega), (((KM.out.trans K3.out).trans' K4.out).older' k7 (by rw [EN.out]; have := NN.out; omega)), (fun g hg => (N4.out g hg).imp id (Nat.le_trans (KM.out.trans K3.out).size))⟩
end
end Go.Proofs.Ytalkfnblnlcklaa
/- Package model as landed, in memory: New, Begin. Condition: times below 2^41. -/
namespace Go.Proofs.Ytalkfnblnlcklaa
open Go.ChangeShapes Go.WideShapes Go.ChangeAt Go.RowKit
set_option linter.unusedVariables false
set_option linter.unusedSimpArgs false
section
variable {w w' w2 : World} {m g n c : Nat} {K : Nat → Value} {o : Nat → Nat} {z : LdI} {T : Nat → Prop} {F : Nat → FtI} {P : VeI → Bool} {t : TtI} {fv : Value} {l : List VeI}
theorem begin_arg (s level : Int) (hb : s < 0 ∨ 7 < s ∨ level < 1 ∨ 3 < level) (w : World) : Calls Try.prog 16 #[.pointer (some ⟨m, 0, none⟩), .int .i64 s, .int .i64 level] w fun e w' => e = .returned (.tuple #[.int .i64 0, .int .i64 1]) ∧ w' = w := by
 by_cases hs : s < 0 ∨ 7 < s
 ·have S := issession_any s false (by symm; rw [decide_eq_false_iff_not]; omega) w
  clear hb hs
  go_enter Try.func16, Try.ntmps16
  go_wp2_with fail
  refine S.mono ?_
  rintro e w1 ⟨rfl, rfl⟩
  clear S
  go_wp2
  refine bodyPost_ret (v := .tuple #[.int .i64 0, .int .i64 1]) (by simp [results, Try.results16, go_sem]) rfl ?_
  exact ⟨rfl, rfl⟩
 ·have S := issession_any s true (by symm; rw [decide_eq_true_iff]; omega) w
  by_cases h1 : level < 1
  ·have d1 : decide (level < 1) = true := decide_eq_true h1
   clear hb hs h1
   go_enter Try.func16, Try.ntmps16
   go_wp2_with fail
   refine S.mono ?_
   rintro e w1 ⟨rfl, rfl⟩
   clear S
   go_wp2
   refine bodyPost_ret (v := .tuple #[.int .i64 0, .int .i64 1]) (by simp [results, Try.results16, go_sem]) rfl ?_
   exact ⟨rfl, rfl⟩
  ·have d1 : decide (level < 1) = false := decide_eq_false h1
   have d3 : decide (3 < level) = true := by rw [decide_eq_true_iff]; omega
   clear hb hs h1
   go_enter Try.func16, Try.ntmps16
   go_wp2_with fail
   refine S.mono ?_
   rintro e w1 ⟨rfl, rfl⟩
   clear S
   go_wp2
   refine bodyPost_ret (v := .tuple #[.int .i64 0, .int .i64 1]) (by simp [results, Try.results16, go_sem]) rfl ?_
   exact ⟨rfl, rfl⟩
theorem begin_live (h : LdAt w m K o z) (i : Nat) (hi : i < 8) (level : Int) (hl : 1 ≤ level ∧ level ≤ 3) (ht : z.s i = some t) : Calls Try.prog 16 #[.pointer (some ⟨m, 0, none⟩), .int .i64 i, .int .i64 level] w fun e w' => e = .returned (.tuple #[.int .i64 0, .int .i64 9]) ∧ w' = w := by
 have S := issession_any i true (by symm; rw [decide_eq_true_iff]; omega) w; have d1 : decide (level < 1) = false := (by rw [decide_eq_false_iff_not]; omega); have d3 : decide (3 < level) = false := (by rw [decide_eq_false_iff_not]; omega); have cs := h.a.cs i hi; have c3 := h.a.c3; have hi2 : (i : Int) < 8 := (by omega)
 rw [ht] at cs
 dsimp only [Option.map, ptrO] at cs
 have qe := (eql_nilT (w := w) (a := t.b)).2
 clear h hl ht
 go_enter Try.func16, Try.ntmps16; go_wp2_with fail; refine S.mono ?_; rintro e w1 ⟨rfl, rfl⟩; clear S
 go_wp2
 refine bodyPost_ret (v := .tuple #[.int .i64 0, .int .i64 9]) (by simp [results, Try.results16, go_sem]) rfl ?_
 exact ⟨rfl, rfl⟩
theorem begin_many (h : LdAt w m K o z) (i : Nat) (hi : i < 8) (level : Int) (hl : 1 ≤ level ∧ level ≤ 3) (ht : z.s i = none) (hm : z.begun = 2000) : Calls Try.prog 16 #[.pointer (some ⟨m, 0, none⟩), .int .i64 i, .int .i64 level] w fun e w' => e = .returned (.tuple #[.int .i64 0, .int .i64 65]) ∧ w' = w := by
 have S := issession_any i true (by symm; rw [decide_eq_true_iff]; omega) w; have d1 : decide (level < 1) = false := (by rw [decide_eq_false_iff_not]; omega); have d3 : decide (3 < level) = false := (by rw [decide_eq_false_iff_not]; omega); have cs := h.a.cs i hi; have c3 := h.a.c3; have hi2 : (i : Int) < 8 := (by omega)
 rw [ht] at cs
 rw [hm] at c3
 dsimp only [Option.map, ptrO] at cs
 clear h hl ht hm
 go_enter Try.func16, Try.ntmps16; go_wp2_with fail; refine S.mono ?_; rintro e w1 ⟨rfl, rfl⟩; clear S
 go_wp2
 refine bodyPost_ret (v := .tuple #[.int .i64 0, .int .i64 65]) (by simp [results, Try.results16, go_sem]) rfl ?_
 exact ⟨rfl, rfl⟩
theorem begin_late (h : LdAt w m K o z) (i : Nat) (hi : i < 8) (level : Int) (hl : 1 ≤ level ∧ level ≤ 3) (ht : z.s i = none) (hm : z.begun ≠ 2000) (hc : z.limit = z.clock) : Calls Try.prog 16 #[.pointer (some ⟨m, 0, none⟩), .int .i64 i, .int .i64 level] w fun e w' => e = .returned (.tuple #[.int .i64 0, .int .i64 16]) ∧ Keep (fun _ => False) w w' := by
 have S := issession_any i true (by symm; rw [decide_eq_true_iff]; omega) w; have d1 : decide (level < 1) = false := (by rw [decide_eq_false_iff_not]; omega); have d3 : decide (3 < level) = false := (by rw [decide_eq_false_iff_not]; omega); have cs := h.a.cs i hi; have c3 := h.a.c3; have hi2 : (i : Int) < 8 := (by omega)
 have D := draw_no h hc
 rw [ht] at cs
 obtain ⟨bg, ebg⟩ : ∃ bg, z.begun = bg := ⟨_, rfl⟩
 rw [ebg] at c3 hm
 have dm : (bg == 2000) = false := by simpa using hm
 dsimp only [Option.map, ptrO] at cs
 clear h hl ht hm hc ebg
 go_enter Try.func16, Try.ntmps16; go_wp2_with fail; refine S.mono ?_; rintro e w1 ⟨rfl, rfl⟩; clear S
 go_wp2_with fail
 refine D.mono ?_
 rintro e w2 ⟨rfl, k2⟩
 clear D
 go_wp2
 refine bodyPost_ret (v := .tuple #[.int .i64 0, .int .i64 16]) (by simp [results, Try.results16, go_sem]) rfl ?_
 exact ⟨rfl, k2⟩
set_option maxRecDepth 100000 in
set_option maxHeartbeats 2000000 in
theorem begin_ok (h : LdAt w m K o z) (i : Nat) (hi : i < 8) (level : Int) (hl : 1 ≤ level ∧ level ≤ 3) (ht : z.s i = none) (hm : z.begun ≠ 2000) (hb : 0 ≤ z.begun ∧ z.begun ≤ 2000) (hc : z.limit ≠ z.clock) (h0 : 0 ≤ z.clock) (h1 : z.clock ≤ z.limit) (h2 : z.limit ≤ 1099511627776) : Calls Try.prog 16 #[.pointer (some ⟨m, 0, none⟩), .int .i64 i, .int .i64 level] w (BegP w m K o z i level) := by
 have S := issession_any i true (by symm; rw [decide_eq_true_iff]; omega) w; have d1 : decide (level < 1) = false := (by rw [decide_eq_false_iff_not]; omega); have d3 : decide (3 < level) = false := (by rw [decide_eq_false_iff_not]; omega); have cs := h.a.cs i hi; have c3 := h.a.c3; have hi2 : (i : Int) < 8 := (by omega)
 have D := draw_yes h hc h0 h1 h2
 rw [ht] at cs
 have OM := Lib.hid h.om
 obtain ⟨bg, ebg⟩ : ∃ bg, z.begun = bg := ⟨_, rfl⟩
 obtain ⟨cl, ecl⟩ : ∃ cl, z.clock + 1 = cl := ⟨_, rfl⟩
 obtain ⟨b1, eb1⟩ : ∃ b1, bg + 1 = b1 := ⟨_, rfl⟩
 rw [ebg] at c3 hm hb
 rw [ecl] at D
 have dm : (bg == 2000) = false := by simpa using hm
 have wb : IntKind.i64.wrap (bg + 1) = b1 := by rw [← eb1]; exact IntWalk.i64_in _ (by omega)
 have EBG := Lib.hid ebg
 have ECL := Lib.hid ecl
 have EB1 := Lib.hid eb1
 dsimp only [Option.map, ptrO] at cs
 unfold BegP
 rw [ebg, eb1]
 clear h hl ht hm hc ebg ecl eb1 h0 h1 h2 hb
 go_enter Try.func16, Try.ntmps16; go_wp2_with fail; refine S.mono ?_; rintro e w1 ⟨rfl, rfl⟩; clear S
 go_wp2_with fail
 refine D.mono ?_
 rintro e w2 ⟨rfl, a2, k2⟩
 clear D c3 cs
 have f3 := a2.a.fz 3
 have c3 : w2.cell? ⟨m, 3, none⟩ = some (.int .i64 bg) := by rw [← EBG.out]; exact a2.a.c3
 have a3 := a2.begun b1
 obtain ⟨w3, e3⟩ : ∃ w3, w2.setCell ⟨m, 3, none⟩ (.int .i64 b1) = w3 := ⟨_, rfl⟩
 have k3 := keep_one w2 ⟨m, 3, none⟩ (.int .i64 b1)
 rw [e3] at a3 k3
 have K3 : Keep (fun g => o g ≠ 0) w1 w3 := (k2.mono fun g e => by have e : g = m := e; rw [e, OM.out]; decide).trans (k3.mono fun g e => by have e : g = m := e; rw [e, OM.out]; decide)
 have cb : w3.cell? ⟨m, 3, none⟩ = some (.int .i64 b1) := a3.a.c3
 have ad := a3.quiet ((Keep.refl (fun _ => False) w3).drew)
 have N := newTxn_any b1 level cl w3.drew
 have COR := Lib.hid fun (tb tf : Nat) (wx : World) => begin_core (z0 := z) (w0 := w1) (w2 := wx) (tb := tb) (tf := tf) ad hi level (K3.drew) (by rw [EBG.out, EB1.out, ECL.out])
 clear a2 k2 a3 k3 ad K3
 go_wp2_with fail
 refine wp_region_held_drew (S := fun w' => w'.cell? ⟨m, 3, none⟩ = some (.int .i64 b1)) (by kernel_rfl) cb (fun hHeld => ?_)
 refine wpAnyH_take (i := 0) (v := ?qvu48) rfl (by kernel_rfl) (by kernel_rfl) (by kernel_rfl) (fun _ _ _ h => h) (Or.inl ⟨by rfl, ?qyu48⟩) (by assumption) ?qru48; case qyu48 => ((intro w hSw; (try dsimp only at hSw); go_simp); try (with_reducible rfl))
 ((try simp only [List.getElem_toArray]); (try simp only [List.getElem_cons_succ]); (try simp only [List.getElem_cons_zero]); (try simp only [Act.put]); (try simp only [List.setIfInBounds_toArray]); (try simp only [List.set_cons_succ]); (try simp only [List.set_cons_zero]))
 refine wpAnyH_take (i := 1) (v := ?qvu49) rfl (by kernel_rfl) (by kernel_rfl) (by kernel_rfl) (fun _ _ _ h => h) (Or.inl ⟨by rfl, ?qyu49⟩) (by assumption) ?qru49; case qyu49 => ((intro w hSw; (try dsimp only at hSw); go_simp); try (with_reducible rfl))
 ((try simp only [List.getElem_toArray]); (try simp only [List.getElem_cons_succ]); (try simp only [List.getElem_cons_zero]); (try simp only [Act.put]); (try simp only [List.setIfInBounds_toArray]); (try simp only [List.set_cons_succ]); (try simp only [List.set_cons_zero]))
 refine wpAnyH_take (i := 2) (v := ?qvu50) rfl (by kernel_rfl) (by kernel_rfl) (by kernel_rfl) (fun _ _ _ h => h) (Or.inl ⟨by rfl, ?qyu50⟩) (by assumption) ?qru50; case qyu50 => ((intro w hSw; (try dsimp only at hSw); go_simp); try (with_reducible rfl))
 ((try simp only [List.getElem_toArray]); (try simp only [List.getElem_cons_succ]); (try simp only [List.getElem_cons_zero]); (try simp only [Act.put]); (try simp only [List.setIfInBounds_toArray]); (try simp only [List.set_cons_succ]); (try simp only [List.set_cons_zero]))
 refine wpAnyH_take (i := 3) (v := ?qvu51) rfl (by kernel_rfl) (by kernel_rfl) (by kernel_rfl) (fun _ _ _ h => h) (Or.inl ⟨by rfl, ?qyu51⟩) (by assumption) ?qru51; case qyu51 => ((intro w hSw; (try dsimp only at hSw); go_simp); try (with_reducible rfl))
 ((try simp only [List.getElem_toArray]); (try simp only [List.getElem_cons_succ]); (try simp only [List.getElem_cons_zero]); (try simp only [Act.put]); (try simp only [List.setIfInBounds_toArray]); (try simp only [List.set_cons_succ]); (try simp only [List.set_cons_zero]))
 refine wpAnyH_take (i := 4) (v := ?qvu52) rfl (by kernel_rfl) (by kernel_rfl) (by kernel_rfl) (fun _ _ _ h => h) (Or.inl ⟨by rfl, ?qyu52⟩) (by assumption) ?qru52; case qyu52 => ((intro w hSw; (try dsimp only at hSw); go_simp); try (with_reducible rfl))
 ((try simp only [List.getElem_toArray]); (try simp only [List.getElem_cons_succ]); (try simp only [List.getElem_cons_zero]); (try simp only [Act.put]); (try simp only [List.setIfInBounds_toArray]); (try simp only [List.set_cons_succ]); (try simp only [List.set_cons_zero]))
 refine wpAnyH_take (i := 5) (v := ?qvu53) rfl (by kernel_rfl) (by kernel_rfl) (by kernel_rfl) (fun _ _ _ h => h) (Or.inl ⟨by rfl, ?qyu53⟩) (by assumption) ?qru53; case qyu53 => ((intro w hSw; (try dsimp only at hSw); go_simp); try (with_reducible rfl))
 ((try simp only [List.getElem_toArray]); (try simp only [List.getElem_cons_succ]); (try simp only [List.getElem_cons_zero]); (try simp only [Act.put]); (try simp only [List.setIfInBounds_toArray]); (try simp only [List.set_cons_succ]); (try simp only [List.set_cons_zero]))
 refine wpAnyH_take (i := 6) (v := ?qvu54) rfl (by kernel_rfl) (by kernel_rfl) (by kernel_rfl) (fun _ _ _ h => h) (Or.inl ⟨by rfl, ?qyu54⟩) (by assumption) ?qru54; case qyu54 => ((intro w hSw; (try dsimp only at hSw); go_simp); try (with_reducible rfl))
 ((try simp only [List.getElem_toArray]); (try simp only [List.getElem_cons_succ]); (try simp only [List.getElem_cons_zero]); (try simp only [Act.put]); (try simp only [List.setIfInBounds_toArray]); (try simp only [List.set_cons_succ]); (try simp only [List.set_cons_zero]))
 refine wpAnyH_take (i := 7) (v := ?qvu55) rfl (by kernel_rfl) (by kernel_rfl) (by kernel_rfl) (fun _ _ _ h => h) (Or.inl ⟨by rfl, ?qyu55⟩) (by assumption) ?qru55; case qyu55 => ((intro w hSw; (try dsimp only at hSw); go_simp); try (with_reducible rfl))
 ((try simp only [List.getElem_toArray]); (try simp only [List.getElem_cons_succ]); (try simp only [List.getElem_cons_zero]); (try simp only [Act.put]); (try simp only [List.setIfInBounds_toArray]); (try simp only [List.set_cons_succ]); (try simp only [List.set_cons_zero]))
 refine wpAnyH_take (i := 9) (v := ?qvu56) rfl (by kernel_rfl) (by kernel_rfl) (by kernel_rfl) (fun _ _ _ h => h) (Or.inl ⟨by rfl, ?qyu56⟩) (by assumption) ?qru56; case qyu56 => ((intro w hSw; (try dsimp only at hSw); go_simp); try (with_reducible rfl))
 ((try simp only [List.getElem_toArray]); (try simp only [List.getElem_cons_succ]); (try simp only [List.getElem_cons_zero]); (try simp only [Act.put]); (try simp only [List.setIfInBounds_toArray]); (try simp only [List.set_cons_succ]); (try simp only [List.set_cons_zero]))
 refine wpAnyH_take (i := 10) (v := ?qvu57) rfl (by kernel_rfl) (by kernel_rfl) (by kernel_rfl) (fun _ _ _ h => h) (Or.inl ⟨by rfl, ?qyu57⟩) (by assumption) ?qru57; case qyu57 => ((intro w hSw; (try dsimp only at hSw); go_simp); try (with_reducible rfl))
 ((try simp only [List.getElem_toArray]); (try simp only [List.getElem_cons_succ]); (try simp only [List.getElem_cons_zero]); (try simp only [Act.put]); (try simp only [List.setIfInBounds_toArray]); (try simp only [List.set_cons_succ]); (try simp only [List.set_cons_zero]))
 refine wpAnyH_ready (rs := [8]) (by kernel_rfl) (by simp) ?_
 refine AllReadyH.cons rfl (fun K hK => ?_) AllReadyH.nil
 go_simp
 refine N.mono ?_
 rintro e wx ⟨tb, tf, rfl, n1, n2, n3, nT, nF, nk, _, _, _⟩
 obtain ⟨w4, e4, c4o, ⟨us, cs4⟩, fs4, z1, z2, o', a5, k5, n5⟩ := COR.out tb tf wx nk n1 n2 n3 (by rw [EBG.out, EB1.out, ECL.out]; exact nT) nF
 have A5 := Lib.hid a5
 have K5 := Lib.hid k5
 have N5 := Lib.hid n5
 have c4 : w4.cell? ⟨m, 3, none⟩ = some (.int .i64 b1) := (by rw [c4o, EBG.out, EB1.out])
 clear c4o
 have c4x := nk.cell (show w3.drew.cell? ⟨m, 3, none⟩ = some (.int .i64 b1) from cb) id
 clear N nT nF a5 k5 n5
 refine hK.out _ _ c4x (fun hHeld => ?_)
 clear hK K
 ((try simp only [List.getElem_toArray]); (try simp only [List.getElem_cons_succ]); (try simp only [List.getElem_cons_zero]); (try simp only [Act.put]); (try simp only [List.setIfInBounds_toArray]); (try simp only [List.set_cons_succ]); (try simp only [List.set_cons_zero]))
 refine wpAnyH_take (i := 11) (v := ?qvu58) rfl (by kernel_rfl) (by kernel_rfl) (by kernel_rfl) (fun _ _ _ h => h) (Or.inl ⟨by rfl, ?qyu58⟩) (by assumption) ?qru58; case qyu58 => ((intro w hSw; (try dsimp only at hSw); go_simp); try (with_reducible rfl))
 ((try simp only [List.getElem_toArray]); (try simp only [List.getElem_cons_succ]); (try simp only [List.getElem_cons_zero]); (try simp only [Act.put]); (try simp only [List.setIfInBounds_toArray]); (try simp only [List.set_cons_succ]); (try simp only [List.set_cons_zero]))
 refine wpAnyH_ready (rs := [12]) (by kernel_rfl) (by simp) ?_
 refine AllReadyH.cons rfl (fun K hK => ?_) AllReadyH.nil
 go_simp
 go_simp
 refine hK.out _ _ c4 (fun hHeld => ?_)
 clear hK K
 ((try simp only [List.getElem_toArray]); (try simp only [List.getElem_cons_succ]); (try simp only [List.getElem_cons_zero]); (try simp only [Act.put]); (try simp only [List.setIfInBounds_toArray]); (try simp only [List.set_cons_succ]); (try simp only [List.set_cons_zero]))
 refine wpAnyH_done (by kernel_rfl) ?_ _
 go_wp2
 refine bodyPost_ret (v := .tuple #[.int .i64 b1, .int .i64 0]) (by simp [results, Try.results16, go_sem]) rfl ?_
 exact ⟨rfl, tb, tf, o', z1, z2, A5.out, K5.out, N5.out⟩
end
end Go.Proofs.Ytalkfnblnlcklaa
