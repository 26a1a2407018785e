/- Package tale: call, Deals. Condition: events whose numbers are numbers, with at most 50,000 Pairs each. -/
import Derived.Test.YtalkfnblnlcklaaDoorTlR
import Derived.Test.YtalkfnblnlcklaaDoorDlA
namespace Go.Proofs.YtalkfnblnlcklaaDoor
open Go.ChangeShapes Go.WideShapes Go.ChangeAt Go.RowKit
set_option linter.unusedVariables false
set_option linter.unusedSimpArgs false
section
variable {w w' : World} {v : Value} {es : List EvI} {l : List (Int × Int)}
set_option maxRecDepth 100000 in
theorem clone_pr (h : LPr w v l) (hl : l.length ≤ 50000) : Calls Tryd.prog 19 #[v] w fun e w' => ∃ v', e = .returned v' ∧ OPr w.heap.size w' v' l ∧ Keep (fun _ => False) w w' := by
  have hh := h
  obtain ⟨A, c, rfl, hc, hm, hz, hf⟩ := h
  cases A with
  | none =>
    have h0 : l = [] := by
      cases l with
      | nil => rfl
      | cons a l => obtain ⟨b, off, hA, _⟩ := hf (by simp); cases hA
    subst h0
    have qn : ∀ w : World, (binOp .eql 26 (.slice none 0 c) (.slice none 0 0)).run Tryd.prog w = .ok (.bool true) w := fun w => Lib.run_eql_slice_nil w _ _ none 0 c 0 0 Tryd.underlying26
    simp only [List.length_nil] at *
    clear hh hz hm hf hc hl
    go_enter Tryd.func19, Tryd.ntmps19
    go_wp2
    refine bodyPost_ret (v := .slice none 0 0) (by simp [results, Tryd.results19, go_sem]) rfl ?_
    exact ⟨_, rfl, OwnB.nil, Keep.refl _ _⟩
  | some ad =>
    have LT := Lib.hid (hh.keep ((Keep.refl (fun _ => False) w).alloc (.cells #[] 50)))
    obtain ⟨n, en⟩ : ∃ n, l.length = n := ⟨_, rfl⟩
    have EN := Lib.hid en
    rw [en] at LT hl ⊢
    clear hf hc en hh hz hm
    have qn : ∀ w : World, (binOp .eql 26 (.slice (some ad) n c) (.slice none 0 0)).run Tryd.prog w = .ok (.bool false) w := fun w => Lib.run_eql_slice_nil w _ _ (some ad) n c 0 0 Tryd.underlying26
    go_enter Tryd.func19, Tryd.ntmps19
    go_wp2_with (with_reducible refine wp_stop 7 rfl ?_)
    intro _
    refine wp_appM Tryd.underlying26 info_pr rfl (by decide) (by decide) prI_len (fun x _ => pr_one x) rfl (.tmp 5) (.tmp 6) rfl (B := w.heap.size) (by simp) rfl (OwnB.empty (Nat.le_refl _)) rfl LT.out (by rw [EN.out]; simp; omega) ?_
    intro v1 w1 o1 k1
    have O1 := Lib.hid (show OPr w.heap.size w1 v1 l from o1)
    have K1 := Lib.hid (((Keep.refl (fun _ => False) w).alloc (.cells #[] 50)).older k1 (fun j hj => by cases hj; exact Nat.le_refl _))
    clear o1 k1
    go_wp2
    refine bodyPost_ret (v := v1) (by simp [results, Tryd.results19, go_sem]) rfl ?_
    exact ⟨_, rfl, O1.out, K1.out⟩
theorem opr_sl {B : Nat} {u : Value} (h : OPr B w u l) : ∃ A c, u = .slice A l.length c := by
  rcases OwnM.form (OwnB.ownM h) with ⟨rfl, rfl⟩ | ⟨g, c, rfl, _⟩
  · exact ⟨_, _, rfl⟩
  · exact ⟨_, _, rfl⟩
/-- A call's nine cells. -/
structure Cl9 (w : World) (N : Nat) (v0 v1 v2 v3 v4 v5 v6 v7 v8 : Value) : Prop where
  c0 : w.cell? ⟨N, 0, none⟩ = some v0
  c1 : w.cell? ⟨N, 1, none⟩ = some v1
  c2 : w.cell? ⟨N, 2, none⟩ = some v2
  c3 : w.cell? ⟨N, 3, none⟩ = some v3
  c4 : w.cell? ⟨N, 4, none⟩ = some v4
  c5 : w.cell? ⟨N, 5, none⟩ = some v5
  c6 : w.cell? ⟨N, 6, none⟩ = some v6
  c7 : w.cell? ⟨N, 7, none⟩ = some v7
  c8 : w.cell? ⟨N, 8, none⟩ = some v8
  fz : ∀ i, w.frozen? ⟨N, i, none⟩ = false
theorem Cl9.keep {S : Nat → Prop} {N : Nat} {v0 v1 v2 v3 v4 v5 v6 v7 v8 : Value} (h : Cl9 w N v0 v1 v2 v3 v4 v5 v6 v7 v8) (k : Keep S w w') (hn : ¬ S N) : Cl9 w' N v0 v1 v2 v3 v4 v5 v6 v7 v8 :=
  ⟨k.cell h.c0 hn, k.cell h.c1 hn, k.cell h.c2 hn, k.cell h.c3 hn, k.cell h.c4 hn, k.cell h.c5 hn, k.cell h.c6 hn, k.cell h.c7 hn, k.cell h.c8 hn, fun i => (k.frozen (a := ⟨N, i, none⟩) (lt_of_cell (a := ⟨N, 0, none⟩) h.c0) hn).trans (h.fz i)⟩
theorem nine_set {w6 W7 : World} {N : Nat} {r0 r1 r2 r3 r4 r5 r6 r7 r8 : Value} (h : Cl9 w6 N r0 r1 r2 r3 r4 r5 r6 r7 r8) (v0 v1 v2 v3 v4 v5 v6 v7 v8 : Value)
    (e : ((((((((w6.setCell ⟨N, 0, none⟩ v0).setCell ⟨N, 1, none⟩ v1).setCell ⟨N, 2, none⟩ v2).setCell ⟨N, 3, none⟩ v3).setCell ⟨N, 4, none⟩ v4).setCell ⟨N, 5, none⟩ v5).setCell ⟨N, 6, none⟩ v6).setCell ⟨N, 7, none⟩ v7).setCell ⟨N, 8, none⟩ v8 = W7) : Cl9 W7 N v0 v1 v2 v3 v4 v5 v6 v7 v8 ∧ Keep (fun j => j = N) w6 W7 := by
  have st : ∀ (w : World) (i : Nat) (x r : Value), w.cell? ⟨N, i, none⟩ = some r → (w.setCell ⟨N, i, none⟩ x).cell? ⟨N, i, none⟩ = some x := fun w i x r h => World.cell?_setCell_same _ _ _ h
  have ot : ∀ (w : World) (i j : Nat) (x r : Value), i ≠ j → w.cell? ⟨N, j, none⟩ = some r → (w.setCell ⟨N, i, none⟩ x).cell? ⟨N, j, none⟩ = some r := fun w i j x r hij h => (World.cell?_setCell_other _ _ _ _ (fun e => hij (congrArg Addr.off e))).trans h
  subst e
  refine ⟨⟨?_, ?_, ?_, ?_, ?_, ?_, ?_, ?_, ?_, fun i => ?_⟩, (((((((((Keep.refl (fun j => j = N) w6).setCell (p := ⟨N, 0, none⟩) rfl _).setCell (p := ⟨N, 1, none⟩) rfl _).setCell (p := ⟨N, 2, none⟩) rfl _).setCell (p := ⟨N, 3, none⟩) rfl _).setCell (p := ⟨N, 4, none⟩) rfl _).setCell (p := ⟨N, 5, none⟩) rfl _).setCell (p := ⟨N, 6, none⟩) rfl _).setCell (p := ⟨N, 7, none⟩) rfl _).setCell (p := ⟨N, 8, none⟩) rfl _⟩
  · exact (ot _ 8 0 _ _ (by decide) (ot _ 7 0 _ _ (by decide) (ot _ 6 0 _ _ (by decide) (ot _ 5 0 _ _ (by decide) (ot _ 4 0 _ _ (by decide) (ot _ 3 0 _ _ (by decide) (ot _ 2 0 _ _ (by decide) (ot _ 1 0 _ _ (by decide) (st _ 0 _ _ h.c0)))))))))
  · exact (ot _ 8 1 _ _ (by decide) (ot _ 7 1 _ _ (by decide) (ot _ 6 1 _ _ (by decide) (ot _ 5 1 _ _ (by decide) (ot _ 4 1 _ _ (by decide) (ot _ 3 1 _ _ (by decide) (ot _ 2 1 _ _ (by decide) (st _ 1 _ _ (ot _ 0 1 _ _ (by decide) h.c1)))))))))
  · exact (ot _ 8 2 _ _ (by decide) (ot _ 7 2 _ _ (by decide) (ot _ 6 2 _ _ (by decide) (ot _ 5 2 _ _ (by decide) (ot _ 4 2 _ _ (by decide) (ot _ 3 2 _ _ (by decide) (st _ 2 _ _ (ot _ 1 2 _ _ (by decide) (ot _ 0 2 _ _ (by decide) h.c2)))))))))
  · exact (ot _ 8 3 _ _ (by decide) (ot _ 7 3 _ _ (by decide) (ot _ 6 3 _ _ (by decide) (ot _ 5 3 _ _ (by decide) (ot _ 4 3 _ _ (by decide) (st _ 3 _ _ (ot _ 2 3 _ _ (by decide) (ot _ 1 3 _ _ (by decide) (ot _ 0 3 _ _ (by decide) h.c3)))))))))
  · exact (ot _ 8 4 _ _ (by decide) (ot _ 7 4 _ _ (by decide) (ot _ 6 4 _ _ (by decide) (ot _ 5 4 _ _ (by decide) (st _ 4 _ _ (ot _ 3 4 _ _ (by decide) (ot _ 2 4 _ _ (by decide) (ot _ 1 4 _ _ (by decide) (ot _ 0 4 _ _ (by decide) h.c4)))))))))
  · exact (ot _ 8 5 _ _ (by decide) (ot _ 7 5 _ _ (by decide) (ot _ 6 5 _ _ (by decide) (st _ 5 _ _ (ot _ 4 5 _ _ (by decide) (ot _ 3 5 _ _ (by decide) (ot _ 2 5 _ _ (by decide) (ot _ 1 5 _ _ (by decide) (ot _ 0 5 _ _ (by decide) h.c5)))))))))
  · exact (ot _ 8 6 _ _ (by decide) (ot _ 7 6 _ _ (by decide) (st _ 6 _ _ (ot _ 5 6 _ _ (by decide) (ot _ 4 6 _ _ (by decide) (ot _ 3 6 _ _ (by decide) (ot _ 2 6 _ _ (by decide) (ot _ 1 6 _ _ (by decide) (ot _ 0 6 _ _ (by decide) h.c6)))))))))
  · exact (ot _ 8 7 _ _ (by decide) (st _ 7 _ _ (ot _ 6 7 _ _ (by decide) (ot _ 5 7 _ _ (by decide) (ot _ 4 7 _ _ (by decide) (ot _ 3 7 _ _ (by decide) (ot _ 2 7 _ _ (by decide) (ot _ 1 7 _ _ (by decide) (ot _ 0 7 _ _ (by decide) h.c7)))))))))
  · exact (st _ 8 _ _ (ot _ 7 8 _ _ (by decide) (ot _ 6 8 _ _ (by decide) (ot _ 5 8 _ _ (by decide) (ot _ 4 8 _ _ (by decide) (ot _ 3 8 _ _ (by decide) (ot _ 2 8 _ _ (by decide) (ot _ 1 8 _ _ (by decide) (ot _ 0 8 _ _ (by decide) h.c8)))))))))
  · simp only [World.frozen?_setCell]; exact h.fz i
set_option maxRecDepth 100000 in
theorem call_any (x : EvI) {A2 : Option Addr} {q2 c2 : Nat} (h : LPr w (.slice A2 q2 c2) x.r.pairs) (hl : x.r.pairs.length ≤ 50000) :
    Calls Tryd.prog 14 #[evV x (.slice A2 q2 c2)] w fun e w' => ∃ A3 c3, e = .returned (clV (x.o, x.r) (.slice A3 x.r.pairs.length c3)) ∧ OPr w.heap.size w' (.slice A3 x.r.pairs.length c3) x.r.pairs ∧ Keep (fun _ => False) w w' := by
  obtain ⟨V, eV, X, kV⟩ := ev_box w x (.slice A2 q2 c2)
  obtain ⟨N, eN⟩ : ∃ N, w.heap.size = N := ⟨_, rfl⟩
  rw [eN] at X
  have sV : V.heap.size = N + 1 := by rw [← eV, ← eN]; simp
  obtain ⟨V2, eV2⟩ : ∃ V2, V.alloc (.cells #[.int .i64 0, .int .i64 0, .int .i64 0, .int .i64 0, .int .i64 0, .int .i64 0, .slice none 0 0, .int .i64 0, .int .i64 0] 76) = V2 := ⟨_, rfl⟩
  have k2 : Keep (fun _ => False) V V2 := by rw [← eV2]; exact (Keep.refl _ _).alloc _
  have CL := Lib.hid (clone_pr (h.keep (kV.trans k2)) hl)
  obtain ⟨c0, c1, c2', c3, c4, c5, c6, c7, c8, c9, c10, c11⟩ := X.keep k2 id
  simp only [Nat.zero_add] at c0 c1 c2' c3 c4 c5 c6 c7 c8 c9 c10 c11
  have lN : N < V.heap.size := by omega
  have fz9 : V2.frozen? ⟨N, 9, none⟩ = false := (k2.frozen (a := ⟨N, 9, none⟩) lN id).trans (by rw [← eV, ← eN]; simp)
  have R9 : Cl9 V2 (N + 1) (.int .i64 0) (.int .i64 0) (.int .i64 0) (.int .i64 0) (.int .i64 0) (.int .i64 0) (.slice none 0 0) (.int .i64 0) (.int .i64 0) := by
    rw [← eV2, ← sV]
    exact ⟨by simp, by simp, by simp, by simp, by simp, by simp, by simp, by simp, by simp, fun i => by simp⟩
  have KV := Lib.hid (kV.trans k2)
  obtain ⟨xk, xt, xn, ⟨ok, oy, oh, ov⟩, ⟨re, rv, ps, ro, rr⟩⟩ := x
  unfold evV
  dsimp only at c0 c1 c2' c3 c4 c5 c6 c7 c8 c9 c10 c11 eV CL ⊢
  obtain ⟨pl, hpl⟩ : ∃ pl, ps.length = pl := ⟨_, rfl⟩
  clear kV k2 h hl
  go_enter Tryd.func14, Tryd.ntmps14
  go_wp2_with fail
  refine CL.out.mono ?_
  rintro e w1 ⟨u3, rfl, o3, k3⟩
  obtain ⟨A3, c3', rfl⟩ := opr_sl o3
  rw [hpl] at o3 ⊢
  have d0 := k3.cell c3 id
  have d1 := k3.cell c4 id
  have d2 := k3.cell c5 id
  have d3 := k3.cell c6 id
  have d4 := k3.cell c7 id
  have d5 := k3.cell c8 id
  have d6 := k3.cell c9 id
  have d7 := k3.cell c10 id
  have d8 := k3.cell c11 id
  have lN1 : N < w1.heap.size := lt_of_cell (a := ⟨N, 3, none⟩) d0
  have f9 := (k3.frozen (a := ⟨N, 9, none⟩) (lt_of_cell (a := ⟨N, 3, none⟩) c3) id).trans fz9
  have R1 := R9.keep k3 id
  obtain ⟨w2, e2⟩ : ∃ w2, w1.setCell ⟨N, 9, none⟩ (.slice A3 pl c3') = w2 := ⟨_, rfl⟩
  have kk2 : Keep (fun j => j = N) w1 w2 := by rw [← e2]; exact keep_one w1 ⟨N, 9, none⟩ _
  have R2 := R1.keep kk2 (show ¬ N + 1 = N by omega)
  have x0 : w2.cell? ⟨N, 3, none⟩ = some (.int .i64 ok) := by rw [← e2]; exact (World.cell?_setCell_other _ _ _ _ (by simp)).trans d0
  have x1 : w2.cell? ⟨N, 4, none⟩ = some (.int .i64 oy) := by rw [← e2]; exact (World.cell?_setCell_other _ _ _ _ (by simp)).trans d1
  have x2 : w2.cell? ⟨N, 5, none⟩ = some (.int .i64 oh) := by rw [← e2]; exact (World.cell?_setCell_other _ _ _ _ (by simp)).trans d2
  have x3 : w2.cell? ⟨N, 6, none⟩ = some (.int .i64 ov) := by rw [← e2]; exact (World.cell?_setCell_other _ _ _ _ (by simp)).trans d3
  have x4 : w2.cell? ⟨N, 7, none⟩ = some (.int .i64 re) := by rw [← e2]; exact (World.cell?_setCell_other _ _ _ _ (by simp)).trans d4
  have x5 : w2.cell? ⟨N, 8, none⟩ = some (.int .i64 rv) := by rw [← e2]; exact (World.cell?_setCell_other _ _ _ _ (by simp)).trans d5
  have x6 : w2.cell? ⟨N, 9, none⟩ = some (.slice A3 pl c3') := by rw [← e2]; exact World.cell?_setCell_same _ _ _ d6
  have x7 : w2.cell? ⟨N, 10, none⟩ = some (.int .i64 ro) := by rw [← e2]; exact (World.cell?_setCell_other _ _ _ _ (by simp)).trans d7
  have x8 : w2.cell? ⟨N, 11, none⟩ = some (.int .i64 rr) := by rw [← e2]; exact (World.cell?_setCell_other _ _ _ _ (by simp)).trans d8
  have g3 := fun g hg => OwnB.lt (g := g) o3 hg
  have N0 : ∀ g, (Value.slice A3 pl c3').ownBlock = some g → g ≠ N ∧ g ≠ N + 1 := fun g hg => by
    have l1 := (g3 g hg).1
    have l2 : N < V2.heap.size := lt_of_cell (a := ⟨N, 3, none⟩) c3
    have l3 : N + 1 < V2.heap.size := lt_of_cell (a := ⟨N + 1, 0, none⟩) R9.c0
    omega
  obtain ⟨w3, e3⟩ : ∃ w3, ((((((((w2.setCell ⟨N + 1, 0, none⟩ (.int .i64 ok)).setCell ⟨N + 1, 1, none⟩ (.int .i64 oy)).setCell ⟨N + 1, 2, none⟩ (.int .i64 oh)).setCell ⟨N + 1, 3, none⟩ (.int .i64 ov)).setCell ⟨N + 1, 4, none⟩ (.int .i64 re)).setCell ⟨N + 1, 5, none⟩ (.int .i64 rv)).setCell ⟨N + 1, 6, none⟩ (.slice A3 pl c3')).setCell ⟨N + 1, 7, none⟩ (.int .i64 ro)).setCell ⟨N + 1, 8, none⟩ (.int .i64 rr) = w3 := ⟨_, rfl⟩
  obtain ⟨R3, k9⟩ := nine_set R2 _ _ _ _ _ _ _ _ _ e3
  have O3 := Lib.hid (show OPr w.heap.size w3 (.slice A3 pl c3') ps from OwnB.low (OwnB.keep (OwnB.keep o3 kk2 fun g hg e => (N0 g hg).1 e) k9 fun g hg e => (N0 g hg).2 e) (by have := KV.out.size; omega))
  have K3 := Lib.hid (show Keep (fun _ => False) w w3 from KV.out.older ((k3.mono fun _ e => e.elim).trans ((kk2.mono fun j e => (show w.heap.size ≤ j by have e : j = N := e; omega)).trans (k9.mono fun j e => by have e : j = N + 1 := e; omega))) fun j hj => hj)
  have E3 := Lib.hid e3
  have RR := Lib.hid R3
  obtain ⟨y0, y1, y2, y3, y4, y5, y6, y7, y8, yf⟩ := R2
  clear R9 R1 R3 k9 kk2 k3 o3 g3 N0 e3 CL KV
  go_wp2
  rw [E3.out]
  obtain ⟨z0, z1, z2, z3, z4, z5, z6, z7, z8, zf⟩ := RR.out
  refine bodyPost_ret (v := .agg #[.int .i64 ok, .int .i64 oy, .int .i64 oh, .int .i64 ov, .int .i64 re, .int .i64 rv, .slice A3 pl c3', .int .i64 ro, .int .i64 rr]) (by simp [results, Tryd.results14, go_sem, z0, z1, z2, z3, z4, z5, z6, z7, z8, zf]) rfl ?_
  exact ⟨A3, c3', by rw [hpl]; rfl, by rw [hpl]; exact O3.out, K3.out⟩
end
end Go.Proofs.YtalkfnblnlcklaaDoor
