/- Package tale: bind. Condition: at most 20,000 events. -/
import Derived.Test.YtalkfnblnlcklaaDoorTlB
namespace Go.Proofs.YtalkfnblnlcklaaDoor
open Go.ChangeShapes Go.WideShapes Go.ChangeAt Go.RowKit
set_option linter.unusedVariables false
set_option linter.unusedSimpArgs false
section
variable {w w' w1 y : World} {h K i b nb : Nat} {o o' : Nat → Nat} {B : List Nat} {va u : Value} {z : HsI} {t : TnI} {S X : Nat → Prop} {v : EvI} {A : Option Addr} {q c : Nat}
theorem cells_of {b j : Nat} {x : Value} (h : w.cell? ⟨b, j, .none⟩ = some x) : ∃ c t fr, w.heap[b]? = some (.cells c t fr) := by
  unfold World.cell? at h
  split at h
  · rename_i c t fr e
    exact ⟨c, t, fr, e⟩
  · cases h
theorem two_ptrs {a b j1 j2 : Nat} {x y : Value} (hne : a ≠ b) (ha : w.cell? ⟨a, j1, .none⟩ = some x) (hb : w.cell? ⟨b, j2, .none⟩ = some y) (fa : ∀ i, w.frozen? ⟨a, i, .none⟩ = false) (fb : ∀ i, w.frozen? ⟨b, i, .none⟩ = false) :
    (sameAddr ⟨a, 0, .none⟩ ⟨b, 0, .none⟩).run Tryd.prog w = .ok false w := by
  obtain ⟨ca, ta, ⟨la, ua⟩, ea⟩ := cells_of ha
  obtain ⟨cb, tb, ⟨lb, ub⟩, eb⟩ := cells_of hb
  have fa1 : ∀ i : Nat, (decide (la ≤ i) && decide (i < ua)) = false := fun i => by have := fa i; simpa [World.frozen?, ea] using this
  have fb1 : ∀ i : Nat, (decide (lb ≤ i) && decide (i < ub)) = false := fun i => by have := fb i; simpa [World.frozen?, eb] using this
  have a0 := fa1 0
  have b0 := fb1 0
  have a1 := fa1 ca.size
  have b1 := fb1 cb.size
  simp only [Bool.and_eq_false_iff, decide_eq_false_iff_not] at a0 b0 a1 b1
  have a2 : ¬ (la = 0 ∧ 0 < ua) := by omega
  have b2 : ¬ (lb = 0 ∧ 0 < ub) := by omega
  have a3 : ¬ (la ≤ ca.size ∧ ca.size < ua) := by omega
  have b3 : ¬ (lb ≤ cb.size ∧ cb.size < ub) := by omega
  simp [sameAddr, hne, World.frozen?, ea, eb, noView, viewAt, World.shape?, mayBeOne, stringish, a2, b2, a3, b3]
theorem eql_otherX {a b : Nat} (h : (sameAddr ⟨a, 0, .none⟩ ⟨b, 0, .none⟩).run Tryd.prog w = .ok false w) : (binOp .eql 56 (.pointer (some ⟨a, 0, .none⟩)) (.pointer (some ⟨b, 0, .none⟩))).run Tryd.prog w = .ok (.bool false) w ∧ (binOp .neq 56 (.pointer (some ⟨a, 0, .none⟩)) (.pointer (some ⟨b, 0, .none⟩))).run Tryd.prog w = .ok (.bool true) w := by
  have hsz : (Tryd.prog.info? 70).map (·.size) = some 8 := by kernel_rfl
  have h2 : ∀ d : Nat, (Op.equalIn (d + 1) 56 (.pointer (some ⟨a, 0, .none⟩)) (.pointer (some ⟨b, 0, .none⟩))).run Tryd.prog w = .ok false w := fun d => by
    cases hi : Tryd.prog.info? 70 with
    | none => simp [hi] at hsz
    | some i =>
      have hs : i.size = 8 := by simpa [hi] using hsz
      simp [Op.equalIn, run_underlying Tryd.underlying56, sizeOf, typeInfo, hi, hs, h]
  constructor
  · simp only [binOp]
    simp [Op.equal, Op.maxDepth, h2 9999]
  · simp only [binOp]
    simp [Op.equal, Op.maxDepth, h2 9999]
theorem eql_selfX {a : Nat} : (binOp .eql 56 (.pointer (some ⟨a, 0, .none⟩)) (.pointer (some ⟨a, 0, .none⟩))).run Tryd.prog w = .ok (.bool true) w ∧ (binOp .neq 56 (.pointer (some ⟨a, 0, .none⟩)) (.pointer (some ⟨a, 0, .none⟩))).run Tryd.prog w = .ok (.bool false) w := by
  obtain ⟨j, hte⟩ := info_of_underlying (P := Tryd.prog) Tryd.underlying70
  have h : ∀ d : Nat, (Op.equalIn (d + 1) 56 (.pointer (some ⟨a, 0, .none⟩)) (.pointer (some ⟨a, 0, .none⟩))).run Tryd.prog w = .ok true w := fun d => by
    simp [Op.equalIn, run_underlying Tryd.underlying56, sizeOf, typeInfo, hte, run_sameAddr_same]
  constructor
  · simp only [binOp]
    simp [Op.equal, Op.maxDepth, h 9999]
  · simp only [binOp]
    simp [Op.equal, Op.maxDepth, h 9999]

set_option maxRecDepth 100000 in
theorem bind_no1 (H : HsAt w h o B va K z) (hK : K ≤ 20000) (hb : B[i]? = some b) (n : Int) (h64 : 0 ≤ n ∧ n ≤ 18446744073709551615) (hn : n < 1 ∨ (z.tx.length : Int) < n) : Calls Tryd.prog 24 #[.pointer (some ⟨h, 0, none⟩), ptrV b, .int .u64 n] w fun e w' => e = .returned (.bool false) ∧ Keep (fun _ => False) w w' := by
  have h0 := H.c0; obtain ⟨A8, c8, rfl, hA⟩ := H.row; have hl := H.nb.1; obtain ⟨L, eL⟩ : ∃ L, z.tx.length = L := ⟨_, rfl⟩; rw [eL] at h0 hA hl; have wl : IntKind.u64.wrap (L : Int) = L := (by rw [IntKind.wrap_u64]; omega)
  rw [eL] at hn
  unfold ptrV
  clear H hb hA eL
  by_cases h1 : n < 1
  · have d1 : decide (n < 1) = true := decide_eq_true h1
    clear hn h1
    go_enter Tryd.func24, Tryd.ntmps24
    go_wp2
    go_ret
    exact ⟨rfl, Keep.refl _ _⟩
  · have d1 : decide (n < 1) = false := decide_eq_false h1
    have d2 : decide ((L : Int) < n) = true := decide_eq_true (by omega)
    clear hn h1
    go_enter Tryd.func24, Tryd.ntmps24
    go_wp2
    go_ret
    exact ⟨rfl, Keep.refl _ _⟩
/-- What the walk of bind finds: the other one's cells. -/
theorem HsAt.cell_b {g L : Nat} (H : HsAt w h o (B) (.slice (some ⟨g, 0, none⟩) L c) K z) {j b2 : Nat} (hj : B[j]? = some b2) : w.cell? ⟨g, j, none⟩ = some (ptrV b2) := by
  obtain ⟨hl, e⟩ := List.getElem?_eq_some_iff.1 hj
  have := OwnM.cell pF_len H.ow j 0 hl (by decide)
  rw [e] at this
  simpa [pF] using this
set_option maxRecDepth 100000 in
theorem bind_no2 (H : HsAt w h o B va K z) (hK : K ≤ 20000) (hb : B[i]? = some b) (n : Int) (hn : 1 ≤ n ∧ n ≤ z.tx.length) (hi : i = (n - 1).toNat) : Calls Tryd.prog 24 #[.pointer (some ⟨h, 0, none⟩), ptrV b, .int .u64 n] w fun e w' => e = .returned (.bool false) ∧ Keep (fun _ => False) w w' := by
  have h0 := H.c0; obtain ⟨A8, c8, rfl, hA⟩ := H.row; have hl := H.nb.1; obtain ⟨L, eL⟩ : ∃ L, z.tx.length = L := ⟨_, rfl⟩; rw [eL] at h0 hA hl; have wl : IntKind.u64.wrap (L : Int) = L := (by rw [IntKind.wrap_u64]; omega)
  rw [eL] at hn
  obtain ⟨j, hj⟩ : ∃ j : Nat, (n - 1).toNat = j := ⟨_, rfl⟩; have ej : n = (j : Int) + 1 := (by omega); have jl : j < L := (by omega); obtain ⟨b2, hb2⟩ := H.at_b (show j < z.tx.length by omega); obtain ⟨g, rfl⟩ := hA (by omega); have cb := H.cell_b hb2; unfold ptrV at cb; obtain ⟨u, q⟩ := H.tx i b hb; obtain ⟨u2, q2⟩ := H.tx j b2 hb2; have d1 : decide (n < 1) = false := decide_eq_false (by omega); have d2 : decide ((L : Int) < n) = false := decide_eq_false (by omega); have d3 : IntKind.u64.wrap (n - 1) = (j : Int) := (by rw [ej, Int.add_sub_cancel, IntKind.wrap_u64]; omega); have jL : (j : Int) < L := (by omega)
  have e1 : j = i := by rw [hi, hj]
  subst e1
  rw [hb] at hb2
  cases hb2
  have ES := fun w => (eql_selfX (w := w) (a := b)).1
  unfold ptrV
  clear H hb hA eL q q2 hn ej hj hi
  go_enter Tryd.func24, Tryd.ntmps24
  go_wp2_with fail
  go_quiet (fail)
  go_wp2
  go_ret
  exact ⟨rfl, by first | exact (Keep.refl _ _).drew | exact drewN_keep _ _ _⟩
set_option maxRecDepth 100000 in
theorem bind_no3 (H : HsAt w h o B va K z) (hK : K ≤ 20000) (hb : B[i]? = some b) (n : Int) (hn : 1 ≤ n ∧ n ≤ z.tx.length) (hi : i ≠ (n - 1).toNat) (hs : (z.at' (n - 1).toNat).state = 4 ∨ ((z.at' i).stop ≠ 0 ∧ (z.at' i).stop ≤ (z.at' (n - 1).toNat).stop)) : Calls Tryd.prog 24 #[.pointer (some ⟨h, 0, none⟩), ptrV b, .int .u64 n] w fun e w' => e = .returned (.bool false) ∧ Keep (fun _ => False) w w' := by
  have h0 := H.c0; obtain ⟨A8, c8, rfl, hA⟩ := H.row; have hl := H.nb.1; obtain ⟨L, eL⟩ : ∃ L, z.tx.length = L := ⟨_, rfl⟩; rw [eL] at h0 hA hl; have wl : IntKind.u64.wrap (L : Int) = L := (by rw [IntKind.wrap_u64]; omega)
  rw [eL] at hn
  obtain ⟨j, hj⟩ : ∃ j : Nat, (n - 1).toNat = j := ⟨_, rfl⟩; have ej : n = (j : Int) + 1 := (by omega); have jl : j < L := (by omega); obtain ⟨b2, hb2⟩ := H.at_b (show j < z.tx.length by omega); obtain ⟨g, rfl⟩ := hA (by omega); have cb := H.cell_b hb2; unfold ptrV at cb; obtain ⟨u, q⟩ := H.tx i b hb; obtain ⟨u2, q2⟩ := H.tx j b2 hb2; have d1 : decide (n < 1) = false := decide_eq_false (by omega); have d2 : decide ((L : Int) < n) = false := decide_eq_false (by omega); have d3 : IntKind.u64.wrap (n - 1) = (j : Int) := (by rw [ej, Int.add_sub_cancel, IntKind.wrap_u64]; omega); have jL : (j : Int) < L := (by omega)
  rw [hj] at hi hs
  have nbb : b ≠ b2 := fun e => by
    have := q.ob
    rw [e, q2.ob] at this
    omega
  have EO := fun d => (eql_otherX (two_ptrs (w := w.drewN d) nbb q.ce.c0 q2.ce.c0 (fun i => q.ce.fz i) (fun i => q2.ce.fz i))).1
  have s2 := q2.ce.c7
  have p2 := q2.ce.c2
  have p1 := q.ce.c2
  obtain ⟨ys, eys⟩ : ∃ s, (z.at' j).state = s := ⟨_, rfl⟩
  obtain ⟨yp, eyp⟩ : ∃ s, (z.at' j).stop = s := ⟨_, rfl⟩
  obtain ⟨xp, exp⟩ : ∃ s, (z.at' i).stop = s := ⟨_, rfl⟩
  rw [eys] at s2 hs
  rw [eyp] at p2 hs
  rw [exp] at p1 hs
  have E0 : (binOp .eql 56 (.pointer (some ⟨b, 0, .none⟩)) (.pointer (some ⟨b2, 0, .none⟩))).run Tryd.prog w = .ok (.bool false) w := EO 0
  unfold ptrV
  clear H hb hA eL q q2 hn ej hj hi hb2 nbb eys eyp exp
  by_cases h4 : ys = 4
  · subst h4
    clear hs
    go_enter Tryd.func24, Tryd.ntmps24
    go_wp2_with fail
    go_quiet (fail)
    go_wp2
    go_ret
    exact ⟨rfl, by first | exact (Keep.refl _ _).drew | exact drewN_keep _ _ _⟩
  · have q4 : (ys == 4) = false := by simpa using h4
    have hs := hs.resolve_left h4
    have q5 : (xp != 0) = true := by simpa using hs.1
    have q6 : decide (xp ≤ yp) = true := decide_eq_true hs.2
    clear hs h4
    go_enter Tryd.func24, Tryd.ntmps24
    go_wp2_with fail
    go_quiet (fail)
    go_wp2
    go_ret
    exact ⟨rfl, by first | exact (Keep.refl _ _).drew | exact drewN_keep _ _ _⟩
theorem HsTo.since {w w1 w' : World} {z' : HsI} (f : HsTo w1 h o K z' w') (k : Keep (fun _ => False) w w1) : HsTo w h o K z' w' := by
  obtain ⟨o', B', va', q1, q2, q3⟩ := f
  exact ⟨o', B', va', q1, (k.mono fun _ e => e.elim).trans q2, fun g hg => (q3 g hg).imp id fun q => Nat.le_trans k.size q⟩
set_option maxRecDepth 100000 in
theorem bind_yes (H : HsAt w h o B va K z) (hK : K ≤ 20000) (hb : B[i]? = some b) (n : Int) (hn : 1 ≤ n ∧ n ≤ z.tx.length) (hi : i ≠ (n - 1).toNat) (h4 : (z.at' (n - 1).toNat).state ≠ 4) (hs : ¬ ((z.at' i).stop ≠ 0 ∧ (z.at' i).stop ≤ (z.at' (n - 1).toNat).stop)) :
    Calls Tryd.prog 24 #[.pointer (some ⟨h, 0, none⟩), ptrV b, .int .u64 n] w fun e w' => e = .returned (.bool true) ∧ HsTo w h o (K + 1) (z.put i { z.at' i with bonds := (z.at' i).bonds ++ [(n - 1).toNat] }) w' := by
  have h0 := H.c0; obtain ⟨A8, c8, rfl, hA⟩ := H.row; have hl := H.nb.1; obtain ⟨L, eL⟩ : ∃ L, z.tx.length = L := ⟨_, rfl⟩; rw [eL] at h0 hA hl; have wl : IntKind.u64.wrap (L : Int) = L := (by rw [IntKind.wrap_u64]; omega)
  rw [eL] at hn
  obtain ⟨j, hj⟩ : ∃ j : Nat, (n - 1).toNat = j := ⟨_, rfl⟩; have ej : n = (j : Int) + 1 := (by omega); have jl : j < L := (by omega); obtain ⟨b2, hb2⟩ := H.at_b (show j < z.tx.length by omega); obtain ⟨g, rfl⟩ := hA (by omega); have cb := H.cell_b hb2; unfold ptrV at cb; obtain ⟨u, q⟩ := H.tx i b hb; obtain ⟨u2, q2⟩ := H.tx j b2 hb2; have d1 : decide (n < 1) = false := decide_eq_false (by omega); have d2 : decide ((L : Int) < n) = false := decide_eq_false (by omega); have d3 : IntKind.u64.wrap (n - 1) = (j : Int) := (by rw [ej, Int.add_sub_cancel, IntKind.wrap_u64]; omega); have jL : (j : Int) < L := (by omega)
  rw [hj] at hi hs h4 ⊢
  have nbb : b ≠ b2 := fun e => by
    have := q.ob
    rw [e, q2.ob] at this
    omega
  have EO := fun d => (eql_otherX (two_ptrs (w := w.drewN d) nbb q.ce.c0 q2.ce.c0 (fun i => q.ce.fz i) (fun i => q2.ce.fz i))).1
  have s2 := q2.ce.c7
  have p2 := q2.ce.c2
  have p1 := q.ce.c2
  have p3 := q.ce.c3
  have q0 : TnIn w o B i b (z.at' i) u := q
  obtain ⟨m, hm⟩ : ∃ m, (z.at' i).bonds.length = m := ⟨_, rfl⟩
  have ml : m ≤ K := by rw [← hm]; exact H.nb.2 _ (List.mem_of_getElem? (at_lt (tn_lt H hb)))
  have fu : ∃ A c, u = .slice A m c := by
    rcases OwnM.form q.bo with ⟨e, e2⟩ | ⟨g, c, e, _⟩
    · have : m = 0 := by rw [← hm]; simpa using congrArg List.length e2
      exact ⟨none, 0, by rw [e, this]⟩
    · rw [List.length_map, hm] at e
      exact ⟨_, c, e⟩
  obtain ⟨Au, cu0, rfl⟩ := fu
  have eb2 : B.getD j 0 = b2 := by rw [List.getD_eq_getElem?_getD, hb2]; rfl
  have lm : ((z.at' i).bonds.map fun j => B.getD j 0).length = m := by rw [List.length_map, hm]
  have OWN := Lib.hid (fun d => OwnM.keep q.bo (drewN_keep (fun _ => False) w d) (fun _ _ => id))
  have LB := Lib.hid (show ((z.at' i).bonds.map fun j => B.getD j 0).length ≤ 100000 by omega)
  have AFT := Lib.hid (fun d g4 c4 y4 o4 k4 hg4 => (H.quiet (drewN_keep _ w d)).bond hb (j0 := j) (by rw [H.len, eL]; exact jl) (q.keep (drewN_keep (fun _ => False) w d) (fun _ _ => id)) (n := m) (g := g4) (c := c4) (y := y4) hm.symm (by rw [eb2, ← lm]; exact o4) k4 hg4)
  rw [lm] at AFT
  have LM := Lib.hid lm
  have HM := Lib.hid hm
  obtain ⟨ys, eys⟩ : ∃ s, (z.at' j).state = s := ⟨_, rfl⟩
  obtain ⟨yp, eyp⟩ : ∃ s, (z.at' j).stop = s := ⟨_, rfl⟩
  obtain ⟨xp, exp⟩ : ∃ s, (z.at' i).stop = s := ⟨_, rfl⟩
  rw [eys] at s2 h4
  rw [eyp] at p2 hs
  rw [exp] at p1 hs
  have E0 : (binOp .eql 56 (.pointer (some ⟨b, 0, .none⟩)) (.pointer (some ⟨b2, 0, .none⟩))).run Tryd.prog w = .ok (.bool false) w := EO 0
  have q4 : (ys == 4) = false := by simpa using h4
  obtain ⟨Z, eZ⟩ : ∃ Z, (z.put i { z.at' i with bonds := (z.at' i).bonds ++ [j] }) = Z := ⟨_, rfl⟩
  rw [eZ] at AFT ⊢
  unfold ptrV
  clear H hb hA eL q q0 q2 hn ej hj hi hb2 nbb eys eyp exp eb2 lm hm ml h4 eZ
  by_cases h0 : xp = 0
  · subst h0
    clear hs
    go_enter Tryd.func24, Tryd.ntmps24
    go_wp2_with fail; go_quiet (fail); go_wp2_with (with_reducible refine wp_stop 63 rfl ?_); intro _; refine wp_pushM Tryd.underlying53 info_tn rfl (by decide) (by decide) pF_len pF_one rfl (.tmp 60) (.tmp 62) rfl _ (((z.at' i).bonds).map fun j => B.getD j 0) (by rfl) (OWN.out _) b2 (by rfl) LB.out ?_; intro g4 c4 y4 o4 k4 hg4; rw [LM.out] at o4; obtain ⟨⟨uu, cu⟩, fu, F4⟩ := AFT.out _ g4 c4 y4 o4 k4 hg4; have FB := Lib.hid (F4.since (drewN_keep _ w _)); clear o4 k4 hg4 F4; go_wp2; go_ret; exact ⟨rfl, (by rw [HM.out]; exact FB.out)⟩
  · have q5 : (xp != 0) = true := by simpa using h0
    have q6 : decide (xp ≤ yp) = false := decide_eq_false (fun c => hs ⟨h0, c⟩)
    clear hs h0
    go_enter Tryd.func24, Tryd.ntmps24
    go_wp2_with fail; go_quiet (fail); go_wp2_with (with_reducible refine wp_stop 63 rfl ?_); intro _; refine wp_pushM Tryd.underlying53 info_tn rfl (by decide) (by decide) pF_len pF_one rfl (.tmp 60) (.tmp 62) rfl _ (((z.at' i).bonds).map fun j => B.getD j 0) (by rfl) (OWN.out _) b2 (by rfl) LB.out ?_; intro g4 c4 y4 o4 k4 hg4; rw [LM.out] at o4; obtain ⟨⟨uu, cu⟩, fu, F4⟩ := AFT.out _ g4 c4 y4 o4 k4 hg4; have FB := Lib.hid (F4.since (drewN_keep _ w _)); clear o4 k4 hg4 F4; go_wp2; go_ret; exact ⟨rfl, (by rw [HM.out]; exact FB.out)⟩
end
end Go.Proofs.YtalkfnblnlcklaaDoor
