/- Package tale: add, whatever the event; condition: at most 20,000 events. -/
import Derived.Test.YtalkfnblnlcklaaDoorTlP
namespace Go.Proofs.YtalkfnblnlcklaaDoor
open Go.ChangeShapes Go.WideShapes Go.ChangeAt Go.RowKit
set_option linter.unusedVariables false
set_option linter.unusedSimpArgs false
/-- What a step answers and leaves. -/
def AP (w : World) (h : Nat) (o : Nat → Nat) (K : Nat) (r : Bool) (Z : HsI) (e : Ending) (w' : World) : Prop := e = .returned (.bool r) ∧ (r = true → HsTo w h o K Z w') ∧ (r = false → Keep (fun _ => False) w w')
section
variable {w w' w1 y : World} {h K i b nb : Nat} {o o' : Nat → Nat} {B : List Nat} {va u : Value} {z Z : HsI} {t : TnI} {S X : Nat → Prop} {v : EvI} {A : Option Addr} {q c : Nat}
theorem AP.no {e : Ending} (h1 : e = .returned (.bool false)) (k : Keep (fun _ => False) w w') : AP w h o K false Z e w' := ⟨h1, (fun c => by cases c), fun _ => k⟩
theorem AP.yes {e : Ending} (h1 : e = .returned (.bool true)) (k : HsTo w h o K Z w') : AP w h o K true Z e w' := ⟨h1, fun _ => k, (fun c => by cases c)⟩
theorem AP.since {e : Ending} {r : Bool} (f : AP w1 h o K r Z e w') (k : Keep (fun _ => False) w w1) : AP w h o K r Z e w' := ⟨f.1, fun c => (f.2.1 c).since k, fun c => k.trans (f.2.2 c)⟩
theorem HsTo.up {K' : Nat} (f : HsTo w h o K Z w') (hk : K ≤ K') : HsTo w h o K' Z w' := by
  obtain ⟨o', B', va', q1, q2, q3⟩ := f
  exact ⟨o', B', va', q1.up hk, q2, q3⟩
theorem begin_any (H : HsAt w h o B va K z) (hK : K ≤ 20000) (hk : v.kind = 1) : Calls Tryd.prog 20 #[.pointer (some ⟨h, 0, none⟩), evV v (.slice A q c)] w (AP w h o (K + 1) (z.addE v) (z.addH v)) := by
  have e1 : z.addE v = (decide (v.t = z.tx.length + 1) && decide (z.last < v.n)) := by unfold HsI.addE; rw [if_pos hk]
  have e2 : z.addH v = ⟨z.tx ++ [⟨v.o.val, v.n, 0, [], 1⟩], v.n⟩ := by unfold HsI.addH; rw [if_pos hk]
  rw [e1, e2]
  by_cases h1 : v.t = z.tx.length + 1
  · by_cases h2 : z.last < v.n
    · rw [decide_eq_true h1, decide_eq_true h2]
      exact (begin_yes H hK h1 h2).mono fun e w' p => AP.yes p.1 p.2
    · rw [decide_eq_false h2, Bool.and_false]
      exact (begin_no2 H hK h1 h2).mono fun e w' p => AP.no p.1 p.2
  · rw [decide_eq_false h1, Bool.false_and]
    exact (begin_no1 H hK h1).mono fun e w' p => AP.no p.1 p.2
theorem prepare_any (H : HsAt w h o B va K z) (hb : B[i]? = some b) (n : Int) : Calls Tryd.prog 22 #[.pointer (some ⟨h, 0, none⟩), ptrV b, .int .u64 n] w (AP w h o (K + 1) (decide (z.last < n)) { z.put i { z.at' i with stop := n } with last := n }) := by
  by_cases h2 : z.last < n
  · rw [decide_eq_true h2]
    exact (prepare_yes H n h2 hb).mono fun e w' p => AP.yes p.1 (p.2.up (Nat.le_succ _))
  · rw [decide_eq_false h2]
    exact (prepare_no H n h2 b).mono fun e w' p => AP.no p.1 (by rw [p.2]; exact Keep.refl _ _)
theorem publish_any (H : HsAt w h o B va K z) (hb : B[i]? = some b) (s : Int) (hs1 : s ≠ 1) : Calls Tryd.prog 26 #[ptrV b, .int .i64 s] w (AP w h o (K + 1) (decide ((z.at' i).state = 1)) (z.put i { z.at' i with state := s })) := by
  by_cases h2 : (z.at' i).state = 1
  · rw [decide_eq_true h2]
    exact (publish_yes H hb s h2 hs1).mono fun e w' p => AP.yes p.1 (p.2.up (Nat.le_succ _))
  · rw [decide_eq_false h2]
    exact (publish_no H hb s h2).mono fun e w' p => AP.no p.1 p.2
theorem bind_any (H : HsAt w h o B va K z) (hK : K ≤ 20000) (hb : B[i]? = some b) (n : Int) (h64 : 0 ≤ n ∧ n ≤ 18446744073709551615) :
    Calls Tryd.prog 24 #[.pointer (some ⟨h, 0, none⟩), ptrV b, .int .u64 n] w (AP w h o (K + 1) (decide (1 ≤ n) && decide (n ≤ z.tx.length) && (decide (i ≠ (n - 1).toNat) && decide ((z.at' (n - 1).toNat).state ≠ 4) && !(decide ((z.at' i).stop ≠ 0) && decide ((z.at' i).stop ≤ (z.at' (n - 1).toNat).stop)))) (z.put i { z.at' i with bonds := (z.at' i).bonds ++ [(n - 1).toNat] })) := by
  by_cases h1 : 1 ≤ n ∧ n ≤ z.tx.length
  · rw [decide_eq_true h1.1, decide_eq_true h1.2]
    by_cases h2 : i = (n - 1).toNat
    · have e : (decide (i ≠ (n - 1).toNat)) = false := decide_eq_false (fun c => c h2)
      rw [e]
      exact (bind_no2 H hK hb n h1 h2).mono fun e w' p => AP.no p.1 p.2
    · have e : (decide (i ≠ (n - 1).toNat)) = true := decide_eq_true h2
      rw [e]
      by_cases h3 : (z.at' (n - 1).toNat).state = 4 ∨ ((z.at' i).stop ≠ 0 ∧ (z.at' i).stop ≤ (z.at' (n - 1).toNat).stop)
      · have e : (true && true && (true && decide ((z.at' (n - 1).toNat).state ≠ 4) && !(decide ((z.at' i).stop ≠ 0) && decide ((z.at' i).stop ≤ (z.at' (n - 1).toNat).stop)))) = false := by
          rcases h3 with c | ⟨c1, c2⟩
          · rw [decide_eq_false (fun q : (z.at' (n - 1).toNat).state ≠ 4 => q c)]; simp
          · rw [decide_eq_true c1, decide_eq_true c2]; simp
        rw [e]
        exact (bind_no3 H hK hb n h1 h2 h3).mono fun e w' p => AP.no p.1 p.2
      · have h4 : (z.at' (n - 1).toNat).state ≠ 4 := fun c => h3 (.inl c)
        have h5 : ¬ ((z.at' i).stop ≠ 0 ∧ (z.at' i).stop ≤ (z.at' (n - 1).toNat).stop) := fun c => h3 (.inr c)
        have e : (true && true && (true && decide ((z.at' (n - 1).toNat).state ≠ 4) && !(decide ((z.at' i).stop ≠ 0) && decide ((z.at' i).stop ≤ (z.at' (n - 1).toNat).stop)))) = true := by
          rw [← Bool.decide_and, decide_eq_false h5, decide_eq_true h4]
          rfl
        rw [e]
        exact (bind_yes H hK hb n h1 h2 h4 h5).mono fun e w' p => AP.yes p.1 p.2
  · have e : (decide (1 ≤ n) && decide (n ≤ z.tx.length)) = false := by
      rw [← Bool.decide_and]
      exact decide_eq_false h1
    rw [e, Bool.false_and]
    exact (bind_no1 H hK hb n h64 (by omega)).mono fun e w' p => AP.no p.1 p.2
set_option maxRecDepth 100000 in
theorem add_begin (H : HsAt w h o B va K z) (hK : K ≤ 20000) (hk : v.kind = 1) : Calls Tryd.prog 15 #[.pointer (some ⟨h, 0, none⟩), evV v (.slice A q c)] w (AP w h o (K + 1) (z.addE v) (z.addH v)) := by
  obtain ⟨V, eV, X, kV⟩ := ev_box w v (.slice A q c)
  have BE := Lib.hid (begin_any (A := A) (q := q) (c := c) (H.quiet kV) hK hk)
  obtain ⟨N, eN⟩ : ∃ N, w.heap.size = N := ⟨_, rfl⟩
  rw [eN] at X
  obtain ⟨c0, c1, c2, c3, c4, c5, c6, c7, c8, c9, c10, c11⟩ := X
  simp only [Nat.zero_add] at c0 c1 c2 c3 c4 c5 c6 c7 c8 c9 c10 c11
  have KV := Lib.hid kV
  obtain ⟨r, er⟩ : ∃ r, z.addE v = r := ⟨_, rfl⟩
  obtain ⟨Z, eZ⟩ : ∃ Z, z.addH v = Z := ⟨_, rfl⟩
  rw [er, eZ] at BE ⊢
  obtain ⟨kd, tt, n, ⟨ok, oy, oh, ov⟩, ⟨re, rv, ps, ro, rr⟩⟩ := v
  unfold evV at BE ⊢
  dsimp only at hk c0 c1 c2 c3 c4 c5 c6 c7 c8 c9 c10 c11 eV BE ⊢
  subst hk
  clear kV er eZ H
  go_enter Tryd.func15, Tryd.ntmps15
  go_wp2_with fail
  refine BE.out.mono ?_
  rintro e w1 ⟨rfl, p1, p2⟩
  have P := Lib.hid (And.intro p1 p2)
  clear p1 p2
  go_wp2
  go_ret
  exact AP.since ⟨rfl, P.out.1, P.out.2⟩ KV.out
set_option maxRecDepth 100000 in
theorem add_out (H : HsAt w h o B va K z) (hK : K ≤ 20000) (hk : v.kind ≠ 1) (ht : v.t < 1 ∨ (z.tx.length : Int) < v.t) : Calls Tryd.prog 15 #[.pointer (some ⟨h, 0, none⟩), evV v (.slice A q c)] w fun e w' => e = .returned (.bool false) ∧ Keep (fun _ => False) w w' := by
  obtain ⟨V, eV, X, kV⟩ := ev_box w v (.slice A q c); have HV := H.quiet kV; have h0 := HV.c0; obtain ⟨A8, c8, rfl, hA⟩ := HV.row; have hl := H.nb.1; obtain ⟨L, eL⟩ : ∃ L, z.tx.length = L := ⟨_, rfl⟩; rw [eL] at h0 hA hl; obtain ⟨N, eN⟩ : ∃ N, w.heap.size = N := ⟨_, rfl⟩; rw [eN] at X; obtain ⟨c0, c1, c2, c3, c4, c5, c6, c7, c8', c9, c10, c11⟩ := X; simp only [Nat.zero_add] at c0 c1 c2 c3 c4 c5 c6 c7 c8' c9 c10 c11; have KV := Lib.hid kV
  rw [eL] at ht
  obtain ⟨kd, tt, n, ⟨ok, oy, oh, ov⟩, ⟨re, rv, ps, ro, rr⟩⟩ := v
  unfold evV
  dsimp only at hk ht c0 c1 c2 c3 c4 c5 c6 c7 c8' c9 c10 c11 eV ⊢
  have dk : (kd == 1) = false := by simpa using hk
  clear kV H HV hA eL
  by_cases h1 : tt < 1
  · have d1 : decide (tt < 1) = true := decide_eq_true h1
    clear ht h1 hk
    go_enter Tryd.func15, Tryd.ntmps15
    go_wp2_with fail
    go_quiet (fail)
    go_wp2
    go_ret
    exact ⟨rfl, KV.out.trans (by first | exact Keep.refl _ _ | exact (Keep.refl _ _).drew | exact drewN_keep _ _ _ | exact (drewN_keep _ _ _).trans (drewN_keep _ _ _) | (refine Keep.trans ?_ (drewN_keep _ _ _); first | exact drewN_keep _ _ _ | exact (Keep.refl _ _).drew))⟩
  · have d1 : decide (tt < 1) = false := decide_eq_false h1
    have d2 : decide ((L : Int) < tt) = true := decide_eq_true (by omega)
    clear ht h1 hk
    go_enter Tryd.func15, Tryd.ntmps15
    go_wp2_with fail
    go_quiet (fail)
    go_wp2
    go_ret
    exact ⟨rfl, KV.out.trans (by first | exact Keep.refl _ _ | exact (Keep.refl _ _).drew | exact drewN_keep _ _ _ | exact (drewN_keep _ _ _).trans (drewN_keep _ _ _) | (refine Keep.trans ?_ (drewN_keep _ _ _); first | exact drewN_keep _ _ _ | exact (Keep.refl _ _).drew))⟩
set_option maxRecDepth 100000 in
theorem add_op (H : HsAt w h o B va K z) (hK : K ≤ 20000) (hk : v.kind = 2) (ht : 1 ≤ v.t ∧ v.t ≤ z.tx.length) (r : Bool) (hr : (decide ((z.at' (v.t - 1).toNat).state = 1) && decide ((z.at' (v.t - 1).toNat).stop = 0)) = r) : Calls Tryd.prog 15 #[.pointer (some ⟨h, 0, none⟩), evV v (.slice A q c)] w fun e w' => e = .returned (.bool r) ∧ Keep (fun _ => False) w w' := by
  obtain ⟨V, eV, X, kV⟩ := ev_box w v (.slice A q c); have HV := H.quiet kV; have h0 := HV.c0; obtain ⟨A8, c8, rfl, hA⟩ := HV.row; have hl := H.nb.1; obtain ⟨L, eL⟩ : ∃ L, z.tx.length = L := ⟨_, rfl⟩; rw [eL] at h0 hA hl; obtain ⟨N, eN⟩ : ∃ N, w.heap.size = N := ⟨_, rfl⟩; rw [eN] at X; obtain ⟨c0, c1, c2, c3, c4, c5, c6, c7, c8', c9, c10, c11⟩ := X; simp only [Nat.zero_add] at c0 c1 c2 c3 c4 c5 c6 c7 c8' c9 c10 c11; have KV := Lib.hid kV
  rw [eL] at ht
  obtain ⟨j, hj⟩ : ∃ j : Nat, (v.t - 1).toNat = j := ⟨_, rfl⟩; have ej : v.t = (j : Int) + 1 := (by omega); have jl : j < L := (by omega); obtain ⟨b, hb⟩ := HV.at_b (show j < z.tx.length by omega); obtain ⟨g, rfl⟩ := hA (by omega); have cb := HV.cell_b hb; unfold ptrV at cb; have d1 : decide (v.t < 1) = false := decide_eq_false (by omega); have d2 : decide ((L : Int) < v.t) = false := decide_eq_false (by omega); have d3 : IntKind.i64.wrap (v.t - 1) = (j : Int) := (by rw [ej, Int.add_sub_cancel]; exact IntWalk.i64_in _ (by omega)); have jL : (j : Int) < L := (by omega); have hgV : g < V.heap.size := lt_of_cell (a := ⟨g, j, none⟩) cb
  rw [hj] at hr
  have RN := Lib.hid (fun w1 (k : Keep (fun _ => False) V w1) => runs_any (HV.quiet k) hb r hr)
  obtain ⟨kd, tt, n, ⟨ok, oy, oh, ov⟩, ⟨re, rv, ps, ro, rr⟩⟩ := v
  unfold evV
  unfold ptrV at RN
  dsimp only at hk ht c0 c1 c2 c3 c4 c5 c6 c7 c8' c9 c10 c11 eV d1 d2 d3 ⊢
  subst hk
  clear kV H HV hA eL ht hr hb ej hj
  go_enter Tryd.func15, Tryd.ntmps15
  go_wp2_with fail
  go_quiet (fail)
  go_wp2_with fail
  go_quiet (fail)
  go_wp2_with fail
  refine (RN.out _ (by first | exact Keep.refl _ _ | exact (Keep.refl _ _).drew | exact drewN_keep _ _ _ | exact (drewN_keep _ _ _).trans (drewN_keep _ _ _) | (refine Keep.trans ?_ (drewN_keep _ _ _); first | exact drewN_keep _ _ _ | exact (Keep.refl _ _).drew))).mono ?_
  rintro e w1 ⟨rfl, rfl⟩
  go_wp2
  go_ret
  exact ⟨rfl, KV.out.trans (by first | exact Keep.refl _ _ | exact (Keep.refl _ _).drew | exact drewN_keep _ _ _ | exact (drewN_keep _ _ _).trans (drewN_keep _ _ _) | (refine Keep.trans ?_ (drewN_keep _ _ _); first | exact drewN_keep _ _ _ | exact (Keep.refl _ _).drew))⟩
set_option maxRecDepth 100000 in
theorem add_prep (H : HsAt w h o B va K z) (hK : K ≤ 20000) (hk : v.kind = 3) (h64 : 0 ≤ v.n ∧ v.n ≤ 18446744073709551615) (ht : 1 ≤ v.t ∧ v.t ≤ z.tx.length) (r : Bool) (hr : ((decide ((z.at' (v.t - 1).toNat).state = 1) && decide ((z.at' (v.t - 1).toNat).stop = 0)) && decide (z.last < v.n)) = r) (Z : HsI) (hZ : { z.put (v.t - 1).toNat { z.at' (v.t - 1).toNat with stop := v.n } with last := v.n } = Z) : Calls Tryd.prog 15 #[.pointer (some ⟨h, 0, none⟩), evV v (.slice A q c)] w (AP w h o (K + 1) r Z) := by
  obtain ⟨V, eV, X, kV⟩ := ev_box w v (.slice A q c); have HV := H.quiet kV; have h0 := HV.c0; obtain ⟨A8, c8, rfl, hA⟩ := HV.row; have hl := H.nb.1; obtain ⟨L, eL⟩ : ∃ L, z.tx.length = L := ⟨_, rfl⟩; rw [eL] at h0 hA hl; obtain ⟨N, eN⟩ : ∃ N, w.heap.size = N := ⟨_, rfl⟩; rw [eN] at X; obtain ⟨c0, c1, c2, c3, c4, c5, c6, c7, c8', c9, c10, c11⟩ := X; simp only [Nat.zero_add] at c0 c1 c2 c3 c4 c5 c6 c7 c8' c9 c10 c11; have KV := Lib.hid kV
  rw [eL] at ht
  obtain ⟨j, hj⟩ : ∃ j : Nat, (v.t - 1).toNat = j := ⟨_, rfl⟩; have ej : v.t = (j : Int) + 1 := (by omega); have jl : j < L := (by omega); obtain ⟨b, hb⟩ := HV.at_b (show j < z.tx.length by omega); obtain ⟨g, rfl⟩ := hA (by omega); have cb := HV.cell_b hb; unfold ptrV at cb; have d1 : decide (v.t < 1) = false := decide_eq_false (by omega); have d2 : decide ((L : Int) < v.t) = false := decide_eq_false (by omega); have d3 : IntKind.i64.wrap (v.t - 1) = (j : Int) := (by rw [ej, Int.add_sub_cancel]; exact IntWalk.i64_in _ (by omega)); have jL : (j : Int) < L := (by omega); have hgV : g < V.heap.size := lt_of_cell (a := ⟨g, j, none⟩) cb
  rw [hj] at hr hZ
  obtain ⟨a, ha⟩ : ∃ a, ((decide ((z.at' j).state = 1) && decide ((z.at' j).stop = 0))) = a := ⟨_, rfl⟩
  have RN := Lib.hid (fun w1 (k : Keep (fun _ => False) V w1) => runs_any (HV.quiet k) hb a ha)
  have SN := Lib.hid (fun w1 (k : Keep (fun _ => False) V w1) => prepare_any (HV.quiet k) hb v.n)
  rw [ha] at hr
  rw [hZ] at SN
  obtain ⟨r2, hr2⟩ : ∃ r2, (decide (z.last < v.n)) = r2 := ⟨_, rfl⟩
  rw [hr2] at hr SN
  obtain ⟨kd, tt, n, ⟨ok, oy, oh, ov⟩, ⟨re, rv, ps, ro, rr⟩⟩ := v
  unfold evV
  unfold ptrV at RN SN
  dsimp only at hk ht c0 c1 c2 c3 c4 c5 c6 c7 c8' c9 c10 c11 eV d1 d2 d3 SN ⊢
  subst hk
  clear kV H HV hA eL ht hb ej hj ha hZ hr2 h64
  cases a with
  | false =>
    obtain rfl : false = r := by rw [← hr]; rfl
    clear SN hr
    go_enter Tryd.func15, Tryd.ntmps15
    go_wp2_with fail
    go_quiet (fail)
    go_wp2_with fail
    go_quiet (fail)
    go_wp2_with fail
    refine (RN.out _ (by first | exact Keep.refl _ _ | exact (Keep.refl _ _).drew | exact drewN_keep _ _ _ | exact (drewN_keep _ _ _).trans (drewN_keep _ _ _) | (refine Keep.trans ?_ (drewN_keep _ _ _); first | exact drewN_keep _ _ _ | exact (Keep.refl _ _).drew))).mono ?_
    rintro e w1 ⟨rfl, rfl⟩
    go_wp2
    go_ret
    exact AP.no rfl (KV.out.trans (by first | exact Keep.refl _ _ | exact (Keep.refl _ _).drew | exact drewN_keep _ _ _ | exact (drewN_keep _ _ _).trans (drewN_keep _ _ _) | (refine Keep.trans ?_ (drewN_keep _ _ _); first | exact drewN_keep _ _ _ | exact (Keep.refl _ _).drew)))
  | true =>
    obtain rfl : r2 = r := by rw [← hr]; rfl
    clear hr
    go_enter Tryd.func15, Tryd.ntmps15
    go_wp2_with fail
    go_quiet (fail)
    go_wp2_with fail
    go_quiet (fail)
    go_wp2_with fail
    refine (RN.out _ (by first | exact Keep.refl _ _ | exact (Keep.refl _ _).drew | exact drewN_keep _ _ _ | exact (drewN_keep _ _ _).trans (drewN_keep _ _ _) | (refine Keep.trans ?_ (drewN_keep _ _ _); first | exact drewN_keep _ _ _ | exact (Keep.refl _ _).drew))).mono ?_
    rintro e w1 ⟨rfl, rfl⟩
    go_wp2_with fail
    refine (SN.out _ (by first | exact Keep.refl _ _ | exact (Keep.refl _ _).drew | exact drewN_keep _ _ _ | exact (drewN_keep _ _ _).trans (drewN_keep _ _ _) | (refine Keep.trans ?_ (drewN_keep _ _ _); first | exact drewN_keep _ _ _ | exact (Keep.refl _ _).drew))).mono ?_
    rintro e w1 ⟨rfl, p1, p2⟩
    have P := Lib.hid (And.intro p1 p2)
    clear p1 p2
    go_wp2
    go_ret
    exact AP.since ⟨rfl, P.out.1, P.out.2⟩ (KV.out.trans (by first | exact Keep.refl _ _ | exact (Keep.refl _ _).drew | exact drewN_keep _ _ _ | exact (drewN_keep _ _ _).trans (drewN_keep _ _ _) | (refine Keep.trans ?_ (drewN_keep _ _ _); first | exact drewN_keep _ _ _ | exact (Keep.refl _ _).drew)))
set_option maxRecDepth 100000 in
theorem add_bond (H : HsAt w h o B va K z) (hK : K ≤ 20000) (hk : v.kind = 4) (h64 : 0 ≤ v.n ∧ v.n ≤ 18446744073709551615) (ht : 1 ≤ v.t ∧ v.t ≤ z.tx.length) (r : Bool) (hr : (decide ((z.at' (v.t - 1).toNat).state = 1) && (decide (1 ≤ v.n) && decide (v.n ≤ z.tx.length) && (decide ((v.t - 1).toNat ≠ (v.n - 1).toNat) && decide ((z.at' (v.n - 1).toNat).state ≠ 4) && !(decide ((z.at' (v.t - 1).toNat).stop ≠ 0) && decide ((z.at' (v.t - 1).toNat).stop ≤ (z.at' (v.n - 1).toNat).stop))))) = r) (Z : HsI) (hZ : z.put (v.t - 1).toNat { z.at' (v.t - 1).toNat with bonds := (z.at' (v.t - 1).toNat).bonds ++ [(v.n - 1).toNat] } = Z) : Calls Tryd.prog 15 #[.pointer (some ⟨h, 0, none⟩), evV v (.slice A q c)] w (AP w h o (K + 1) r Z) := by
  obtain ⟨V, eV, X, kV⟩ := ev_box w v (.slice A q c); have HV := H.quiet kV; have h0 := HV.c0; obtain ⟨A8, c8, rfl, hA⟩ := HV.row; have hl := H.nb.1; obtain ⟨L, eL⟩ : ∃ L, z.tx.length = L := ⟨_, rfl⟩; rw [eL] at h0 hA hl; obtain ⟨N, eN⟩ : ∃ N, w.heap.size = N := ⟨_, rfl⟩; rw [eN] at X; obtain ⟨c0, c1, c2, c3, c4, c5, c6, c7, c8', c9, c10, c11⟩ := X; simp only [Nat.zero_add] at c0 c1 c2 c3 c4 c5 c6 c7 c8' c9 c10 c11; have KV := Lib.hid kV
  rw [eL] at ht
  obtain ⟨j, hj⟩ : ∃ j : Nat, (v.t - 1).toNat = j := ⟨_, rfl⟩; have ej : v.t = (j : Int) + 1 := (by omega); have jl : j < L := (by omega); obtain ⟨b, hb⟩ := HV.at_b (show j < z.tx.length by omega); obtain ⟨g, rfl⟩ := hA (by omega); have cb := HV.cell_b hb; unfold ptrV at cb; have d1 : decide (v.t < 1) = false := decide_eq_false (by omega); have d2 : decide ((L : Int) < v.t) = false := decide_eq_false (by omega); have d3 : IntKind.i64.wrap (v.t - 1) = (j : Int) := (by rw [ej, Int.add_sub_cancel]; exact IntWalk.i64_in _ (by omega)); have jL : (j : Int) < L := (by omega); have hgV : g < V.heap.size := lt_of_cell (a := ⟨g, j, none⟩) cb
  rw [hj] at hr hZ
  obtain ⟨a, ha⟩ : ∃ a, (decide ((z.at' j).state = 1)) = a := ⟨_, rfl⟩
  have RN := Lib.hid (fun w1 (k : Keep (fun _ => False) V w1) => open_any (HV.quiet k) hb a ha)
  have SN := Lib.hid (fun w1 (k : Keep (fun _ => False) V w1) => bind_any (HV.quiet k) hK hb v.n h64)
  rw [ha] at hr
  rw [hZ] at SN
  obtain ⟨r2, hr2⟩ : ∃ r2, ((decide (1 ≤ v.n) && decide (v.n ≤ z.tx.length) && (decide (j ≠ (v.n - 1).toNat) && decide ((z.at' (v.n - 1).toNat).state ≠ 4) && !(decide ((z.at' j).stop ≠ 0) && decide ((z.at' j).stop ≤ (z.at' (v.n - 1).toNat).stop))))) = r2 := ⟨_, rfl⟩
  rw [hr2] at hr SN
  obtain ⟨kd, tt, n, ⟨ok, oy, oh, ov⟩, ⟨re, rv, ps, ro, rr⟩⟩ := v
  unfold evV
  unfold ptrV at RN SN
  dsimp only at hk ht c0 c1 c2 c3 c4 c5 c6 c7 c8' c9 c10 c11 eV d1 d2 d3 SN ⊢
  subst hk
  clear kV H HV hA eL ht hb ej hj ha hZ hr2 h64
  cases a with
  | false =>
    obtain rfl : false = r := by rw [← hr]; rfl
    clear SN hr
    go_enter Tryd.func15, Tryd.ntmps15
    go_wp2_with fail
    go_quiet (fail)
    go_wp2_with fail
    go_quiet (fail)
    go_wp2_with fail
    refine (RN.out _ (by first | exact Keep.refl _ _ | exact (Keep.refl _ _).drew | exact drewN_keep _ _ _ | exact (drewN_keep _ _ _).trans (drewN_keep _ _ _) | (refine Keep.trans ?_ (drewN_keep _ _ _); first | exact drewN_keep _ _ _ | exact (Keep.refl _ _).drew))).mono ?_
    rintro e w1 ⟨rfl, rfl⟩
    go_wp2
    go_ret
    exact AP.no rfl (KV.out.trans (by first | exact Keep.refl _ _ | exact (Keep.refl _ _).drew | exact drewN_keep _ _ _ | exact (drewN_keep _ _ _).trans (drewN_keep _ _ _) | (refine Keep.trans ?_ (drewN_keep _ _ _); first | exact drewN_keep _ _ _ | exact (Keep.refl _ _).drew)))
  | true =>
    obtain rfl : r2 = r := by rw [← hr]; rfl
    clear hr
    go_enter Tryd.func15, Tryd.ntmps15
    go_wp2_with fail
    go_quiet (fail)
    go_wp2_with fail
    go_quiet (fail)
    go_wp2_with fail
    refine (RN.out _ (by first | exact Keep.refl _ _ | exact (Keep.refl _ _).drew | exact drewN_keep _ _ _ | exact (drewN_keep _ _ _).trans (drewN_keep _ _ _) | (refine Keep.trans ?_ (drewN_keep _ _ _); first | exact drewN_keep _ _ _ | exact (Keep.refl _ _).drew))).mono ?_
    rintro e w1 ⟨rfl, rfl⟩
    go_wp2_with fail
    refine (SN.out _ (by first | exact Keep.refl _ _ | exact (Keep.refl _ _).drew | exact drewN_keep _ _ _ | exact (drewN_keep _ _ _).trans (drewN_keep _ _ _) | (refine Keep.trans ?_ (drewN_keep _ _ _); first | exact drewN_keep _ _ _ | exact (Keep.refl _ _).drew))).mono ?_
    rintro e w1 ⟨rfl, p1, p2⟩
    have P := Lib.hid (And.intro p1 p2)
    clear p1 p2
    go_wp2
    go_ret
    exact AP.since ⟨rfl, P.out.1, P.out.2⟩ (KV.out.trans (by first | exact Keep.refl _ _ | exact (Keep.refl _ _).drew | exact drewN_keep _ _ _ | exact (drewN_keep _ _ _).trans (drewN_keep _ _ _) | (refine Keep.trans ?_ (drewN_keep _ _ _); first | exact drewN_keep _ _ _ | exact (Keep.refl _ _).drew)))
set_option maxRecDepth 100000 in
theorem add_done (H : HsAt w h o B va K z) (hK : K ≤ 20000) (hk : v.kind = 5) (h64 : 0 ≤ v.n ∧ v.n ≤ 18446744073709551615) (ht : 1 ≤ v.t ∧ v.t ≤ z.tx.length) (r : Bool) (hr : ((z.free (v.t - 1).toNat && decide ((z.at' (v.t - 1).toNat).stop ≠ 0)) && decide ((z.at' (v.t - 1).toNat).state = 1)) = r) (Z : HsI) (hZ : z.put (v.t - 1).toNat { z.at' (v.t - 1).toNat with state := 3 } = Z) : Calls Tryd.prog 15 #[.pointer (some ⟨h, 0, none⟩), evV v (.slice A q c)] w (AP w h o (K + 1) r Z) := by
  obtain ⟨V, eV, X, kV⟩ := ev_box w v (.slice A q c); have HV := H.quiet kV; have h0 := HV.c0; obtain ⟨A8, c8, rfl, hA⟩ := HV.row; have hl := H.nb.1; obtain ⟨L, eL⟩ : ∃ L, z.tx.length = L := ⟨_, rfl⟩; rw [eL] at h0 hA hl; obtain ⟨N, eN⟩ : ∃ N, w.heap.size = N := ⟨_, rfl⟩; rw [eN] at X; obtain ⟨c0, c1, c2, c3, c4, c5, c6, c7, c8', c9, c10, c11⟩ := X; simp only [Nat.zero_add] at c0 c1 c2 c3 c4 c5 c6 c7 c8' c9 c10 c11; have KV := Lib.hid kV
  rw [eL] at ht
  obtain ⟨j, hj⟩ : ∃ j : Nat, (v.t - 1).toNat = j := ⟨_, rfl⟩; have ej : v.t = (j : Int) + 1 := (by omega); have jl : j < L := (by omega); obtain ⟨b, hb⟩ := HV.at_b (show j < z.tx.length by omega); obtain ⟨g, rfl⟩ := hA (by omega); have cb := HV.cell_b hb; unfold ptrV at cb; have d1 : decide (v.t < 1) = false := decide_eq_false (by omega); have d2 : decide ((L : Int) < v.t) = false := decide_eq_false (by omega); have d3 : IntKind.i64.wrap (v.t - 1) = (j : Int) := (by rw [ej, Int.add_sub_cancel]; exact IntWalk.i64_in _ (by omega)); have jL : (j : Int) < L := (by omega); have hgV : g < V.heap.size := lt_of_cell (a := ⟨g, j, none⟩) cb
  rw [hj] at hr hZ
  obtain ⟨a, ha⟩ : ∃ a, ((z.free j && decide ((z.at' j).stop ≠ 0))) = a := ⟨_, rfl⟩
  have RN := Lib.hid (fun w1 (k : Keep (fun _ => False) V w1) => ready_any (HV.quiet k) hK hb a ha)
  have SN := Lib.hid (fun w1 (k : Keep (fun _ => False) V w1) => publish_any (HV.quiet k) hb 3 (by decide))
  rw [ha] at hr
  rw [hZ] at SN
  obtain ⟨r2, hr2⟩ : ∃ r2, (decide ((z.at' j).state = 1)) = r2 := ⟨_, rfl⟩
  rw [hr2] at hr SN
  obtain ⟨kd, tt, n, ⟨ok, oy, oh, ov⟩, ⟨re, rv, ps, ro, rr⟩⟩ := v
  unfold evV
  unfold ptrV at RN SN
  dsimp only at hk ht c0 c1 c2 c3 c4 c5 c6 c7 c8' c9 c10 c11 eV d1 d2 d3 SN ⊢
  subst hk
  clear kV H HV hA eL ht hb ej hj ha hZ hr2 h64
  cases a with
  | false =>
    obtain rfl : false = r := by rw [← hr]; rfl
    clear SN hr
    go_enter Tryd.func15, Tryd.ntmps15
    go_wp2_with fail
    go_quiet (fail)
    go_wp2_with fail
    go_quiet (fail)
    go_wp2_with fail
    refine (RN.out _ (by first | exact Keep.refl _ _ | exact (Keep.refl _ _).drew | exact drewN_keep _ _ _ | exact (drewN_keep _ _ _).trans (drewN_keep _ _ _) | (refine Keep.trans ?_ (drewN_keep _ _ _); first | exact drewN_keep _ _ _ | exact (Keep.refl _ _).drew))).mono ?_
    rintro e w1 ⟨rfl, rfl⟩
    go_wp2
    go_ret
    exact AP.no rfl (KV.out.trans (by first | exact Keep.refl _ _ | exact (Keep.refl _ _).drew | exact drewN_keep _ _ _ | exact (drewN_keep _ _ _).trans (drewN_keep _ _ _) | (refine Keep.trans ?_ (drewN_keep _ _ _); first | exact drewN_keep _ _ _ | exact (Keep.refl _ _).drew)))
  | true =>
    obtain rfl : r2 = r := by rw [← hr]; rfl
    clear hr
    go_enter Tryd.func15, Tryd.ntmps15
    go_wp2_with fail
    go_quiet (fail)
    go_wp2_with fail
    go_quiet (fail)
    go_wp2_with fail
    refine (RN.out _ (by first | exact Keep.refl _ _ | exact (Keep.refl _ _).drew | exact drewN_keep _ _ _ | exact (drewN_keep _ _ _).trans (drewN_keep _ _ _) | (refine Keep.trans ?_ (drewN_keep _ _ _); first | exact drewN_keep _ _ _ | exact (Keep.refl _ _).drew))).mono ?_
    rintro e w1 ⟨rfl, rfl⟩
    go_wp2_with fail
    refine (SN.out _ (by first | exact Keep.refl _ _ | exact (Keep.refl _ _).drew | exact drewN_keep _ _ _ | exact (drewN_keep _ _ _).trans (drewN_keep _ _ _) | (refine Keep.trans ?_ (drewN_keep _ _ _); first | exact drewN_keep _ _ _ | exact (Keep.refl _ _).drew))).mono ?_
    rintro e w1 ⟨rfl, p1, p2⟩
    have P := Lib.hid (And.intro p1 p2)
    clear p1 p2
    go_wp2
    go_ret
    exact AP.since ⟨rfl, P.out.1, P.out.2⟩ (KV.out.trans (by first | exact Keep.refl _ _ | exact (Keep.refl _ _).drew | exact drewN_keep _ _ _ | exact (drewN_keep _ _ _).trans (drewN_keep _ _ _) | (refine Keep.trans ?_ (drewN_keep _ _ _); first | exact drewN_keep _ _ _ | exact (Keep.refl _ _).drew)))
set_option maxRecDepth 100000 in
theorem add_gone (H : HsAt w h o B va K z) (hK : K ≤ 20000) (hk : v.kind = 6) (ht : 1 ≤ v.t ∧ v.t ≤ z.tx.length) (r : Bool) (hr : decide ((z.at' (v.t - 1).toNat).state = 1) = r) (Z : HsI) (hZ : z.put (v.t - 1).toNat { z.at' (v.t - 1).toNat with state := 4 } = Z) : Calls Tryd.prog 15 #[.pointer (some ⟨h, 0, none⟩), evV v (.slice A q c)] w (AP w h o (K + 1) r Z) := by
  obtain ⟨V, eV, X, kV⟩ := ev_box w v (.slice A q c); have HV := H.quiet kV; have h0 := HV.c0; obtain ⟨A8, c8, rfl, hA⟩ := HV.row; have hl := H.nb.1; obtain ⟨L, eL⟩ : ∃ L, z.tx.length = L := ⟨_, rfl⟩; rw [eL] at h0 hA hl; obtain ⟨N, eN⟩ : ∃ N, w.heap.size = N := ⟨_, rfl⟩; rw [eN] at X; obtain ⟨c0, c1, c2, c3, c4, c5, c6, c7, c8', c9, c10, c11⟩ := X; simp only [Nat.zero_add] at c0 c1 c2 c3 c4 c5 c6 c7 c8' c9 c10 c11; have KV := Lib.hid kV
  rw [eL] at ht
  obtain ⟨j, hj⟩ : ∃ j : Nat, (v.t - 1).toNat = j := ⟨_, rfl⟩; have ej : v.t = (j : Int) + 1 := (by omega); have jl : j < L := (by omega); obtain ⟨b, hb⟩ := HV.at_b (show j < z.tx.length by omega); obtain ⟨g, rfl⟩ := hA (by omega); have cb := HV.cell_b hb; unfold ptrV at cb; have d1 : decide (v.t < 1) = false := decide_eq_false (by omega); have d2 : decide ((L : Int) < v.t) = false := decide_eq_false (by omega); have d3 : IntKind.i64.wrap (v.t - 1) = (j : Int) := (by rw [ej, Int.add_sub_cancel]; exact IntWalk.i64_in _ (by omega)); have jL : (j : Int) < L := (by omega); have hgV : g < V.heap.size := lt_of_cell (a := ⟨g, j, none⟩) cb
  rw [hj] at hr hZ
  have SN := Lib.hid (fun w1 (k : Keep (fun _ => False) V w1) => publish_any (HV.quiet k) hb 4 (by decide))
  rw [hZ, hr] at SN
  obtain ⟨kd, tt, n, ⟨ok, oy, oh, ov⟩, ⟨re, rv, ps, ro, rr⟩⟩ := v
  unfold evV
  unfold ptrV at SN
  dsimp only at hk ht c0 c1 c2 c3 c4 c5 c6 c7 c8' c9 c10 c11 eV d1 d2 d3 SN ⊢
  subst hk
  clear kV H HV hA eL ht hb ej hj hZ hr
  go_enter Tryd.func15, Tryd.ntmps15
  go_wp2_with fail
  go_quiet (fail)
  go_wp2_with fail
  go_quiet (fail)
  go_wp2_with fail
  refine (SN.out _ (by first | exact Keep.refl _ _ | exact (Keep.refl _ _).drew | exact drewN_keep _ _ _ | exact (drewN_keep _ _ _).trans (drewN_keep _ _ _) | (refine Keep.trans ?_ (drewN_keep _ _ _); first | exact drewN_keep _ _ _ | exact (Keep.refl _ _).drew))).mono ?_
  rintro e w1 ⟨rfl, p1, p2⟩
  have P := Lib.hid (And.intro p1 p2)
  clear p1 p2
  go_wp2
  go_ret
  exact AP.since ⟨rfl, P.out.1, P.out.2⟩ (KV.out.trans (by first | exact Keep.refl _ _ | exact (Keep.refl _ _).drew | exact drewN_keep _ _ _ | exact (drewN_keep _ _ _).trans (drewN_keep _ _ _) | (refine Keep.trans ?_ (drewN_keep _ _ _); first | exact drewN_keep _ _ _ | exact (Keep.refl _ _).drew)))
set_option maxRecDepth 100000 in
theorem add_bad (H : HsAt w h o B va K z) (hK : K ≤ 20000) (hk : v.kind < 1 ∨ 6 < v.kind) (ht : 1 ≤ v.t ∧ v.t ≤ z.tx.length) : Calls Tryd.prog 15 #[.pointer (some ⟨h, 0, none⟩), evV v (.slice A q c)] w fun e w' => e = .returned (.bool false) ∧ Keep (fun _ => False) w w' := by
  obtain ⟨V, eV, X, kV⟩ := ev_box w v (.slice A q c); have HV := H.quiet kV; have h0 := HV.c0; obtain ⟨A8, c8, rfl, hA⟩ := HV.row; have hl := H.nb.1; obtain ⟨L, eL⟩ : ∃ L, z.tx.length = L := ⟨_, rfl⟩; rw [eL] at h0 hA hl; obtain ⟨N, eN⟩ : ∃ N, w.heap.size = N := ⟨_, rfl⟩; rw [eN] at X; obtain ⟨c0, c1, c2, c3, c4, c5, c6, c7, c8', c9, c10, c11⟩ := X; simp only [Nat.zero_add] at c0 c1 c2 c3 c4 c5 c6 c7 c8' c9 c10 c11; have KV := Lib.hid kV
  rw [eL] at ht
  obtain ⟨j, hj⟩ : ∃ j : Nat, (v.t - 1).toNat = j := ⟨_, rfl⟩; have ej : v.t = (j : Int) + 1 := (by omega); have jl : j < L := (by omega); obtain ⟨b, hb⟩ := HV.at_b (show j < z.tx.length by omega); obtain ⟨g, rfl⟩ := hA (by omega); have cb := HV.cell_b hb; unfold ptrV at cb; have d1 : decide (v.t < 1) = false := decide_eq_false (by omega); have d2 : decide ((L : Int) < v.t) = false := decide_eq_false (by omega); have d3 : IntKind.i64.wrap (v.t - 1) = (j : Int) := (by rw [ej, Int.add_sub_cancel]; exact IntWalk.i64_in _ (by omega)); have jL : (j : Int) < L := (by omega); have hgV : g < V.heap.size := lt_of_cell (a := ⟨g, j, none⟩) cb
  obtain ⟨kd, tt, n, ⟨ok, oy, oh, ov⟩, ⟨re, rv, ps, ro, rr⟩⟩ := v
  unfold evV
  dsimp only at hk ht c0 c1 c2 c3 c4 c5 c6 c7 c8' c9 c10 c11 eV d1 d2 d3 ⊢
  have n1 : (kd == 1) = false := by rw [beq_eq_false_iff_ne]; omega
  have n2 : (kd == 2) = false := by rw [beq_eq_false_iff_ne]; omega
  have n3 : (kd == 3) = false := by rw [beq_eq_false_iff_ne]; omega
  have n4 : (kd == 4) = false := by rw [beq_eq_false_iff_ne]; omega
  have n5 : (kd == 5) = false := by rw [beq_eq_false_iff_ne]; omega
  have n6 : (kd == 6) = false := by rw [beq_eq_false_iff_ne]; omega
  clear kV H HV hA eL ht hb ej hj hk
  go_enter Tryd.func15, Tryd.ntmps15
  go_wp2_with fail
  go_quiet (fail)
  go_wp2_with fail
  go_quiet (fail)
  go_wp2
  go_ret
  exact ⟨rfl, KV.out.trans (by first | exact Keep.refl _ _ | exact (Keep.refl _ _).drew | exact drewN_keep _ _ _ | exact (drewN_keep _ _ _).trans (drewN_keep _ _ _) | (refine Keep.trans ?_ (drewN_keep _ _ _); first | exact drewN_keep _ _ _ | exact (Keep.refl _ _).drew))⟩
/-- Any event. -/
theorem add_any (H : HsAt w h o B va K z) (hK : K ≤ 20000) (h64 : 0 ≤ v.n ∧ v.n ≤ 18446744073709551615) : Calls Tryd.prog 15 #[.pointer (some ⟨h, 0, none⟩), evV v (.slice A q c)] w (AP w h o (K + 1) (z.addE v) (z.addH v)) := by
  by_cases k1 : v.kind = 1
  · exact add_begin H hK k1
  · by_cases ht : v.t < 1 ∨ (z.tx.length : Int) < v.t
    · have e : z.addE v = false := by unfold HsI.addE; rw [if_neg k1, if_pos ht]
      rw [e]
      exact (add_out H hK k1 ht).mono fun e w' p => AP.no p.1 p.2
    · have ht' : 1 ≤ v.t ∧ v.t ≤ z.tx.length := by omega
      by_cases k2 : v.kind = 2
      · obtain ⟨r, hr⟩ : ∃ r, (decide ((z.at' (v.t - 1).toNat).state = 1) && decide ((z.at' (v.t - 1).toNat).stop = 0)) = r := ⟨_, rfl⟩
        have e : z.addE v = r := by unfold HsI.addE; rw [if_neg k1, if_neg ht]; dsimp only; rw [if_pos k2]; exact hr
        have e2 : z.addH v = z := by unfold HsI.addH; rw [if_neg k1]; dsimp only; rw [if_neg (by omega), if_neg (by omega), if_neg (by omega), if_neg (by omega)]
        rw [e, e2]
        refine (add_op H hK k2 ht' r hr).mono fun e w' p => ⟨p.1, fun _ => ⟨o, B, va, (H.quiet p.2).up (Nat.le_succ _), p.2.mono (fun _ e => e.elim), fun g hg => .inl hg⟩, fun _ => p.2⟩
      · by_cases k3 : v.kind = 3
        · refine (add_prep H hK k3 h64 ht' _ rfl _ rfl).mono fun e w' p => ?_
          have e1 : z.addE v = ((decide ((z.at' (v.t - 1).toNat).state = 1) && decide ((z.at' (v.t - 1).toNat).stop = 0)) && decide (z.last < v.n)) := by unfold HsI.addE; rw [if_neg k1, if_neg ht]; dsimp only; rw [if_neg k2, if_pos k3]
          have e2 : z.addH v = { z.put (v.t - 1).toNat { z.at' (v.t - 1).toNat with stop := v.n } with last := v.n } := by unfold HsI.addH; rw [if_neg k1]; dsimp only; rw [if_pos k3]
          rw [e1, e2]; exact p
        · by_cases k4 : v.kind = 4
          · refine (add_bond H hK k4 h64 ht' _ rfl _ rfl).mono fun e w' p => ?_
            have e1 : z.addE v = (decide ((z.at' (v.t - 1).toNat).state = 1) && (decide (1 ≤ v.n) && decide (v.n ≤ z.tx.length) && (decide ((v.t - 1).toNat ≠ (v.n - 1).toNat) && decide ((z.at' (v.n - 1).toNat).state ≠ 4) && !(decide ((z.at' (v.t - 1).toNat).stop ≠ 0) && decide ((z.at' (v.t - 1).toNat).stop ≤ (z.at' (v.n - 1).toNat).stop))))) := by unfold HsI.addE; rw [if_neg k1, if_neg ht]; dsimp only; rw [if_neg k2, if_neg k3, if_pos k4]
            have e2 : z.addH v = z.put (v.t - 1).toNat { z.at' (v.t - 1).toNat with bonds := (z.at' (v.t - 1).toNat).bonds ++ [(v.n - 1).toNat] } := by unfold HsI.addH; rw [if_neg k1]; dsimp only; rw [if_neg k3, if_pos k4]
            rw [e1, e2]; exact p
          · by_cases k5 : v.kind = 5
            · refine (add_done H hK k5 h64 ht' _ rfl _ rfl).mono fun e w' p => ?_
              have e1 : z.addE v = ((z.free (v.t - 1).toNat && decide ((z.at' (v.t - 1).toNat).stop ≠ 0)) && decide ((z.at' (v.t - 1).toNat).state = 1)) := by unfold HsI.addE; rw [if_neg k1, if_neg ht]; dsimp only; rw [if_neg k2, if_neg k3, if_neg k4, if_pos k5]
              have e2 : z.addH v = z.put (v.t - 1).toNat { z.at' (v.t - 1).toNat with state := 3 } := by unfold HsI.addH; rw [if_neg k1]; dsimp only; rw [if_neg k3, if_neg k4, if_pos k5]
              rw [e1, e2]; exact p
            · by_cases k6 : v.kind = 6
              · refine (add_gone H hK k6 ht' _ rfl _ rfl).mono fun e w' p => ?_
                have e1 : z.addE v = decide ((z.at' (v.t - 1).toNat).state = 1) := by unfold HsI.addE; rw [if_neg k1, if_neg ht]; dsimp only; rw [if_neg k2, if_neg k3, if_neg k4, if_neg k5, if_pos k6]
                have e2 : z.addH v = z.put (v.t - 1).toNat { z.at' (v.t - 1).toNat with state := 4 } := by unfold HsI.addH; rw [if_neg k1]; dsimp only; rw [if_neg k3, if_neg k4, if_neg k5, if_pos k6]
                rw [e1, e2]; exact p
              · have e : z.addE v = false := by unfold HsI.addE; rw [if_neg k1, if_neg ht]; dsimp only; rw [if_neg k2, if_neg k3, if_neg k4, if_neg k5, if_neg k6]
                rw [e]
                exact (add_bad H hK (by omega) ht').mono fun e w' p => AP.no p.1 p.2
end
end Go.Proofs.YtalkfnblnlcklaaDoor
