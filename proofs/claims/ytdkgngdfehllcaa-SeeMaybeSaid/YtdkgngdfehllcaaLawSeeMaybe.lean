/- Proved here: vinculumlaw7.SeeMaybe returns true and leaves its arguments as they were, for every kind, every number, anyone who looks, any time, and whatever is told of transactions; no further condition. -/
import Derived.Test.YtdkgngdfehllcaaSeeM
import Derived.Test.YtdkgngdfehllcaaSeeF
import Derived.ChangeOld
import Derived.Deep.CutRange
import Derived.Deep.QuietTactic
import Derived.BigQuiet
import Derived.BigRegion
namespace Go.Proofs.Ytdkgngdfehllcaa.seeMaybe
open Go.ChangeShapes Go.WideShapes Go.ChangeAt Go.RowKit
set_option linter.unusedVariables false

theorem start (w : World) (A : Option Addr) (n c : Nat) (f : Nat → Ot) (h : IsOth w A n c f) : Below w.heap.size w (w.alloc (.cells #[.slice A n c] 32)) ∧ Told w.heap.size A n c f (w.alloc (.cells #[.slice A n c] 32)) := by
  have k := (Keep.alloc (Keep.refl (fun _ => False) w) (.cells #[.slice A n c] 32)).below (Nat.le_refl _) (by simp)
  exact ⟨k, by simp, h.below k⟩
theorem look_some {f : Nat → Ot} {n : Nat} {x : Int} {X : Tx} (h : lookL f n x = some X) : ∃ j : Nat, x = (j : Int) + 1 ∧ j < n ∧ (f j).th = true ∧ (f j).x = X := by
  unfold lookL at h
  split at h
  · rename_i z
    refine ⟨(x - 1).toNat, by omega, by omega, z.2.2, by simpa using h⟩
  · cases h
/-- A variable of its own for the copy. -/
theorem box (w : World) (v u : Value) : ∃ W, (w.alloc (.cells #[u] 32)).setCell ⟨w.heap.size, 0, none⟩ v = W ∧ W.cell? ⟨w.heap.size, 0, none⟩ = some v ∧ Below w.heap.size w W ∧ w.heap.size < W.heap.size := by
  refine ⟨_, rfl, ?_, ?_, ?_⟩
  · exact World.cell?_setCell_same _ _ _ (show (w.alloc (.cells #[u] 32)).cell? ⟨w.heap.size, 0, none⟩ = some u by simp)
  · exact (((Keep.alloc (Keep.refl (fun j => j = w.heap.size) w) (.cells #[u] 32))).setCell (p := ⟨w.heap.size, 0, none⟩) rfl v).below (Nat.le_refl _) (by omega)
  · simp
theorem upd_upd (L : Int → Option Tx) (x : Int) (X Y : Tx) : upd (upd L x X) x Y = upd L x Y := by
  funext id
  unfold upd
  split <;> rfl
theorem fit_put {f : Nat → Ot} {n j : Nat} {s : Int} (h : ∀ i, i < n → TxFit (f i).x) (hj : j < n) (h0 : 0 ≤ s) (h1 : s ≤ 5) : ∀ i, i < n → TxFit (putF f j { (f j).x with st := s } i).x := by
  intro i hi
  unfold putF
  split
  · have := h j hj
    exact ⟨this.l0, this.l1, by dsimp only; omega, by dsimp only; omega, this.b0, this.b1, this.e0, this.e1⟩
  · exact h i hi
/-- The state of one of the copy is stored. -/
theorem put_any {W : World} {g n c M j : Nat} {f : Nat → Ot} {v : Value} (oo : OwnO W (.slice (some ⟨g, 0, none⟩) n c) f n) (cM : W.cell? ⟨M, 0, none⟩ = some v) (hM : M ≠ g) (hj : j < n) (s : Int) :
    ∃ W2, (W.setCell ⟨g, j * 5 + 1 + 1, none⟩ (.int .i64 s)).drew = W2 ∧ OwnO W2 (.slice (some ⟨g, 0, none⟩) n c) (putF f j { (f j).x with st := s }) n ∧ W2.cell? ⟨M, 0, none⟩ = some v ∧ Keep (fun k => k = g) W W2 := by
  have k : Keep (fun k => k = g) W (W.setCell ⟨g, j * 5 + 1 + 1, none⟩ (.int .i64 s)).drew := (Keep.setCell (Keep.refl (fun k => k = g) W) (p := ⟨g, j * 5 + 1 + 1, none⟩) rfl _).drew
  exact ⟨_, rfl, OwnM.keep (oo.put j hj s) (drewN_keep (fun _ => False) _ 1) (by simp), k.cell cM hM, k⟩
theorem st_at {W : World} {g n c j : Nat} {f : Nat → Ot} (oo : OwnO W (.slice (some ⟨g, 0, none⟩) n c) f n) (hj : j < n) : W.cell? ⟨g, j * 5 + 2, none⟩ = some (.int .i64 (f j).x.st) := by
  have := OwnM.cell othC_len oo j 2 (by rw [rowF_len]; exact hj) (by omega)
  rw [rowF_get] at this
  simpa [othC] using this
set_option maxRecDepth 100000 in
set_option maxHeartbeats 8000000 in
theorem walk (a0 a1 a2 a3 a4 a5 : Int) (A : Option Addr) (n c : Nat) (f : Nat → Ot) (w : World) (w0 : (Lit.int .i64 a0).wf = true) (w1 : (Lit.int .u64 a1).wf = true) (w2 : (Lit.int .i64 a2).wf = true) (w3 : (Lit.int .u64 a3).wf = true) (w4 : (Lit.int .i64 a4).wf = true) (w5 : (Lit.int .u64 a5).wf = true) (w6 : IsOth w A n c f) :
    Calls Try.prog 8 #[.int .i64 a0, .int .u64 a1, .int .i64 a2, .int .u64 a3, .int .i64 a4, .int .u64 a5, .slice A n c] w fun e w' => e = .returned (.bool true) ∧ Below w.heap.size w w' := by
  obtain ⟨p0, p1⟩ := bounds_u64 w1
  obtain ⟨q0, q1⟩ := bounds_u64 w3
  have hcap := w6.cap
  have hmax := w6.max
  have hfit := w6.ok
  obtain ⟨hB, hT⟩ := start w A n c f w6
  by_cases hn : 20 < n
  · have d1 : decide (20 < n) = true := decide_eq_true hn
    go_enter Try.func8, Try.ntmps8
    go_wp2_with fail
    refine (awake7_any _).mono ?_
    rintro e z2 ⟨rfl, b2⟩
    go_wp2
    go_ret
    exact ⟨rfl, thru hB b2⟩
  · have d1 : decide (20 < n) = false := decide_eq_false hn
    have hb := wordI_b a0 a1 p0 p1
    have he := wordI_b a2 a3 q0 q1
    have hW1 := word7_any a0 a1 p0 p1
    have hW2 := word7_any a2 a3 q0 q1
    obtain ⟨b, eb⟩ : ∃ b, wordI a0 a1 = b := ⟨_, rfl⟩
    obtain ⟨e', ee⟩ : ∃ e, wordI a2 a3 = e := ⟨_, rfl⟩
    rw [eb] at hb hW1
    rw [ee] at he hW2
    obtain ⟨⟨v, zs⟩, eS⟩ : ∃ r, seeI (lookL f n) b e' a4 a5 = r := ⟨_, rfl⟩
    have hz : zs.length ≤ 1 := by have := see_len (lookL f n) b e' a4 a5; rw [eS] at this; exact this
    clear eb ee w0 w1 w2 w3 w4 w5 p0 p1 q0 q1
    match zs, hz with
    | [], _ =>
      go_enter Try.func8, Try.ntmps8
      go_wp2_with fail
      refine (hW1 _).mono ?_
      rintro e z0 ⟨rfl, rfl⟩
      go_wp2_with fail
      refine (hW2 _).mono ?_
      rintro e z0 ⟨rfl, rfl⟩
      have c0 := hT.v
      go_wp2_with fail
      refine (psee_to (looks_maybe _ _ _ _ _) hT b e' a4 a5 v [] eS hb.1 hb.2 he.1 he.2).mono ?_
      rintro e z1 ⟨A5, k5, rfl, o5, b1⟩
      go_wp2_with fail
      refine (awake7_any _).mono ?_
      rintro e z2 ⟨rfl, b2⟩
      go_wp2
      go_ret
      exact ⟨rfl, thru (thru hB b1) b2⟩
    | [x], _ =>
      obtain ⟨X, hX, s2, e0, et, v3, h3, h4⟩ := see_hang eS
      obtain ⟨j, rfl, hj, hth, rfl⟩ := look_some hX
      have n0 : 0 < n := by omega
      obtain ⟨bb, off, rfl, hbb, hc⟩ := w6.cell n0
      have v3b : (v == 3) = false := by simpa using v3
      have d2 : decide ((j : Int) + 1 < 1) = false := decide_eq_false (by omega)
      have d3 : decide (n < j + 1) = false := decide_eq_false (by omega)
      have d3b : decide ((n : Int) < (j : Int) + 1) = false := decide_eq_false (by omega)
      have wj : IntKind.i64.wrap ((j : Int) + 1 - 1) = j := by rw [IntWalk.i64_in _ (by omega)]; omega
      have d4 : decide (a5 < (f j).x.e) = false := decide_eq_false (by omega)
      have s2b : ((f j).x.st != 2) = false := by simpa using s2
      have hs3 : seeI (lookL (putF f j { (f j).x with st := 3 }) n) b e' a4 a5 = (v, []) := by rw [look_put f n j _ hj hth]; exact h3 _ rfl rfl
      have th3 : (putF f j { (f j).x with st := 3 } j).th = true := by unfold putF; rw [if_pos rfl]; exact hth
      have fit3 := fit_put (s := 3) hfit hj (by omega) (by omega)
      have hs4 : b = e' ∨ (seeI (lookL (putF (putF f j { (f j).x with st := 3 }) j { (putF f j { (f j).x with st := 3 } j).x with st := 4 }) n) b e' a4 a5).1 ≠ v := by
        rw [look_put _ n j _ hj th3, look_put f n j _ hj hth, upd_upd]
        exact h4 _ rfl
      have fit4 := fit_put (s := 4) fit3 hj (by omega) (by omega)
      obtain ⟨f3, e3⟩ : ∃ f3, putF f j { (f j).x with st := 3 } = f3 := ⟨_, rfl⟩
      rw [e3] at hs3 fit3 hs4 fit4
      obtain ⟨f4, e4⟩ : ∃ f4, putF f3 j { (f3 j).x with st := 4 } = f4 := ⟨_, rfl⟩
      rw [e4] at hs4 fit4
      obtain ⟨⟨d, ds⟩, eD⟩ : ∃ r, seeI (lookL f4 n) b e' a4 a5 = r := ⟨_, rfl⟩
      rw [eD] at hs4
      have E3 := Lib.hid e3
      have E4 := Lib.hid e4
      clear e3 e4 th3 h3 h4
      go_enter Try.func8, Try.ntmps8
      go_wp2_with fail
      refine (hW1 _).mono ?_
      rintro e z0 ⟨rfl, rfl⟩
      go_wp2_with fail
      refine (hW2 _).mono ?_
      rintro e z0 ⟨rfl, rfl⟩
      have c0 := hT.v
      go_wp2_with fail
      generalize w.alloc (Obj.cells #[Value.slice (some ⟨bb, off, none⟩) n c] 32) = W0 at hB hT c0 ⊢
      generalize w.heap.size = G at hT c0 ⊢
      refine (psee_one (looks_maybe _ _ _ _ _) hT b e' a4 a5 v _ eS hb.1 hb.2 he.1 he.2).mono ?_
      rintro e z1 ⟨go, k5, rfl, o5, co, hgo, b1⟩
      have hT1 := hT.below b1
      have c1 := hT1.v
      obtain ⟨bb', off', ea, _, hc1⟩ := hT1.o.cell n0
      simp at ea
      obtain ⟨rfl, rfl⟩ := ea
      obtain ⟨_, _, t2, _, t4⟩ := hc1 j hj
      clear c0 hc
      go_wp2
      go_quiet (fail)
      have bz : Below z1.heap.size z1 (z1.drewN nq) := below_drewN (Below.refl _ _) nq
      generalize z1.drewN nq = z2 at bz ⊢
      have hT2 := hT1.below bz
      have sz := bz.size
      have co2 := (bz.cell (p := ⟨go, 0, none⟩) (lt_of_cell co)).trans co
      have kA := Keep.alloc (Keep.refl (fun _ => False) z2) (.cells #[] 47)
      have cA := kA.cell hT2.v (by simp)
      clear hT1 c1 t2 t4 hc1
      go_wp2_with (with_reducible refine wp_stop 100 rfl ?_)
      intro _
      refine wp_copy rfl (.tmp 98) (.tmp 99) rfl _ n c f hT2.o n0 (by omega) rfl rfl ?_
      intro g c' w' oo bA gg gl
      have bz := thru bz bA
      clear kA cA
      obtain ⟨W1, eW, cM, bW, lW⟩ := box w' (.slice (some ⟨g, 0, none⟩) n c') (.slice none 0 0)
      go_upto_region 10 with fail
      have bz := thru bz bW
      have co1 := (bz.cell (p := ⟨go, 0, none⟩) (lt_of_cell co)).trans co
      have oo1 : OwnO W1 (.slice (some ⟨g, 0, none⟩) n c') f n := OwnM.keep oo (Keep.of_below bW (fun _ => False)) (by simp)
      generalize w'.heap.size = M at cM gl lW ⊢
      have t2 := st_at oo1 hj
      have fz := OwnM.free oo1 (j * 5 + 2)
      clear bA bW oo eW hT2 co2
      have gz : go < z1.heap.size := lt_of_cell co
      have hMg : M ≠ g := by omega
      have bz1 := bz.size
      have goG : go ≠ g := by omega
      go_region
      obtain ⟨W2, eW2, oo2, cM2, k2⟩ := put_any oo1 cM hMg hj 3
      rw [E3.out] at oo2
      have co2 := k2.cell co1 goG
      have k2 := (Keep.of_below bz (fun k => k = g)).trans k2
      have hT2 : Told M (some ⟨g, 0, none⟩) n c' f3 W2 := ⟨cM2, oo2.oth fit3⟩
      clear co1 cM oo1 t2 fz
      go_upto_region 11 with fail
      rw [eW2]
      clear eW2
      go_wp2_with fail
      refine (psee_to (looks_maybe2 _ _ _ _ _) hT2 b e' a4 a5 v [] hs3 hb.1 hb.2 he.1 he.2).mono ?_
      rintro e z3 ⟨A6, c6, rfl, o6, b3⟩
      have cM3 := (b3.cell (p := ⟨M, 0, none⟩) (lt_of_cell cM2)).trans cM2
      have co3 := (b3.cell (p := ⟨go, 0, none⟩) (lt_of_cell co2)).trans co2
      have oo3 := OwnM.keep oo2 (Keep.of_below b3 (fun _ => False)) (by simp)
      have k3 := k2.trans (Keep.of_below b3 (fun k => k = g))
      have t3 := st_at oo3 hj
      have fz3 := OwnM.free oo3 (j * 5 + 2)
      clear hT2 cM2 co2 oo2 k2
      go_upto_region 14 with fail
      go_region
      obtain ⟨W4, eW4, oo4, cM4, k4⟩ := put_any oo3 cM3 hMg hj 4
      rw [E4.out] at oo4
      have k4 := k3.trans k4
      have hT4 : Told M (some ⟨g, 0, none⟩) n c' f4 W4 := ⟨cM4, oo4.oth fit4⟩
      clear co3 cM3 oo3 t3 fz3 k3
      go_upto_region 15 with fail
      rw [eW4]
      clear eW4
      go_wp2_with fail
      refine (psee_to (looks_maybe3 _ _ _ _ _) hT4 b e' a4 a5 d ds eD hb.1 hb.2 he.1 he.2).mono ?_
      rintro e z5 ⟨A7, c7, rfl, o7, b5⟩
      have k5 := k4.trans (Keep.of_below b5 (fun k => k = g))
      have fin := thru (thru hB b1) (k5.below (Nat.le_refl _) (fun k hk => by omega))
      clear hT4 cM4 oo4 k4 hs3 eD eS
      by_cases hbe : b = e'
      · have q1 : (b == e') = true := by simpa using hbe
        go_wp2_with fail; refine (awake7_any _).mono ?_; rintro e z6 ⟨rfl, b6⟩; go_wp2; go_ret; exact ⟨rfl, thru fin b6⟩
      · have q1 : (b == e') = false := by simpa using hbe
        have q2 : (d != v) = true := by simpa using hs4.resolve_left hbe
        go_wp2_with fail; refine (awake7_any _).mono ?_; rintro e z6 ⟨rfl, b6⟩; go_wp2; go_ret; exact ⟨rfl, thru fin b6⟩
theorem own : ownKnob Try.prog.godebug = none := by kernel_rfl
theorem laidOut : laidOutB Try.prog = true := by kernel_rfl
set_option maxRecDepth 100000 in
theorem lifted (os : Os) (started : os.Started) (H : Type) (enc : TypeId × Value → H) :
    ReturnsInHanded {} Try.checked os 8 .any (Rows.seeMaybeSpec.pre6 enc Try.prog Try.f8 Rows.seeMaybeRow.domain false) (Rows.seeMaybeSpec.post enc Try.prog Try.f8 false true false false) := by
  refine returnsInHanded_of_change (C := Try.checked) own started (by kernel_rfl) Try.func8
    (ChangeSpec.witness6 (enc := enc) (C := Try.checked) false ⟨#[], #[.int .i64 0, .int .u64 0, .int .i64 0, .int .u64 0, .int .i64 0, .int .u64 0, .slice none 0 0], []⟩ 8 (by kernel_rfl) (by kernel_rfl) (by kernel_rfl) (by kernel_rfl)) ?_
  intro W base args ds gs before hval0 hW hcnd _
  have hval : ∀ (j : Nat) t v, Try.f8.params[j]? = some t → args[j]? = some v → Value.okWide Try.prog W .any base t v := hval0
  have hW' := hW
  obtain ⟨p, q, hA0, hV, rfl, hfz, hnd⟩ := hW
  have hA : DataW.TrodAll enc Try.prog W 0 (fun _ => true) true Try.f8.params.toList args.toList ds p := hA0
  rw [Try.params8] at hA hval
  obtain ⟨v0, vs0, d0, ds0, p0, q0, hargs, rfl, rfl, h0, r0⟩ := trodAll_cons hA
  obtain ⟨v1, vs1, d1, ds1, p1, q1, rfl, rfl, rfl, h1, r1⟩ := trodAll_cons r0
  obtain ⟨v2, vs2, d2, ds2, p2, q2, rfl, rfl, rfl, h2, r2⟩ := trodAll_cons r1
  obtain ⟨v3, vs3, d3, ds3, p3, q3, rfl, rfl, rfl, h3, r3⟩ := trodAll_cons r2
  obtain ⟨v4, vs4, d4, ds4, p4, q4, rfl, rfl, rfl, h4, r4⟩ := trodAll_cons r3
  obtain ⟨v5, vs5, d5, ds5, p5, q5, rfl, rfl, rfl, h5, r5⟩ := trodAll_cons r4
  obtain ⟨v6, vs6, d6, ds6, p6, q6, rfl, rfl, rfl, h6, r6⟩ := trodAll_cons r5
  obtain ⟨rfl, rfl, rfl⟩ := trodAll_nil r6
  obtain rfl : args = #[v0, v1, v2, v3, v4, v5, v6] := by cases args; simp_all
  obtain ⟨rfl, rfl⟩ := trodVars_none hV
  obtain ⟨a0, rfl, rfl, rfl, w0⟩ := open_int Try.underlying3 (hval 0 3 v0 rfl rfl) h0
  obtain ⟨a1, rfl, rfl, rfl, w1⟩ := open_int Try.underlying22 (hval 1 22 v1 rfl rfl) h1
  obtain ⟨a2, rfl, rfl, rfl, w2⟩ := open_int Try.underlying3 (hval 2 3 v2 rfl rfl) h2
  obtain ⟨a3, rfl, rfl, rfl, w3⟩ := open_int Try.underlying22 (hval 3 22 v3 rfl rfl) h3
  obtain ⟨a4, rfl, rfl, rfl, w4⟩ := open_int Try.underlying3 (hval 4 3 v4 rfl rfl) h4
  obtain ⟨a5, rfl, rfl, rfl, w5⟩ := open_int Try.underlying22 (hval 5 22 v5 rfl rfl) h5
  obtain ⟨a6, len6, cap6, rfl⟩ := okWide_slice Try.underlying32 (hval 6 32 v6 rfl rfl)
  have k6 := h6
  have lt6 : ∀ x ∈ p6, x.block < W.heap.size := by obtain ⟨m, hm⟩ := k6; exact DataW.trod_lt m _ _ _ hm
  obtain ⟨z6, w6⟩ : ∃ f, IsOth W a6 len6 cap6 f := is_oth h6
  clear hA0 hval0
  refine (walk a0 a1 a2 a3 a4 a5 a6 len6 cap6 z6 W w0 w1 w2 w3 w4 w5 w6).mono fun e W' ⟨he, bel⟩ => ?_
  subst he
  exact ⟨_, rfl, _, _, _, [], _, [], hW', trodAll_mk1 (shut_bool Try.underlying4 _), (trodAll_cons_mk (shut_int Try.underlying3 w0) (trodAll_cons_mk (shut_int Try.underlying22 w1) (trodAll_cons_mk (shut_int Try.underlying3 w2) (trodAll_cons_mk (shut_int Try.underlying22 w3) (trodAll_cons_mk (shut_int Try.underlying3 w4) (trodAll_cons_mk (shut_int Try.underlying22 w5) (trodAll_cons_mk (Below.trod laidOut (by kernel_rfl) (of_decide_eq_true (by kernel_rfl)) k6 bel lt6) trodAll_mk0))))))), rfl, bel.frame _, fun h => by cases h⟩
theorem over : Rows.seeMaybeRow.holds Try.pinned (OpenSpec.ofChange Rows.seeMaybeSpec) :=
  OpenClaim.holds_of_wide 8 Try.f8 rfl rfl rfl rfl rfl rfl rfl ⟨rfl, rfl, rfl, rfl, rfl⟩ rfl rfl rfl rfl rfl (by kernel_rfl) Try.func8 (by kernel_rfl)
    (of_decide_eq_true (by kernel_rfl)) (by unfold Func.isWrapper; first | (rw [if_pos (by decide +kernel)]; kernel_rfl) | (rw [if_neg (by decide +kernel)]; exact ⟨rfl, rfl⟩))
    (fun os started H enc _ => lifted os started H enc)
theorem proved : Rows.SeeMaybeSaid := over
end Go.Proofs.Ytdkgngdfehllcaa.seeMaybe
