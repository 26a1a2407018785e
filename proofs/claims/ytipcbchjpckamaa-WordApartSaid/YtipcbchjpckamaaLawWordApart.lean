/- Proved here: vinculumlaw1.WordApart returns true and leaves its arguments as they were, for any two times, transactions and links: every two uint64 and every four ints, cut down by the law itself; no further condition. -/
import Derived.Test.YtipcbchjpckamaaStamp
import Derived.ChangeOld
namespace Go.Proofs.Ytipcbchjpckamaa.wordApart
open Go.ChangeShapes Go.WideShapes Go.ChangeAt Go.RowKit
set_option linter.unusedVariables false

theorem link_inj (s t : Int) (s0 : 0 ≤ s) (s1 : s ≤ 65535) (t0 : 0 ≤ t) (t1 : t ≤ 65535) : (linkI s t == linkI t s) = (s == t) := by
  unfold linkI; rw [Bool.eq_iff_iff]; simp; omega
set_option maxHeartbeats 1000000 in
theorem walk (a0 : Int) (a1 : Int) (a2 : Int) (a3 : Int) (a4 : Int) (a5 : Int) (w : World) (w0 : (Lit.int .u64 a0).wf = true) (w1 : (Lit.int .u64 a1).wf = true) (w2 : (Lit.int .i64 a2).wf = true) (w3 : (Lit.int .i64 a3).wf = true) (w4 : (Lit.int .i64 a4).wf = true) (w5 : (Lit.int .i64 a5).wf = true) :
    Calls Try.prog 8 #[.int .u64 a0, .int .u64 a1, .int .i64 a2, .int .i64 a3, .int .i64 a4, .int .i64 a5] w fun e w' => e = .returned (.bool true) ∧ Below w.heap.size w w' := by
  obtain ⟨p0, p1⟩ := bounds_u64 w0
  obtain ⟨q0, q1⟩ := bounds_u64 w1
  have ha := u64_mask40 a0 p0 p1
  have hb := u64_mask40 a1 q0 q1
  have hi := i64_mask16 a2
  have hk := i64_mask16 a3
  have hs := i64_mask16 a4
  have ht := i64_mask16 a5
  obtain ⟨a, ea⟩ : ∃ x, a0 % 1099511627776 = x := ⟨_, rfl⟩
  obtain ⟨b, eb⟩ : ∃ x, a1 % 1099511627776 = x := ⟨_, rfl⟩
  obtain ⟨i, ei⟩ : ∃ x, a2 % 65536 = x := ⟨_, rfl⟩
  obtain ⟨k, ek⟩ : ∃ x, a3 % 65536 = x := ⟨_, rfl⟩
  obtain ⟨s, es⟩ : ∃ x, a4 % 65536 = x := ⟨_, rfl⟩
  obtain ⟨t, et⟩ : ∃ x, a5 % 65536 = x := ⟨_, rfl⟩
  rw [ea] at ha
  rw [eb] at hb
  rw [ei] at hi
  rw [ek] at hk
  rw [es] at hs
  rw [et] at ht
  have a00 : 0 ≤ a := by omega
  have a01 : a ≤ 1099511627775 := by omega
  have b00 : 0 ≤ b := by omega
  have b01 : b ≤ 1099511627775 := by omega
  have i00 : 0 ≤ i := by omega
  have i01 : i ≤ 65535 := by omega
  have k00 : 0 ≤ k := by omega
  have k01 : k ≤ 65535 := by omega
  have s0 : 0 ≤ s := by omega
  have s1 : s ≤ 65535 := by omega
  have t0 : 0 ≤ t := by omega
  have t1 : t ≤ 65535 := by omega
  clear ea eb ei ek es et
  obtain ⟨ii, hii⟩ : ∃ x, i % 65535 + 1 = x := ⟨_, rfl⟩
  obtain ⟨kk, hkk⟩ : ∃ x, k % 65535 + 1 = x := ⟨_, rfl⟩
  have ii0 : 1 ≤ ii := by omega
  have ii1 : ii ≤ 65535 := by omega
  have kk0 : 1 ≤ kk := by omega
  have kk1 : kk ≤ 65535 := by omega
  obtain ⟨x, hx⟩ : ∃ x, txnW ii = x := ⟨_, rfl⟩
  obtain ⟨y, hy⟩ : ∃ x, txnW kk = x := ⟨_, rfl⟩
  have xe : x = 4611686018427387904 + ii := by rw [← hx]; unfold txnW; rw [if_pos ⟨ii0, ii1⟩]
  have ye : y = 4611686018427387904 + kk := by rw [← hy]; unfold txnW; rw [if_pos ⟨kk0, kk1⟩]
  have bi : txnB ii = true := decide_eq_true ⟨ii0, ii1⟩
  have bk : txnB kk = true := decide_eq_true ⟨kk0, kk1⟩
  have hxy : (x == y) = (ii == kk) := by rw [xe, ye, Bool.eq_iff_iff]; simp
  have n1 : (a != x) = true := bne_iff_ne.mpr (by omega)
  have n2 : (a != 2305843009213693952) = true := bne_iff_ne.mpr (by omega)
  have n3 : (x != 2305843009213693952) = true := bne_iff_ne.mpr (by omega)
  have ta := timeW_yes a (by omega)
  have tb := timeW_yes b (by omega)
  have ba := timeB_yes a (by omega)
  have bb := timeB_yes b (by omega)
  have hst := link_inj s t s0 s1 t0 t1
  obtain ⟨l, el, l0, l1, -⟩ := link_facts s t s0 s1 t0 t1
  obtain ⟨m, em, m0, m1, -⟩ := link_facts t s t0 t1 s0 s1
  rw [el, em] at hst
  have n4 : (l != 0) = true := bne_iff_ne.mpr (by omega)
  have x0 : 0 ≤ x := by omega
  have x1 : x ≤ 18446744073709551615 := by omega
  clear xe ye
  go_enter Try.func8, Try.ntmps8
  go_wp2_with (first | (go_at_call 17; refine (foreverw_any _).mono ?_; rintro e w' ⟨rfl, rfl⟩) | (go_at_call 14; refine (timew_any _ (by omega) (by omega) _).mono ?_; rintro e w' ⟨rfl, rfl⟩) | (go_at_call 15; refine (txnw_any _ (by omega) (by omega) _).mono ?_; rintro e w' ⟨rfl, rfl⟩) | (go_at_call 9; refine (linkw_ok _ _ (by omega) (by omega) (by omega) (by omega) _).mono ?_; rintro e w' ⟨rfl, rfl⟩) | (go_at_call 13; refine (awake1_any _).mono ?_; rintro e w' ⟨rfl, bel⟩))
  go_ret
  exact ⟨rfl, bel⟩
theorem own : ownKnob Try.prog.godebug = none := by kernel_rfl
theorem laidOut : laidOutB Try.prog = true := by kernel_rfl
set_option maxRecDepth 100000 in
theorem lifted (os : Os) (started : os.Started) (H : Type) (enc : TypeId × Value → H) :
    ReturnsInHanded {} Try.checked os 8 .any (Rows.wordApartSpec.pre6 enc Try.prog Try.f8 Rows.wordApartRow.domain false) (Rows.wordApartSpec.post enc Try.prog Try.f8 false true false false) := by
  refine returnsInHanded_of_change (C := Try.checked) own started (by kernel_rfl) Try.func8
    (ChangeSpec.witness6 (enc := enc) (C := Try.checked) false ⟨#[], #[.int .u64 0, .int .u64 0, .int .i64 0, .int .i64 0, .int .i64 0, .int .i64 0], []⟩ 8 (by kernel_rfl) (by kernel_rfl) (by kernel_rfl) (by kernel_rfl)) ?_
  intro W base args ds gs before hval0 hW hcnd _
  have hval : ∀ (j : Nat) t v, Try.f8.params[j]? = some t → args[j]? = some v → Value.okWide Try.prog W .any base t v := hval0
  have hW' := hW
  obtain ⟨p, q, hA0, hV, rfl, hfz, hnd⟩ := hW
  have hA : DataW.TrodAll enc Try.prog W 0 (fun _ => true) true Try.f8.params.toList args.toList ds p := hA0
  rw [Try.params8] at hA hval
  obtain ⟨v0, vs0, d0, ds0, p0, q0, hargs, rfl, rfl, h0, r0⟩ := trodAll_cons hA
  obtain ⟨v1, vs1, d1, ds1, p1, q1, rfl, rfl, rfl, h1, r1⟩ := trodAll_cons r0
  obtain ⟨v2, vs2, d2, ds2, p2, q2, rfl, rfl, rfl, h2, r2⟩ := trodAll_cons r1
  obtain ⟨v3, vs3, d3, ds3, p3, q3, rfl, rfl, rfl, h3, r3⟩ := trodAll_cons r2
  obtain ⟨v4, vs4, d4, ds4, p4, q4, rfl, rfl, rfl, h4, r4⟩ := trodAll_cons r3
  obtain ⟨v5, vs5, d5, ds5, p5, q5, rfl, rfl, rfl, h5, r5⟩ := trodAll_cons r4
  obtain ⟨rfl, rfl, rfl⟩ := trodAll_nil r5
  obtain rfl : args = #[v0, v1, v2, v3, v4, v5] := by cases args; simp_all
  obtain ⟨rfl, rfl⟩ := trodVars_none hV
  obtain ⟨a0, rfl, rfl, rfl, w0⟩ := open_int Try.underlying22 (hval 0 22 v0 rfl rfl) h0
  obtain ⟨a1, rfl, rfl, rfl, w1⟩ := open_int Try.underlying22 (hval 1 22 v1 rfl rfl) h1
  obtain ⟨a2, rfl, rfl, rfl, w2⟩ := open_int Try.underlying3 (hval 2 3 v2 rfl rfl) h2
  obtain ⟨a3, rfl, rfl, rfl, w3⟩ := open_int Try.underlying3 (hval 3 3 v3 rfl rfl) h3
  obtain ⟨a4, rfl, rfl, rfl, w4⟩ := open_int Try.underlying3 (hval 4 3 v4 rfl rfl) h4
  obtain ⟨a5, rfl, rfl, rfl, w5⟩ := open_int Try.underlying3 (hval 5 3 v5 rfl rfl) h5
  clear hA0 hval0
  refine (walk a0 a1 a2 a3 a4 a5 W w0 w1 w2 w3 w4 w5).mono fun e W' ⟨he, bel⟩ => ?_
  subst he
  exact ⟨_, rfl, _, _, _, [], _, [], hW', trodAll_mk1 (shut_bool Try.underlying4 _), (trodAll_cons_mk (shut_int Try.underlying22 w0) (trodAll_cons_mk (shut_int Try.underlying22 w1) (trodAll_cons_mk (shut_int Try.underlying3 w2) (trodAll_cons_mk (shut_int Try.underlying3 w3) (trodAll_cons_mk (shut_int Try.underlying3 w4) (trodAll_cons_mk (shut_int Try.underlying3 w5) trodAll_mk0)))))), rfl, bel.frame _, fun h => by cases h⟩
theorem over : Rows.wordApartRow.holds Try.pinned (OpenSpec.ofChange Rows.wordApartSpec) :=
  OpenClaim.holds_of_wide 8 Try.f8 rfl rfl rfl rfl rfl rfl rfl ⟨rfl, rfl, rfl, rfl, rfl⟩ rfl rfl rfl rfl rfl (by kernel_rfl) Try.func8 (by kernel_rfl)
    (of_decide_eq_true (by kernel_rfl)) (by unfold Func.isWrapper; first | (rw [if_pos (by decide +kernel)]; kernel_rfl) | (rw [if_neg (by decide +kernel)]; exact ⟨rfl, rfl⟩))
    (fun os started H enc _ => lifted os started H enc)
theorem proved : Rows.WordApartSaid := over
#print axioms proved
end Go.Proofs.Ytipcbchjpckamaa.wordApart
