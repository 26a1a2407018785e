/- Proved here: vinculumlaw19.ModelAxioms returns true and leaves its arguments as they were, for any int, any uint64 and any slice of Acts; no further condition. -/
import Derived.Test.YtalkfnblnlcklaaModelBaseDZbe
import Derived.Test.YtalkfnblnlcklaaModelBaseDZaj
import Derived.Test.YtalkfnblnlcklaaModelBaseDZak
import Derived.Test.YtalkfnblnlcklaaModelBaseDZbf
import Derived.Test.YtalkfnblnlcklaaModelBaseDZah
namespace Go.Proofs.Ytalkfnblnlcklaa.modelAxioms
open Go.ChangeShapes Go.WideShapes Go.ChangeAt Go.RowKit
set_option linter.unusedVariables false
set_option linter.unusedSimpArgs false
theorem mdBase {W W1 w : World} {m : Nat} {S : Nat → Prop} {x : MoI} (h : Md W1 w m S x) (b : Below W.heap.size W W1) : Md W w m S x := ⟨h.gd, fun k hk => Nat.le_trans b.size (h.g k hk), h.lt, b.trans (h.b.mono b.size), h.ld⟩
theorem acts_keep {w w' : World} {A : Option Addr} {n c : Nat} {f : Nat → ActI} {X : Nat → Prop} (h : IsActs w A n c f) (k : Keep X w w') (hX : ∀ b, b < w.heap.size → ¬ X b) : IsActs w' A n c f :=
 ⟨h.cap, h.max, fun hn => by
  obtain ⟨b, off, e, hb, hc⟩ := h.cell hn
  exact ⟨b, off, e, Nat.lt_of_lt_of_le hb k.size, fun j hj => act_keep (hc j hj) k (hX b hb)⟩, h.ok⟩
theorem mask_u8 (n : Int) (h0 : 0 ≤ n) (h1 : n ≤ 18446744073709551615) : bits .and .u64 n 255 = n % 256 := by
 rw [u64_and n 255 h0 (by omega) (by decide) (by decide)]
 show ((n.toNat &&& 255 : Nat) : Int) = _
 rw [show n.toNat &&& 255 = n.toNat % 256 from Nat.and_two_pow_sub_one_eq_mod n.toNat 8]; omega
theorem conf_any (a : Int) (b : Int) (m0 q : Int) (h0 : a % 256 % 40 = m0) (h1 : bits .and .u64 b 255 = q) (h2 : 0 ≤ q ∧ q ≤ 255) (w : World) :
  Calls Try.prog 9 #[.int .i64 a, .int .u64 b] w fun e w' => e = .returned (cfV (m0 + 1) (q + 20)) ∧ Keep (fun _ => False) w w' := by
 obtain ⟨q0, e0, e1, e2, l0, l1, p0, p1, w00, w01⟩ := levN a 40 m0 (by decide) (by decide) h0
 unfold cfV
 clear h0
 go_enter Try.func9, Try.ntmps9
 go_wp2
 first | go_ret | refine bodyPost_ret (v := .agg #[.int .i64 (m0 + 1), .int .u64 (q + 20)]) (by simp [results, Try.results9, go_sem]) rfl ?_
 exact ⟨rfl, by repeat (first | exact Keep.refl _ _ | refine Keep.alloc ?_ _)⟩
set_option maxRecDepth 100000 in
set_option maxHeartbeats 16000000 in
theorem walk (a0 a1 : Int) (a2 : Option Addr) (n2 c2 : Nat) (f2 : Nat → ActI) (w : World) (w0 : (Lit.int .i64 a0).wf = true) (w1 : (Lit.int .u64 a1).wf = true) (w2 : IsActs w a2 n2 c2 f2) :
  Calls Try.prog 4 #[.int .i64 a0, .int .u64 a1, .slice a2 n2 c2] w fun e w' => e = .returned (.bool true) ∧ Below w.heap.size w w' := by
 have u1 := bounds_u64 w1
 obtain ⟨m0, hm0⟩ : ∃ m0, a0 % 256 % 40 = m0 := ⟨_, rfl⟩
 obtain ⟨q, hq⟩ : ∃ q, a1 % 256 = q := ⟨_, rfl⟩
 have hb : bits .and .u64 a1 255 = q := (mask_u8 a1 u1.1 u1.2).trans hq
 have CF := conf_any a0 a1 m0 q hm0 hb (by omega) w
 have hcf : confI (m0 + 1) (q + 20) = true := by unfold confI; exact decide_eq_true (by omega)
 have HB : -1 < q ∧ q ≤ 255 ∧ 0 ≤ m0 ∧ m0 < 40 := by omega
 have HC := Lib.hid hcf
 unfold cfV at CF
 have IA := Lib.hid w2
 clear w0 w1 w2 hm0 hq hb hcf u1
 go_enter Try.func4, Try.ntmps4
 go_wp2_with fail
 refine CF.mono ?_
 rintro e y1 ⟨rfl, k1⟩
 clear CF
 go_wp2_with fail
 refine (md_new _ (m0 + 1) (q + 20) (i64_n (by omega)) ⟨by omega, by omega⟩ HC.out).mono ?_
 rintro e y2 ⟨m, S2, rfl, M2⟩
 have b1 : Below w.heap.size w y1 := k1.below (Nat.le_refl _) (fun _ e => e.elim)
 have M2' := mdBase M2 b1
 have IA2 := acts_keep IA.out (Keep.of_below M2'.b (fun _ => False)) (fun _ _ => id)
 have hb2 : 0 < n2 → ∀ b off, a2 = some ⟨b, off, none⟩ → ¬ S2 b := fun hn b off e c => by
  obtain ⟨b', off', e', hb', _⟩ := IA.out.cell hn
  rw [e'] at e
  cases e
  have := M2.g _ c
  have := k1.size
  omega
 have DC := deals_any M2' (hold_new HC.out) M2'.b.size IA2 hb2 80 (by decide)
 clear M2 M2' b1 k1 IA2 hb2 IA
 go_wp2_with fail
 refine DC.mono ?_
 rintro e y3 ⟨u, S3, x, ds, rfl, O, k, hk, D⟩
 clear DC
 obtain ⟨C, H⟩ := D.hold
 have db := D.sz.dlB (by omega)
 have du := H.al.dlU H.good
 have hd := O.deals
 have RP := fun w1 (k : Keep (fun _ => False) y3 w1) id => repeat_any (hd.keep k) db du id _ rfl
 have HH := holdsall_any hd db du RP 0 H.holds
 obtain ⟨tm, etm⟩ : ∃ t, x.time = t := ⟨_, rfl⟩
 have tb : 0 ≤ tm ∧ tm ≤ 1099511627776 := by have := H.good.time; have := H.good.conf; omega
 obtain ⟨P, eP⟩ : ∃ P, x.pairs tm = P := ⟨_, rfl⟩
 have eS : stateP ds tm (-1) = P := by rw [← eP, ← etm]; exact H.pairs.symm
 have MD := Lib.hid (fun w1 (k : Keep (fun _ => False) y3 w1) => D.md.quiet k)
 have DO5 := Lib.hid O
 have DS := Lib.hid (fun w1 (k : Keep (fun _ => False) y3 w1) => hd.keep k)
 have DB := Lib.hid db
 have WR := Lib.hid H.writers
 have ET := Lib.hid etm
 have EP := Lib.hid eP
 have EST := Lib.hid eS
 have PL := Lib.hid (show P.length ≤ 100000 by rw [← eS]; exact Nat.le_trans (state_len _ _ _) (Nat.le_trans db.o (by decide)))
 clear hd db du RP etm eP eS H D O
 go_wp2_with fail
 refine HH.mono ?_
 rintro e y4 ⟨rfl, k4⟩
 have KW := Lib.hid k4
 clear HH k4
 go_wp2_with fail
 refine (writers_any (DS.out _ KW.out) DB.out true WR.out).mono ?_
 rintro e y4 ⟨rfl, k4⟩
 have K4 := Lib.hid (KW.out.trans k4)
 clear k4
 go_wp2_with fail
 refine (md_nowQ (MD.out _ K4.out) tm ET.out).mono ?_
 rintro e w' ⟨rfl, rfl⟩
 go_wp2_with fail
 refine (md_pairs (MD.out _ K4.out) tm ⟨by omega, by omega⟩ P EP.out).mono ?_
 rintro e y5 ⟨u5, S5, rfl, o5, n5, M5, k5⟩
 have D5 := ((DO5.out.quiet K4.out).step k5).deals
 have DS5 := Lib.hid D5
 have M5' := Lib.hid M5
 have O5 := Lib.hid o5
 clear o5 n5 M5 k5 D5
 go_wp2_with fail
 refine (md_nowQ M5'.out tm ET.out).mono ?_
 rintro e w' ⟨rfl, rfl⟩
 go_wp2_with fail
 refine (State_any DS5.out DB.out tm ⟨by omega, by omega⟩ P EST.out).mono ?_
 rintro e y6 ⟨u6, rfl, L6, k6⟩
 go_wp2_with fail
 refine (same_any (OwnM.lies prI_len (OwnM.keep O5.out k6 (fun _ _ => id))) L6 PL.out PL.out true (decide_eq_true rfl)).mono ?_
 rintro e y7 ⟨rfl, d7, rfl⟩
 have M7 := Lib.hid (M5'.out.quiet (k6.trans (drewN_keep _ _ d7)))
 clear k6 L6
 go_wp2_with fail
 refine (awake19_any _).mono ?_
 rintro e y8 ⟨rfl, b8⟩
 have B8 := Lib.hid (M7.out.fin b8 (Keep.refl _ _))
 clear b8
 go_wp2
 go_ret
 exact ⟨rfl, B8.out⟩
theorem own : ownKnob Try.prog.godebug = none := by kernel_rfl
theorem laidOut : laidOutB Try.prog = true := by kernel_rfl
set_option maxRecDepth 100000 in
theorem lifted (os : Os) (started : os.Started) (H : Type) (enc : TypeId × Value → H) :
  ReturnsInHanded {} Try.checked os 4 .any (Rows.modelAxiomsSpec.pre6 enc Try.prog Try.f4 Rows.modelAxiomsRow.domain false) (Rows.modelAxiomsSpec.post enc Try.prog Try.f4 false true false false) := by
 refine returnsInHanded_of_change (C := Try.checked) own started (by kernel_rfl) Try.func4
  (ChangeSpec.witness6 (enc := enc) (C := Try.checked) false ⟨#[], #[.int .i64 0, .int .u64 0, .slice none 0 0], []⟩ 8 (by kernel_rfl) (by kernel_rfl) (by kernel_rfl) (by kernel_rfl)) ?_
 intro W base args ds gs before hval0 hW hcnd _
 have hval : ∀ (j : Nat) t v, Try.f4.params[j]? = some t → args[j]? = some v → Value.okWide Try.prog W .any base t v := hval0
 have hW' := hW
 obtain ⟨p, q, hA0, hV, rfl, hfz, hnd⟩ := hW
 have hA : DataW.TrodAll enc Try.prog W 0 (fun _ => true) true Try.f4.params.toList args.toList ds p := hA0
 rw [Try.params4] at hA hval
 obtain ⟨v0, vs0, d0, ds0, p0, q0, hargs, rfl, rfl, h0, r0⟩ := trodAll_cons hA
 obtain ⟨v1, vs1, d1, ds1, p1, q1, rfl, rfl, rfl, h1, r1⟩ := trodAll_cons r0
 obtain ⟨v2, vs2, d2, ds2, p2, q2, rfl, rfl, rfl, h2, r2⟩ := trodAll_cons r1
 obtain ⟨rfl, rfl, rfl⟩ := trodAll_nil r2
 obtain rfl : args = #[v0, v1, v2] := by cases args; simp_all
 obtain ⟨rfl, rfl⟩ := trodVars_none hV
 obtain ⟨a0, rfl, rfl, rfl, w0⟩ := open_int Try.underlying3 (hval 0 3 v0 rfl rfl) h0
 obtain ⟨a1, rfl, rfl, rfl, w1⟩ := open_int Try.underlying27 (hval 1 27 v1 rfl rfl) h1
 obtain ⟨a2, len2, cap2, rfl⟩ := okWide_slice Try.underlying22 (hval 2 22 v2 rfl rfl)
 have k2 := h2
 have lt2 : ∀ x ∈ p2, x.block < W.heap.size := by obtain ⟨m, hm⟩ := k2; exact DataW.trod_lt m _ _ _ hm
 obtain ⟨z2, w2⟩ : ∃ f, IsActs W a2 len2 cap2 f := is_acts h2
 clear hA0 hval0
 refine (walk a0 a1 a2 len2 cap2 z2 W w0 w1 w2).mono fun e W' ⟨he, bel⟩ => ?_
 subst he
 exact ⟨_, rfl, _, _, _, [], _, [], hW', trodAll_mk1 (shut_bool Try.underlying4 _), (trodAll_cons_mk (shut_int Try.underlying3 w0) (trodAll_cons_mk (shut_int Try.underlying27 w1) (trodAll_cons_mk (Below.trod laidOut (by kernel_rfl) (of_decide_eq_true (by kernel_rfl)) k2 bel lt2) trodAll_mk0))), rfl, bel.frame _, fun h => by cases h⟩
theorem over : Rows.modelAxiomsRow.holds Try.pinned (OpenSpec.ofChange Rows.modelAxiomsSpec) :=
 OpenClaim.holds_of_wide 4 Try.f4 rfl rfl rfl rfl rfl rfl rfl ⟨rfl, rfl, rfl, rfl, rfl⟩ rfl rfl rfl rfl rfl (by kernel_rfl) Try.func4 (by kernel_rfl)
  (of_decide_eq_true (by kernel_rfl)) (by unfold Func.isWrapper; first | (rw [if_pos (by decide +kernel)]; kernel_rfl) | (rw [if_neg (by decide +kernel)]; exact ⟨rfl, rfl⟩))
  (fun os started H enc _ => lifted os started H enc)
theorem proved : Rows.ModelAxiomsSaid := over
end Go.Proofs.Ytalkfnblnlcklaa.modelAxioms
