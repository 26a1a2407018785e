/- Proved here: vinculumlaw15.JudgeAll returns true and leaves its arguments as they were, for any int, any reads and any two slices of words; no further condition. -/
import Derived.Test.YtndpifkpgoeogaaJaC
namespace Go.Proofs.Ytndpifkpgoeogaa.judgeAll
open Go.ChangeShapes Go.WideShapes Go.ChangeAt Go.RowKit
set_option linter.unusedVariables false
theorem row_lies {w : World} {A : Option Addr} {n c : Nat} {z : List Int} (h : IsRow .u64 w A n c z) : Lies w (.slice A z.length c) z := by
  have hl := h.len
  refine ⟨A, c, rfl, by rw [hl]; exact h.cap, fun h0 => ?_⟩
  obtain ⟨b, off, e, hb, hc⟩ := h.cell (by omega)
  exact ⟨b, off, e, hb, fun j hj => hc j (by omega)⟩
theorem ops_on {w W : World} {A : Option Addr} {n c : Nat} {f : Nat → OpI} (h : IsOps w A n c f) (b : Below w.heap.size w W) : IsOps W A n c f :=
  ⟨h.cap, h.max, fun h0 => by
    obtain ⟨bk, off, e, hb, hc⟩ := h.cell h0
    exact ⟨bk, off, e, Nat.lt_of_lt_of_le hb b.size, fun j hj => by
      obtain ⟨c0, c1, c2, c3, c4⟩ := hc j hj
      exact ⟨(b.cell (p := ⟨bk, off + j * 5, none⟩) hb).trans c0, (b.cell (p := ⟨bk, off + j * 5 + 1, none⟩) hb).trans c1, (b.cell (p := ⟨bk, off + j * 5 + 2, none⟩) hb).trans c2, (b.cell (p := ⟨bk, off + j * 5 + 3, none⟩) hb).trans c3, (b.cell (p := ⟨bk, off + j * 5 + 4, none⟩) hb).trans c4⟩⟩, h.ok, fun j hj => Lies.below b (h.lies j hj)⟩
theorem sb_on {W w : World} {s : RdS} {ks ss : List OpI} {n : Nat} (I : I15 W s ks ss n) (b : Below W.heap.size W w) : ∀ x ∈ ss, 0 ≤ x.lo ∧ x.lo ≤ x.hi ∧ x.hi ≤ 63 ∧ x.z.length ≤ 5 ∧ Lies w x.v x.z := fun x hx => by
  obtain ⟨h0, h1, h2, h3, h4⟩ := I.sb x hx
  exact ⟨h0, h1, h2, h3, Lies.below b h4⟩
set_option maxRecDepth 1000000 in
set_option maxHeartbeats 16000000 in
theorem walk (a0 : Int) (a1 : Option Addr) (len1 cap1 : Nat) (f : Nat → OpI) (a2 : Option Addr) (n2 c2 : Nat) (z2 : List Int) (a3 : Option Addr) (n3 c3 : Nat) (z3 : List Int) (w : World) (w0 : (Lit.int .i64 a0).wf = true) (w1 : IsOps w a1 len1 cap1 f) (w2 : IsRow .u64 w a2 n2 c2 z2) (w3 : IsRow .u64 w a3 n3 c3 z3) :
    Calls Try.prog 7 #[.int .i64 a0, .slice a1 len1 cap1, .slice a2 n2 c2, .slice a3 n3 c3] w fun e w' => e = .returned (.bool true) ∧ Below w.heap.size w w' := by
  have un : ∀ j, j < z2.length → U64 (z2.getD j 0) := fun j hj => by
    have := w2.wf (z2.getD j 0) (by rw [List.getD_eq_getElem?_getD, List.getElem?_eq_getElem hj]; exact List.getElem_mem hj)
    exact bounds_u64 this
  have hl : z2.length ≤ 9223372036854775807 := by have := w2.len; have := w2.cap; have := w2.max; omega
  have L2 := row_lies w2
  have L3 := row_lies w3
  obtain rfl : n2 = z2.length := w2.len.symm
  obtain rfl : n3 = z3.length := w3.len.symm
  clear w0 w2 w3
  have kA := ((Keep.refl (fun _ => False) w).alloc (.cells #[.slice a2 z2.length c2] 33)).alloc (.cells #[.slice a3 z3.length c3] 33)
  have bA := kA.below (Nat.le_refl _) (by simp)
  have cN : ((w.alloc (.cells #[.slice a2 z2.length c2] 33)).alloc (.cells #[.slice a3 z3.length c3] 33)).cell? ⟨w.heap.size, 0, none⟩ = some (.slice a2 z2.length c2) := by simp
  have cS : ((w.alloc (.cells #[.slice a2 z2.length c2] 33)).alloc (.cells #[.slice a3 z3.length c3] 33)).cell? ⟨w.heap.size + 1, 0, none⟩ = some (.slice a3 z3.length c3) := by simp
  have lS : w.heap.size + 1 < ((w.alloc (.cells #[.slice a2 z2.length c2] 33)).alloc (.cells #[.slice a3 z3.length c3] 33)).heap.size := by simp
  obtain ⟨W, eW⟩ : ∃ W, (w.alloc (.cells #[.slice a2 z2.length c2] 33)).alloc (.cells #[.slice a3 z3.length c3] 33) = W := ⟨_, rfl⟩
  obtain ⟨nb, eb⟩ : ∃ nb, w.heap.size = nb := ⟨_, rfl⟩
  rw [eW] at kA bA cN cS lS
  rw [eb] at cN cS lS
  have BA := Lib.hid bA
  have L2 := Lies.below bA L2
  have L3 := Lies.below bA L3
  have OW := ops_on w1 bA
  have lN : nb < W.heap.size := by omega
  clear w1 kA
  go_enter Try.func7, Try.ntmps7
  go_wp2_with fail
  refine (made15.made_any (W := W) OW (Below.refl _ _)).mono ?_
  rintro e y1 ⟨t, v1, v2, S, s, ks, ss, rfl, A, I⟩
  clear eW eb bA
  have b1 := A.r.b
  have cN1 := (b1.cell (p := ⟨nb, 0, none⟩) lN).trans cN
  have cS1 := (b1.cell (p := ⟨nb + 1, 0, none⟩) lS).trans cS
  by_cases h100 : 100 < z3.length
  · have d1 : decide ((100 : Int) < (z3.length : Int)) = true := decide_eq_true (by omega)
    have B1 := Lib.hid b1
    clear A I
    go_wp2_with fail
    refine (awake15_any _).mono ?_
    rintro e y9 ⟨rfl, b9⟩
    go_wp2
    go_ret
    have b0 := BA.out
    have b2 : Below W.heap.size W y9 := B1.out.trans (b9.mono B1.out.size)
    exact ⟨rfl, b0.trans (b2.mono b0.size)⟩
  · have d1 : decide ((100 : Int) < (z3.length : Int)) = false := decide_eq_false (by omega)
    have h1 := A.a1
    have h2 := A.a2
    have IK := Lib.hid (fun (w' : World) (b : Below W.heap.size W w') => sb_on I b)
    have kl := I.ln
    go_upto_region 6 with fail
    go_cut [14, 15] from 46 to 51 (fun x y wx => y1 = wx ∧ x = .bool (inL a0) ∧ y = .int .i64 (-1))
    case first =>
      by_cases e1 : 1 ≤ a0
      · by_cases e2 : a0 ≤ 3
        · go_wp2_with fail
          go_meet
          case rel => exact ⟨rfl, by unfold inL; rw [decide_eq_true (by omega : 1 ≤ a0), decide_eq_true (by omega : a0 ≤ 3)]; rfl, rfl⟩
        · go_wp2_with fail
          go_meet
          case rel => exact ⟨rfl, by unfold inL; rw [decide_eq_true (by omega : 1 ≤ a0), decide_eq_false (by omega : ¬ a0 ≤ 3)]; rfl, rfl⟩
      · go_wp2_with fail
        go_meet
        case rel => exact ⟨rfl, by unfold inL; rw [decide_eq_false (by omega : ¬ 1 ≤ a0)]; rfl, rfl⟩
    case rest =>
    obtain ⟨rfl, rfl, rfl⟩ := hcut
    clear h2
    go_upto_block 0 with fail
    rename_i K5 hK5
    go_cut [14, 15] from 52 to 80 (fun qv av wx => ∃ q a, qv = .bool q ∧ av = .int .i64 a ∧ resK a0 (nowA z2) ks = (q, a) ∧ Keep (fun _ => False) y1 wx)
    case first =>
      rename_i J6 K6 hJ6 hK6
      exact keyLoop hJ6 hK6 h1 (by omega) I.kb cN1 (Lies.below b1 L2) un hl
    case rest =>
    obtain ⟨q1, p1, rfl, rfl, hr1, kp⟩ := hcut
    refine hK5 _ _ ?_
    clear hK5 h1 cN1 cS1 b1
    have A := A.quiet kp
    have b1 := A.r.b
    have cS1 := (b1.cell (p := ⟨nb + 1, 0, none⟩) lS).trans cS
    have h2 := A.a2
    clear kp
    obtain ⟨y2, ey⟩ : ∃ y2, wc = y2 := ⟨_, rfl⟩
    rw [ey] at A b1 cS1 h2 ⊢
    clear ey
    go_upto_block 2 with fail
    rename_i K7 hK7
    go_cut [14, 15] from 81 to 114 (fun qv av wx => ∃ q a, qv = .bool q ∧ av = .int .i64 a ∧ resA a0 (nowA z2) (spA z3) ks ss = (q, a) ∧ Keep (fun _ => False) y2 wx)
    case first =>
      rename_i J6 K6 hJ6 hK6
      exact spnLoop hJ6 hK6 hr1 h2 (by omega) (IK.out _ b1) cS1 (Lies.below b1 L3) (by omega)
    case rest =>
    obtain ⟨q2, p2, rfl, rfl, hr2, kp⟩ := hcut
    refine hK7 _ _ ?_
    clear hK7 hr1 cS1 b1 h2
    have A := A.quiet kp
    have hr := (all_eq (N := nowA z2) (SP := spA z3) I).trans hr2
    have hN := isNowA (t := t) (s := s) (S := S) lN cN L2 un hl
    have hS := isSpnA (t := t) (s := s) lS cS L3 (by omega)
    clear kp hr2
    go_wp2_with fail
    refine (jall_any A.r (Q := fun _ _ => True) trivial (fun _ _ _ _ => trivial) hN hS a0 _ _ hr).mono ?_
    rintro e y3 ⟨rfl, S3, C3, k3⟩
    have A := A.step C3 k3
    clear C3 k3 hr hN hS
    go_wp2_with fail
    refine (jneeds_any A.r a0).mono ?_
    rintro e y4 ⟨v3, v4, S4, T4, rfl, o3, _, o4, _, C4, k4⟩
    have A := A.step C4 k4
    clear C4 k4
    rw [need_eq I] at o3
    obtain ⟨⟨A4, c4, rfl, _, _⟩, _, _⟩ := id o4
    go_upto_block 4 with fail
    rename_i K9 hK9
    go_cut [22] from 129 to 156 (fun nv wx => OwnN y4.heap.size wx nv (needL a0 ks) ∧ Keep (fun _ => False) y4 wx)
    case first =>
      rename_i J6 K6 hJ6 hK6
      exact needLoop hJ6 hK6 A.a1 (by omega)
    case rest =>
    obtain ⟨oN, kp⟩ := hcut
    refine hK9 _ _ ?_
    clear hK9
    have A := A.quiet kp
    have o3 := OwnN.keep o3 kp (by simp)
    have o4 := OwnSc.keep o4 kp (by simp)
    have nl : (needL a0 ks).length ≤ 100000 := by
      unfold needL
      rw [List.length_map]
      refine Nat.le_trans (List.length_filter_le _ _) ?_
      omega
    obtain ⟨A2, c2', rfl, _, _⟩ := OwnR.shape A.a2
    have hq : (q2 != q2) = false := by simp
    have hp : (p2 != p2) = false := by simp
    have hss : ((ss.length : Int) != (ss.length : Int)) = false := by simp
    have hd : (a0 = 3 ∧ needS a0 s = ss.map (fun x => ⟨x.lo, x.hi, x.z⟩)) ∨ ((a0 == 3) = false ∧ needS a0 s = []) := by
      unfold needS
      by_cases h : a0 = 3
      · exact .inl ⟨h, by rw [if_pos h, I.e3]⟩
      · exact .inr ⟨by simpa using h, by rw [if_neg h]⟩
    clear kp
    obtain ⟨y5, e5⟩ : ∃ y5, wc = y5 := ⟨_, rfl⟩
    rw [e5] at A o3 o4 oN ⊢
    clear e5
    rcases hd with ⟨rfl, e4⟩ | ⟨d3, e4⟩
    · rw [e4, List.length_map] at o4
      rw [e4, List.length_map]
      clear e4
      go_wp2_with fail; refine (sameN_own o3 oN nl).mono ?_; rintro e y6 ⟨rfl, d, rfl⟩; have A := A.quiet (drewN_keep _ _ d); have o4 := OwnSc.keep o4 (drewN_keep _ _ d) (fun _ _ => id); obtain ⟨y6, e6⟩ : ∃ y6, y5.drewN d = y6 := ⟨_, rfl⟩; rw [e6] at A o4; rw [e6]; clear e6 oN o3; go_upto_block 6 with fail; rename_i K11 hK11; go_cut [] from 181 to 223 (fun wx => Keep (fun _ => False) y6 wx); (case first => (rename_i J6 K6 hJ6 hK6; exact cmpLoop (n := ss.length) hJ6 hK6 A.a2 (by omega) (.inr rfl) (fun _ => o4) (IK.out _ A.r.b))); (case rest => (have kp : Keep (fun _ => False) y6 wc := hcut; refine hK11 _ _ ?_; clear hK11; have A := A.quiet kp; have B1 := Lib.hid A.r.b; clear A kp; go_wp2_with fail; refine (awake15_any _).mono ?_; rintro e y9 ⟨rfl, b9⟩; go_wp2; go_ret; have b0 := BA.out; have b2 : Below W.heap.size W y9 := B1.out.trans (b9.mono B1.out.size); exact ⟨rfl, b0.trans (b2.mono b0.size)⟩))
    · rw [e4] at o4
      rw [e4, List.length_nil]
      clear e4
      go_wp2_with fail; refine (sameN_own o3 oN nl).mono ?_; rintro e y6 ⟨rfl, d, rfl⟩; have A := A.quiet (drewN_keep _ _ d); have o4 := OwnSc.keep o4 (drewN_keep _ _ d) (fun _ _ => id); obtain ⟨y6, e6⟩ : ∃ y6, y5.drewN d = y6 := ⟨_, rfl⟩; rw [e6] at A o4; rw [e6]; clear e6 oN o3; go_upto_block 6 with fail; rename_i K11 hK11; go_cut [] from 181 to 223 (fun wx => Keep (fun _ => False) y6 wx); (case first => (rename_i J6 K6 hJ6 hK6; exact cmpLoop (n := 0) (BS := 0) (T := fun _ => False) hJ6 hK6 A.a2 (by omega) (.inl rfl) (fun h => absurd rfl h) (IK.out _ A.r.b))); (case rest => (have kp : Keep (fun _ => False) y6 wc := hcut; refine hK11 _ _ ?_; clear hK11; have A := A.quiet kp; have B1 := Lib.hid A.r.b; clear A kp; go_wp2_with fail; refine (awake15_any _).mono ?_; rintro e y9 ⟨rfl, b9⟩; go_wp2; go_ret; have b0 := BA.out; have b2 : Below W.heap.size W y9 := B1.out.trans (b9.mono B1.out.size); exact ⟨rfl, b0.trans (b2.mono b0.size)⟩))
theorem own : ownKnob Try.prog.godebug = none := by kernel_rfl
theorem laidOut : laidOutB Try.prog = true := by kernel_rfl
set_option maxRecDepth 100000 in
theorem lifted (os : Os) (started : os.Started) (H : Type) (enc : TypeId × Value → H) :
    ReturnsInHanded {} Try.checked os 7 .any (Rows.judgeAllSpec.pre6 enc Try.prog Try.f7 Rows.judgeAllRow.domain false) (Rows.judgeAllSpec.post enc Try.prog Try.f7 false true false false) := by
  refine returnsInHanded_of_change (C := Try.checked) own started (by kernel_rfl) Try.func7
    (ChangeSpec.witness6 (enc := enc) (C := Try.checked) false ⟨#[], #[.int .i64 0, .slice none 0 0, .slice none 0 0, .slice none 0 0], []⟩ 8 (by kernel_rfl) (by kernel_rfl) (by kernel_rfl) (by kernel_rfl)) ?_
  intro W base args ds gs before hval0 hW hcnd _
  have hval : ∀ (j : Nat) t v, Try.f7.params[j]? = some t → args[j]? = some v → Value.okWide Try.prog W .any base t v := hval0
  have hW' := hW
  obtain ⟨p, q, hA0, hV, rfl, hfz, hnd⟩ := hW
  have hA : DataW.TrodAll enc Try.prog W 0 (fun _ => true) true Try.f7.params.toList args.toList ds p := hA0
  rw [Try.params7] at hA hval
  obtain ⟨v0, vs0, d0, ds0, p0, q0, hargs, rfl, rfl, h0, r0⟩ := trodAll_cons hA
  obtain ⟨v1, vs1, d1, ds1, p1, q1, rfl, rfl, rfl, h1, r1⟩ := trodAll_cons r0
  obtain ⟨v2, vs2, d2, ds2, p2, q2, rfl, rfl, rfl, h2, r2⟩ := trodAll_cons r1
  obtain ⟨v3, vs3, d3, ds3, p3, q3, rfl, rfl, rfl, h3, r3⟩ := trodAll_cons r2
  obtain ⟨rfl, rfl, rfl⟩ := trodAll_nil r3
  obtain rfl : args = #[v0, v1, v2, v3] := by cases args; simp_all
  obtain ⟨rfl, rfl⟩ := trodVars_none hV
  obtain ⟨a0, rfl, rfl, rfl, w0⟩ := open_int Try.underlying3 (hval 0 3 v0 rfl rfl) h0
  obtain ⟨a1, len1, cap1, rfl⟩ := okWide_slice Try.underlying44 (hval 1 44 v1 rfl rfl)
  have k1 := h1
  have lt1 : ∀ x ∈ p1, x.block < W.heap.size := by obtain ⟨m, hm⟩ := k1; exact DataW.trod_lt m _ _ _ hm
  obtain ⟨z1, w1⟩ : ∃ f, IsOps W a1 len1 cap1 f := is_ops h1
  obtain ⟨a2, len2, cap2, rfl⟩ := okWide_slice Try.underlying33 (hval 2 33 v2 rfl rfl)
  have k2 := h2
  have lt2 : ∀ x ∈ p2, x.block < W.heap.size := by obtain ⟨m, hm⟩ := k2; exact DataW.trod_lt m _ _ _ hm
  obtain ⟨z2, w2⟩ : ∃ zs, IsRow .u64 W a2 len2 cap2 zs := is_row Try.underlying33 Try.underlying23 (by kernel_rfl) h2
  obtain ⟨a3, len3, cap3, rfl⟩ := okWide_slice Try.underlying33 (hval 3 33 v3 rfl rfl)
  have k3 := h3
  have lt3 : ∀ x ∈ p3, x.block < W.heap.size := by obtain ⟨m, hm⟩ := k3; exact DataW.trod_lt m _ _ _ hm
  obtain ⟨z3, w3⟩ : ∃ zs, IsRow .u64 W a3 len3 cap3 zs := is_row Try.underlying33 Try.underlying23 (by kernel_rfl) h3
  clear hA0 hval0
  refine (walk a0 a1 len1 cap1 z1 a2 len2 cap2 z2 a3 len3 cap3 z3 W w0 w1 w2 w3).mono fun e W' ⟨he, bel⟩ => ?_
  subst he
  exact ⟨_, rfl, _, _, _, [], _, [], hW', trodAll_mk1 (shut_bool Try.underlying4 _), (trodAll_cons_mk (shut_int Try.underlying3 w0) (trodAll_cons_mk (Below.trod laidOut (by kernel_rfl) (of_decide_eq_true (by kernel_rfl)) k1 bel lt1) (trodAll_cons_mk (Below.trod laidOut (by kernel_rfl) (of_decide_eq_true (by kernel_rfl)) k2 bel lt2) (trodAll_cons_mk (Below.trod laidOut (by kernel_rfl) (of_decide_eq_true (by kernel_rfl)) k3 bel lt3) trodAll_mk0)))), rfl, bel.frame _, fun h => by cases h⟩
theorem over : Rows.judgeAllRow.holds Try.pinned (OpenSpec.ofChange Rows.judgeAllSpec) :=
  OpenClaim.holds_of_wide 7 Try.f7 rfl rfl rfl rfl rfl rfl rfl ⟨rfl, rfl, rfl, rfl, rfl⟩ rfl rfl rfl rfl rfl (by kernel_rfl) Try.func7 (by kernel_rfl)
    (of_decide_eq_true (by kernel_rfl)) (by unfold Func.isWrapper; first | (rw [if_pos (by decide +kernel)]; kernel_rfl) | (rw [if_neg (by decide +kernel)]; exact ⟨rfl, rfl⟩))
    (fun os started H enc _ => lifted os started H enc)
theorem proved : Rows.JudgeAllSaid := over
end Go.Proofs.Ytndpifkpgoeogaa.judgeAll
