/- Proved here: vinculumlaw3.PoolWears returns true and leaves its arguments as they were, for every two ints; no further condition. -/
import Derived.Test.YtecnlneilgiheaaTwo
import Derived.ChangeOld
namespace Go.Proofs.Ytecnlneilgiheaa.poolWears
open Go.ChangeShapes Go.WideShapes Go.ChangeAt Go.RowKit
set_option linter.unusedVariables false

/-- n slots with the greatest tag m, those below i worn, slot i at the tag t. -/
def wearS (n m i t : Nat) : St := ⟨m, (List.range n).map fun j => if j < i then (m : Int) else if j = i then (t : Int) else 0, List.replicate n false, if t = 0 then [] else [(i : Int)], if t = 0 then (i : Int) else (i : Int) + 1, i⟩
/-- The same with slot i taken. -/
def midS (n m i t : Nat) : St := { wearS n m i t with taken := (List.replicate n false).set i true, given := [], fresh := (i : Int) + 1 }
theorem wear_zero (n m : Nat) : St.new n m = wearS n m 0 0 := by
  simp only [St.new, wearS, St.mk.injEq, true_and]
  refine ⟨?_, rfl, by simp, by simp⟩
  apply List.ext_getElem?
  intro j
  simp only [List.getElem?_replicate, List.getElem?_map]
  by_cases e : j < n <;> simp [e]
theorem wear_tag (n m i t j : Nat) (hj : j < n) : (wearS n m i t).tag j = if j < i then (m : Int) else if j = i then (t : Int) else 0 := by
  simp [St.tag, wearS, List.getD_eq_getElem?_getD, hj]
theorem wear_len (n m i t : Nat) : (wearS n m i t).tags.length = n := by simp [wearS]
theorem mid_len (n m i t : Nat) : (midS n m i t).tags.length = n := wear_len n m i t
theorem mid_tag (n m i t : Nat) (hi : i < n) : (midS n m i t).tag i = t := (wear_tag n m i t i hi).trans (by simp)
theorem mid_link (n m i t : Nat) (hi : i < n) : (midS n m i t).link i = linkI i t := by unfold St.link; rw [mid_tag _ _ _ _ hi]
theorem wear_link (n m i t : Nat) (hi : i < n) : (wearS n m i t).link i = linkI i t := mid_link n m i t hi
theorem mid_tk (n m i t : Nat) (hi : i < n) : (midS n m i t).tk i = true := by
  simp [St.tk, midS, List.getD_eq_getElem?_getD, hi]
theorem wear_no (n m i t : Nat) (l : Int) : (wearS n m i t).live l = false := by
  cases h : (wearS n m i t).live l with
  | false => rfl
  | true =>
    obtain ⟨j, hj, ht, _⟩ := (live_iff _ _).1 h
    have hf : (wearS n m i t).tk j = false := getD_rep n j false
    rw [hf] at ht
    cases ht
theorem full_set (n i : Nat) (hi : i < n) : ((List.replicate n false).set i true).set i false = List.replicate n false := by
  rw [List.set_set]
  apply List.ext_getElem?
  intro j
  simp only [List.getElem?_set, List.getElem?_replicate, List.length_replicate]
  by_cases e : i = j
  · subst e; simp [hi]
  · simp [e]
theorem step_last (n m i : Nat) (hi : i < n) : { midS n m i m with taken := (midS n m i m).taken.set i false, worn := (midS n m i m).worn + 1 } = wearS n m (i + 1) 0 := by
  simp only [midS, wearS, St.mk.injEq, true_and, full_set n i hi]
  refine ⟨?_, rfl, by simp, by simp⟩
  apply List.map_congr_left
  intro j hj
  by_cases e1 : j < i
  · simp [e1, show j < i + 1 by omega]
  · by_cases e2 : j = i
    · simp [e2]
    · simp [e1, e2, show ¬ j < i + 1 by omega]
theorem step_more (n m i t : Nat) (hi : i < n) : { midS n m i t with taken := (midS n m i t).taken.set i false, tags := (midS n m i t).tags.set i ((midS n m i t).tag i + 1), given := (midS n m i t).given ++ [(i : Int)] } = wearS n m i (t + 1) := by
  rw [mid_tag _ _ _ _ hi]
  simp only [midS, wearS, St.mk.injEq, true_and, full_set n i hi]
  refine ⟨?_, by simp, by simp, by simp⟩
  apply List.ext_getElem?
  intro j
  simp only [List.getElem?_set, List.getElem?_map, List.length_map, List.length_range]
  by_cases e : i = j
  · subst e; simp [hi]
  · by_cases e2 : j < n <;> simp [e, e2, Ne.symm e]
theorem take_first (n m i : Nat) : { wearS n m i 0 with taken := (wearS n m i 0).taken.set i true, fresh := (i : Int) + 1 } = midS n m i 0 := by simp [midS, wearS]
theorem take_later (n m i t : Nat) (ht : t ≠ 0) : { wearS n m i t with taken := (wearS n m i t).taken.set i true, given := [] } = midS n m i t := by simp [midS, wearS, ht]
/-- What one round does, decided ahead of the walk. -/
theorem ahead (n m i t : Nat) (hi : i < n) (ht : t ≤ m) (ok : Ok (wearS n m i t)) : ∃ i' t', i' * (m + 1) + t' = i * (m + 1) + t + 1 ∧ t' ≤ m ∧ (i' < n ∨ (i' = n ∧ t' = 0)) ∧ (i < i' ∨ (i = i' ∧ t < t')) ∧ Ok (midS n m i t) ∧ Ok (wearS n m i' t') ∧ cnt (midS n m i t).taken = 1 ∧
    (∀ w p S, PoolAt w p S (wearS n m i t) → Calls Try.prog 9 #[.pointer (some ⟨p, 0, none⟩)] w (PPost (.tuple #[.int .u64 (linkI i t), .int .i64 0]) p S (midS n m i t) w)) ∧
    (∀ w p S, PoolAt w p S (midS n m i t) → Calls Try.prog 10 #[.pointer (some ⟨p, 0, none⟩), .int .u64 (linkI i t)] w (PPost (.int .i64 0) p S (wearS n m i' t') w)) := by
  have hw : (∀ w p S, PoolAt w p S (wearS n m i t) → Calls Try.prog 9 #[.pointer (some ⟨p, 0, none⟩)] w (PPost (.tuple #[.int .u64 (linkI i t), .int .i64 0]) p S (midS n m i t) w)) ∧ Ok (midS n m i t) := by
    by_cases h0 : t = 0
    · subst h0
      have okm := (ok_takeFresh ok (i := i) (by simp [wearS]) (by rw [wear_len]; exact hi)).2
      rw [take_first] at okm
      exact ⟨fun w p S h => pt_fresh h ok (by simp [wearS]) i (by simp [wearS]) (by rw [wear_len]; exact hi) _ (wear_link n m i 0 hi) _ (take_first n m i), okm⟩
    · have okm := (ok_takeGiven ok (gs := []) (i := i) (by simp [wearS, h0])).2.2
      rw [take_later _ _ _ _ h0] at okm
      exact ⟨fun w p S h => pt_given h ok [] i (by simp [wearS, h0]) _ (wear_link n m i t hi) _ (take_later n m i t h0), okm⟩
  obtain ⟨hT, okm⟩ := hw
  have hc : cnt (midS n m i t).taken = 1 := by
    have ct := okm.ct
    simp only [midS, wearS, List.length_nil] at ct ⊢
    omega
  by_cases hm : t = m
  · subst hm
    have okw := ok_wear okm (i := i) (by rw [mid_len]; exact hi) (mid_tk _ _ _ _ hi)
    rw [step_last _ _ _ hi] at okw
    refine ⟨i + 1, 0, by rw [Nat.succ_mul]; omega, Nat.zero_le _, by omega, by omega, okm, okw, hc, hT, fun w p S h => ?_⟩
    exact pg_wear h okm i (by rw [mid_len]; exact hi) (mid_tk _ _ _ _ hi) (by rw [mid_tag _ _ _ _ hi]; rfl) _ (mid_link n t i t hi) _ (step_last n t i hi)
  · have hlt : (midS n m i t).tag i < (midS n m i t).most := by rw [mid_tag _ _ _ _ hi]; show (t : Int) < (m : Int); omega
    have okg := ok_give okm (i := i) (by rw [mid_len]; exact hi) (mid_tk _ _ _ _ hi) hlt
    rw [step_more _ _ _ _ hi] at okg
    refine ⟨i, t + 1, by omega, by omega, .inl hi, by omega, okm, okg, hc, hT, fun w p S h => ?_⟩
    exact pg_ok h okm i (by rw [mid_len]; exact hi) (mid_tk _ _ _ _ hi) hlt _ (mid_link n m i t hi) _ (step_more n m i t hi)
/-- Links of earlier rounds alone. -/
def Elder (i t : Nat) (zs : List Int) : Prop := ∀ j, j < zs.length → ∃ i' t' : Nat, zs.getD j 0 = linkI i' t' ∧ (i' < i ∨ (i' = i ∧ t' < t))
theorem elder_ne {i t : Nat} {zs : List Int} (h : Elder i t zs) (hi : i ≤ 5) (j : Nat) (hj : j < zs.length) : (zs.getD j 0 == linkI i t) = false := by
  obtain ⟨i', t', e, h⟩ := h j hj
  rw [e, beq_eq_false_iff_ne]
  unfold linkI
  omega
theorem elder_step {i t i' t' : Nat} {zs : List Int} (h : Elder i t zs) (hl : i < i' ∨ (i = i' ∧ t < t')) : Elder i' t' (zs ++ [linkI i t]) := by
  intro j hj
  by_cases e : j < zs.length
  · obtain ⟨a, b, e1, h1⟩ := h j e
    refine ⟨a, b, ?_, by omega⟩
    rw [← e1]
    simp [List.getD_eq_getElem?_getD, e, List.getElem?_append_left e]
  · have : j = zs.length := by simp at hj; omega
    subst this
    exact ⟨i, t, by simp [List.getD_eq_getElem?_getD], hl⟩
def WR (n m p : Nat) (w : World) (v q : Value) (wr : World) : Prop :=
  ∃ i t : Nat, ∃ S zs, q = .int .i64 ((i * (m + 1) + t : Nat) : Int) ∧ t ≤ m ∧ (i < n ∨ (i = n ∧ t = 0)) ∧ Ok (wearS n m i t) ∧ Two w wr p S (wearS n m i t) v zs (.slice none 0 0) [] ∧ zs.length = i * (m + 1) + t ∧ Elder i t zs
set_option maxRecDepth 100000 in
set_option maxHeartbeats 4000000 in
theorem walk (a0 a1 : Int) (w : World) (w0 : (Lit.int .i64 a0).wf = true) (w1 : (Lit.int .i64 a1).wf = true) :
    Calls Try.prog 6 #[.int .i64 a0, .int .i64 a1] w fun e w' => e = .returned (.bool true) ∧ Below w.heap.size w w' := by
  obtain ⟨p0, p1⟩ := bounds_i64 w0
  obtain ⟨q0, q1⟩ := bounds_i64 w1
  obtain ⟨m0, em0⟩ : ∃ m : Nat, a0 % 256 = m := ⟨(a0 % 256).toNat, by omega⟩
  have hm0 : bits .and .i64 a0 255 = m0 := (i64_mask a0 8 (by decide)).trans em0
  obtain ⟨n, en⟩ : ∃ n : Nat, (m0 : Int) % 5 + 1 = n := ⟨((m0 : Int) % 5 + 1).toNat, by omega⟩
  have n1 : 1 ≤ n := by omega
  have n2 : n ≤ 5 := by omega
  obtain ⟨m1, em1⟩ : ∃ m : Nat, a1 % 256 = m := ⟨(a1 % 256).toNat, by omega⟩
  have hm1 : bits .and .i64 a1 255 = m1 := (i64_mask a1 8 (by decide)).trans em1
  obtain ⟨m, em⟩ : ∃ m : Nat, (m1 : Int) % 41 = m := ⟨((m1 : Int) % 41).toNat, by omega⟩
  have m2 : m ≤ 40 := by omega
  clear em0 em1
  obtain ⟨T, eT⟩ : ∃ T : Nat, n * (m + 1) = T := ⟨_, rfl⟩
  have T2 : T ≤ 5 * 41 := by rw [← eT]; exact Nat.mul_le_mul n2 (by omega)
  have tT : (n : Int) * ((m : Int) + 1) = (T : Int) := by rw [← eT]; simp
  have wT : IntKind.i64.wrap ((n : Int) * ((m : Int) + 1)) = (T : Int) := by rw [tT]; exact IntWalk.i64_in _ (by omega)
  have ET := Lib.hid eT
  clear eT
  go_enter Try.func6, Try.ntmps6
  go_wp2_with fail
  rw [em]
  refine (pnew_ok n m _ n1 (by omega) (by omega) (by omega)).mono ?_
  rintro e w1 ⟨p, S1, rfl, h1, g1, b1⟩
  rw [wear_zero] at h1
  have D1 := Two.start h1 g1 b1
  have ok0 : Ok (wearS n m 0 0) := by rw [← wear_zero]; exact ok_new n m n1 (by omega) (by omega) (by omega)
  clear h1 g1 b1 hm0 hm1 en em
  go_wp2
  go_loopw [7, 8] (fun v q wr => WR n m p w v q wr) (fun _ q _ => T - (intOf q).toNat)
  case atStart => exact ⟨0, 0, S1, [], by simp, Nat.zero_le _, by omega, ok0, D1, by simp, fun j hj => by simp at hj⟩
  case round =>
    obtain ⟨i, t, S, zs, rfl, ht, hit, ok, D, zl, el⟩ := hrel
    clear D1 ok0
    obtain ⟨q, eq⟩ : ∃ q : Nat, i * (m + 1) + t = q := ⟨_, rfl⟩
    by_cases hlt : i < n
    · obtain ⟨i', t', hq, ht', hit', hlt', okm, ok', hc, hT, hG⟩ := ahead n m i t hlt ht ok
      have hql : q < T := by
        rw [← eq, ← ET.out]
        have := Nat.mul_le_mul_right (m + 1) (show i + 1 ≤ n from hlt)
        rw [Nat.succ_mul] at this
        omega
      have lf := link_facts i t (by omega) (by omega) (by omega) (by omega)
      rw [eq] at zl hq ⊢
      have zb : zs.length ≤ 205 := by omega
      have ZL := Lib.hid zl
      have HQ := Lib.hid hq
      have HC := Lib.hid hc
      clear zl hq hc eq
      obtain ⟨l, hl, l0, l1, _⟩ := lf
      have HL := Lib.hid hl
      rw [hl] at hT hG
      clear hl
      obtain ⟨A, c0, rfl, hA0, hA1⟩ := D.o1.openUp
      go_wp2_with fail
      refine (hT _ _ _ D.hp).mono ?_
      rintro e w2 ⟨rfl, S2, h2, k2, g2⟩
      have D := D.pstep h2 k2 g2
      clear h2 k2 g2
      go_wp2_with fail
      refine (pu_to D.hp okm 1 HC.out).mono ?_
      rintro e w3 ⟨rfl, S3, h3, k3, g3⟩
      have D := D.pstep h3 k3 g3
      clear h3 k3 g3
      go_wp2
      obtain ⟨wo, ewo⟩ : ∃ wo : World, wo = w3 := ⟨_, rfl⟩
      go_loop [11] (fun x => ∃ j : Nat, j ≤ zs.length ∧ x = .int .i64 j) (fun x => zs.length - (intOf x).toNat)
      case atStart => exact ⟨0, Nat.zero_le _, rfl⟩
      case round =>
        obtain ⟨j, hj, rfl⟩ := hrel
        by_cases hjl : j < zs.length
        · cases A with
          | none => exact absurd (hA0 rfl) (by intro e; subst e; simp at hjl)
          | some ad =>
            obtain ⟨ga, rfl⟩ := hA1 _ rfl
            have cj := D.o1.cell j hjl
            have ne := elder_ne el (by omega) j hjl
            rw [HL.out] at ne
            obtain ⟨y, ey⟩ : ∃ y, zs.getD j 0 = y := ⟨_, rfl⟩
            rw [ey] at cj ne
            clear ey
            go_wp2
            go_round
            case rel => exact ⟨j + 1, by omega, by go_num⟩
            case measure => simp [intOf]; omega
        · obtain rfl : j = zs.length := by omega
          go_wp2_with (with_reducible refine wp_stop 68 rfl ?_)
          intro _
          refine wp_push rfl (.tmp 65) (.tmp 67) rfl w.heap.size D.bl.size (.slice A zs.length c0) zs rfl D.o1 l rfl (by omega) ?_
          intro g c w4 o4 k4 hg4
          have D := D.push o4 k4 hg4
          clear o4 k4 hg4
          go_wp2_with fail
          refine (hG _ _ _ D.hp).mono ?_
          rintro e w5 ⟨rfl, S5, h5, k5, g5⟩
          have D := D.pstep h5 k5 g5
          clear h5 k5 g5
          go_wp2_with fail
          refine (pgive_no D.hp ok' l (by omega) (by omega) (wear_no _ _ _ _ _)).mono ?_
          rintro e w6 ⟨rfl, S6, h6, k6, g6⟩
          have D := D.pstep h6 k6 g6
          clear h6 k6 g6
          go_wp2
          go_roundw
          case rel => exact ⟨i', t', S6, zs ++ [l], by rw [HQ.out]; go_num, ht', hit', ok', by simpa using D, by rw [HQ.out]; simp [ZL.out], by rw [← HL.out]; exact elder_step el hlt'⟩
          case measure => simp [intOf]; omega
    · obtain ⟨rfl, rfl⟩ : i = n ∧ t = 0 := by omega
      have hqT : q = T := by rw [← eq, ← ET.out]; rfl
      subst hqT
      rw [eq]
      clear eq
      have cn : cnt (wearS i m i 0).taken = 0 := cnt_rep i
      go_wp2_with fail
      refine (ptake_full D.hp ok (by simp [wearS]) (by simp [wearS])).mono ?_
      rintro e w2 ⟨rfl, S2, h2, k2, g2⟩
      have D := D.pstep h2 k2 g2
      clear h2 k2 g2
      go_wp2_with fail
      refine (pw_to D.hp ok i rfl).mono ?_
      rintro e w3 ⟨rfl, S3, h3, k3, g3⟩
      have D := D.pstep h3 k3 g3
      clear h3 k3 g3
      go_wp2_with fail
      refine (pf_to D.hp ok 0 (by simp [wearS])).mono ?_
      rintro e w4 ⟨rfl, S4, h4, k4, g4⟩
      have D := D.pstep h4 k4 g4
      clear h4 k4 g4
      go_wp2_with fail
      refine (pu_to D.hp ok 0 cn).mono ?_
      rintro e w5 ⟨rfl, S5, h5, k5, g5⟩
      have D := D.pstep h5 k5 g5
      clear h5 k5 g5
      go_wp2_with fail
      refine (awake3_any _).mono ?_
      rintro e w9 ⟨rfl, b9⟩
      go_wp2
      go_ret
      exact ⟨rfl, D.bl.trans (b9.mono D.bl.size)⟩
theorem own : ownKnob Try.prog.godebug = none := by kernel_rfl
theorem laidOut : laidOutB Try.prog = true := by kernel_rfl
set_option maxRecDepth 100000 in
theorem lifted (os : Os) (started : os.Started) (H : Type) (enc : TypeId × Value → H) :
    ReturnsInHanded {} Try.checked os 6 .any (Rows.poolWearsSpec.pre6 enc Try.prog Try.f6 Rows.poolWearsRow.domain false) (Rows.poolWearsSpec.post enc Try.prog Try.f6 false true false false) := by
  refine returnsInHanded_of_change (C := Try.checked) own started (by kernel_rfl) Try.func6
    (ChangeSpec.witness6 (enc := enc) (C := Try.checked) false ⟨#[], #[.int .i64 0, .int .i64 0], []⟩ 8 (by kernel_rfl) (by kernel_rfl) (by kernel_rfl) (by kernel_rfl)) ?_
  intro W base args ds gs before hval0 hW hcnd _
  have hval : ∀ (j : Nat) t v, Try.f6.params[j]? = some t → args[j]? = some v → Value.okWide Try.prog W .any base t v := hval0
  have hW' := hW
  obtain ⟨p, q, hA0, hV, rfl, hfz, hnd⟩ := hW
  have hA : DataW.TrodAll enc Try.prog W 0 (fun _ => true) true Try.f6.params.toList args.toList ds p := hA0
  rw [Try.params6] at hA hval
  obtain ⟨v0, vs0, d0, ds0, p0, q0, hargs, rfl, rfl, h0, r0⟩ := trodAll_cons hA
  obtain ⟨v1, vs1, d1, ds1, p1, q1, rfl, rfl, rfl, h1, r1⟩ := trodAll_cons r0
  obtain ⟨rfl, rfl, rfl⟩ := trodAll_nil r1
  obtain rfl : args = #[v0, v1] := by cases args; simp_all
  obtain ⟨rfl, rfl⟩ := trodVars_none hV
  obtain ⟨a0, rfl, rfl, rfl, w0⟩ := open_int Try.underlying3 (hval 0 3 v0 rfl rfl) h0
  obtain ⟨a1, rfl, rfl, rfl, w1⟩ := open_int Try.underlying3 (hval 1 3 v1 rfl rfl) h1
  clear hA0 hval0
  refine (walk a0 a1 W w0 w1).mono fun e W' ⟨he, bel⟩ => ?_
  subst he
  exact ⟨_, rfl, _, _, _, [], _, [], hW', trodAll_mk1 (shut_bool Try.underlying4 _), (trodAll_cons_mk (shut_int Try.underlying3 w0) (trodAll_cons_mk (shut_int Try.underlying3 w1) trodAll_mk0)), rfl, bel.frame _, fun h => by cases h⟩
theorem over : Rows.poolWearsRow.holds Try.pinned (OpenSpec.ofChange Rows.poolWearsSpec) :=
  OpenClaim.holds_of_wide 6 Try.f6 rfl rfl rfl rfl rfl rfl rfl ⟨rfl, rfl, rfl, rfl, rfl⟩ rfl rfl rfl rfl rfl (by kernel_rfl) Try.func6 (by kernel_rfl)
    (of_decide_eq_true (by kernel_rfl)) (by unfold Func.isWrapper; first | (rw [if_pos (by decide +kernel)]; kernel_rfl) | (rw [if_neg (by decide +kernel)]; exact ⟨rfl, rfl⟩))
    (fun os started H enc _ => lifted os started H enc)
theorem proved : Rows.PoolWearsSaid := over
#print axioms proved
end Go.Proofs.Ytecnlneilgiheaa.poolWears
