/- Proved here: vinculumlaw3.PoolFills returns true and leaves its arguments as they were, for every two ints; no further condition. -/
import Derived.Test.YtecnlneilgiheaaPoolL
import Derived.Test.YtecnlneilgiheaaPush
import Derived.ChangeOld
namespace Go.Proofs.Ytecnlneilgiheaa.poolFills
open Go.ChangeShapes Go.WideShapes Go.ChangeAt Go.RowKit
set_option linter.unusedVariables false

/-- n slots, the first k of them taken. -/
def fillS (n k : Nat) : St := ⟨100, List.replicate n 0, List.replicate k true ++ List.replicate (n - k) false, [], k, 0⟩
theorem fill_step (n k : Nat) (h : k < n) : { fillS n k with taken := (fillS n k).taken.set k true, fresh := (k : Int) + 1 } = fillS n (k + 1) := by
  simp only [fillS, St.mk.injEq, true_and, and_true]
  refine ⟨?_, by simp⟩
  apply List.ext_getElem?
  intro i
  simp only [List.getElem?_set, List.getElem?_append, List.getElem?_replicate, List.length_append, List.length_replicate]
  by_cases e : k = i
  · subst e
    simp
    omega
  · simp only [e, if_false]
    by_cases e2 : i < k
    · simp [e2, show i < k + 1 by omega]
    · simp only [e2, if_false, show ¬ i < k + 1 by omega]
      by_cases e3 : i < n
      · simp [show i - k < n - k by omega, show i - (k + 1) < n - (k + 1) by omega]
      · simp [show ¬ i - k < n - k by omega, show ¬ i - (k + 1) < n - (k + 1) by omega]
theorem fill_tags (n k : Nat) : (fillS n k).tags.length = n := by simp [fillS]
theorem fill_tag (n k i : Nat) : (fillS n k).tag i = 0 := by simp only [St.tag, fillS, getD_rep]
theorem fill_link (n k i : Nat) : (fillS n k).link i = (i : Int) + 1 := by unfold St.link; rw [fill_tag]; unfold linkI; omega
theorem fill_zero (n : Nat) : St.new n 100 = fillS n 0 := by simp [St.new, fillS]
theorem fill_ok (n k : Nat) (h0 : 1 ≤ n) (h1 : n ≤ 200) (hk : k ≤ n) : Ok (fillS n k) := by
  induction k with
  | zero => rw [← fill_zero]; exact ok_new n 100 h0 (by omega) (by omega) (by omega)
  | succ k ih =>
    have := (ok_takeFresh (ih (by omega)) (i := k) rfl (by rw [fill_tags]; omega)).2
    rwa [fill_step n k (by omega)] at this
theorem fill_tk (n k : Nat) (hk : k < n) : (fillS n n).tk k = true := by
  simp [St.tk, fillS, List.getD_eq_getElem?_getD, hk]
/-- The links 1 to k. -/
def nums (k : Nat) : List Int := (List.range k).map fun (i : Nat) => (i : Int) + 1
theorem nums_len (k : Nat) : (nums k).length = k := by simp [nums]
theorem nums_succ (k : Nat) : nums (k + 1) = nums k ++ [(k : Int) + 1] := by simp [nums, List.range_succ]
theorem nums_get (k i : Nat) (h : i < k) : (nums k).getD i 0 = (i : Int) + 1 := by simp [nums, List.getD_eq_getElem?_getD, h]
theorem lT2 (n j : Nat) (sG sT : St) (eG : { fillS n n with taken := (fillS n n).taken.set j false, tags := (fillS n n).tags.set j ((fillS n n).tag j + 1), given := (fillS n n).given ++ [(j : Int)] } = sG) (eT : { sG with taken := sG.taken.set j true, given := [] } = sT) (hj : j < n) : sT.link j = linkI j 1 := by
  subst eG; subst eT
  unfold St.link
  show linkI j (((fillS n n).tags.set j ((fillS n n).tag j + 1)).getD j 0) = linkI j 1
  rw [tag_set _ (by rw [fill_tags]; exact hj), if_pos rfl, fill_tag]
  rfl
theorem facts (n j : Nat) (hj : j < n) (sG : St) (eG : { fillS n n with taken := (fillS n n).taken.set j false, tags := (fillS n n).tags.set j ((fillS n n).tag j + 1), given := (fillS n n).given ++ [(j : Int)] } = sG) (sT : St) (eT : { sG with taken := sG.taken.set j true, given := [] } = sT) (okT : Ok sT) :
    sG.given = [] ++ [(j : Int)] ∧ (sG.given.length : Int) + sG.tags.length - sG.fresh = 1 ∧ sG.link j = linkI j 1 ∧ sT.tk j = true ∧ j < sT.tags.length ∧ cnt sT.taken = n ∧ sT.live ((j : Int) + 1) = false := by
  have hl := lT2 n j sG sT eG eT hj
  have n1 := okT.n1
  have ct := okT.ct
  subst eG; subst eT
  have tl : ((fillS n n).tags.set j ((fillS n n).tag j + 1)).length = n := by rw [List.length_set, fill_tags]
  have kl : ((fillS n n).taken.set j false).length = n := by simp [fillS]
  refine ⟨rfl, ?_, hl, ?_, ?_, ?_, ?_⟩
  · show (([(j : Int)].length : Nat) : Int) + (((fillS n n).tags.set j ((fillS n n).tag j + 1)).length : Nat) - ((n : Nat) : Int) = 1
    rw [tl]; simp
  · show (((fillS n n).taken.set j false).set j true).getD j false = true
    rw [List.getD_eq_getElem?_getD, List.getElem?_set_self (by rw [kl]; exact hj)]
    rfl
  · show j < ((fillS n n).tags.set j ((fillS n n).tag j + 1)).length
    rw [tl]; exact hj
  · simpa [fillS] using ct
  · cases h : St.live _ ((j : Int) + 1) with
    | false => rfl
    | true =>
      obtain ⟨i, hi, _, e, hm⟩ := (live_iff _ _).1 h
      have hi : i < ((fillS n n).tags.set j ((fillS n n).tag j + 1)).length := hi
      rw [tl] at hi
      have n1 : ((fillS n n).tags.set j ((fillS n n).tag j + 1)).length ≤ 4096 := n1
      rw [tl] at n1
      have : i = j := by omega
      subst this
      rw [e] at hm
      have e2 := e.trans hl
      unfold linkI at e2
      omega
def Rel (n p B : Nat) (w : World) (k : Nat) (v i : Value) (wr : World) : Prop :=
  k ≤ n ∧ i = .int .i64 k ∧ (∃ S, PoolAt wr p S (fillS n k) ∧ (∀ x, S x → B ≤ x) ∧ ∀ g, v.ownBlock = some g → ¬ S g) ∧ OwnU B wr v (nums k) ∧ Below B w wr
theorem unl (k : Nat) (h : k < 200) : uslot ((k : Int) + 1) = k ∧ utag ((k : Int) + 1) = 0 ∧ mkd ((k : Int) + 1) = false := by
  have := link_facts k 0 (by omega) (by omega) (by omega) (by omega)
  obtain ⟨l, el, l0, l1, hu, hv, hk, _⟩ := this
  have e : l = (k : Int) + 1 := by rw [← el]; unfold linkI; omega
  subst e
  exact ⟨hu, hv, hk⟩
set_option maxRecDepth 100000 in
set_option maxHeartbeats 4000000 in
theorem walk (a0 a1 : Int) (w : World) (w0 : (Lit.int .i64 a0).wf = true) (w1 : (Lit.int .i64 a1).wf = true) :
    Calls Try.prog 7 #[.int .i64 a0, .int .i64 a1] w fun e w' => e = .returned (.bool true) ∧ Below w.heap.size w w' := by
  obtain ⟨p0, p1⟩ := bounds_i64 w0
  obtain ⟨q0, q1⟩ := bounds_i64 w1
  obtain ⟨m0, em0⟩ : ∃ m : Nat, a0 % 256 = m := ⟨(a0 % 256).toNat, by omega⟩
  have hm0 : bits .and .i64 a0 255 = m0 := (i64_mask a0 8 (by decide)).trans em0
  obtain ⟨n, en⟩ : ∃ n : Nat, (m0 : Int) % 200 + 1 = n := ⟨((m0 : Int) % 200 + 1).toNat, by omega⟩
  have n1 : 1 ≤ n := by omega
  have n2 : n ≤ 200 := by omega
  obtain ⟨m1, em1⟩ : ∃ m : Nat, a1 % 65536 = m := ⟨(a1 % 65536).toNat, by omega⟩
  have hm1 : bits .and .i64 a1 65535 = m1 := (i64_mask16 a1).trans em1
  obtain ⟨j, ej⟩ : ∃ j : Nat, m1 % n = j := ⟨_, rfl⟩
  have hj : j < n := by rw [← ej]; exact Nat.mod_lt _ (by omega)
  have ek : (m1 : Int) % (n : Int) = (j : Int) := by rw [← ej]; rfl
  clear em0 em1 ej
  go_enter Try.func7, Try.ntmps7
  go_wp2_with fail
  refine (pnew_ok n 100 _ n1 (by omega) (by omega) (by omega)).mono ?_
  rintro e w1 ⟨p, S1, rfl, h1, g1, b1⟩
  rw [fill_zero] at h1
  go_wp2
  go_loopw [7, 8] (fun v i wr => ∃ k : Nat, Rel n p w.heap.size w k v i wr) (fun _ i _ => n - (intOf i).toNat)
  case atStart => exact ⟨0, Nat.zero_le _, rfl, ⟨S1, h1, g1, by simp [Value.ownBlock]⟩, World.ownsRow_nil _ _ _ _, b1⟩
  case round =>
    obtain ⟨k, hk, rfl, ⟨S, hp, gS, vS⟩, ow, br⟩ := hrel
    clear h1 g1 b1
    by_cases hlt : k < n
    · obtain ⟨us, ut, um⟩ := unl k (by omega)
      have NS := Lib.hid (nums_succ k)
      go_wp2_with fail
      refine (pt_fresh hp (fill_ok n k n1 n2 hk) rfl k rfl (by rw [fill_tags]; exact hlt) ((k : Int) + 1) (fill_link n k k) _ (fill_step n k hlt)).mono ?_
      rintro e w2 ⟨rfl, S2, h2, k2, g2⟩
      have v2 : ∀ g, Value.ownBlock _ = some g → ¬ S2 g := fun g hg x => by have l := ow.lt hg; rcases g2 g x with y | y; exact vS g hg y; omega
      have ow2 := ow.keep k2 vS
      obtain ⟨b2, g2⟩ := pkeep_ge k2 gS br.size g2
      have b2 := br.trans b2
      clear hp ow vS br
      go_wp2_with fail
      refine (unlink_to ((k : Int) + 1) k 0 false (by omega) (by omega) us ut um _).mono ?_
      rintro e w' ⟨rfl, rfl⟩
      go_wp2_with (with_reducible refine wp_stop 70 rfl ?_)
      intro _
      refine wp_push rfl (.tmp 67) (.tmp 69) rfl w.heap.size b2.size u7 (nums k) rfl ow2 ((k : Int) + 1) rfl (by rw [nums_len]; omega) ?_
      intro g c w3 o3 k3 hg
      have h3 := h2.keep k3 (fun x hx y => v2 x y hx)
      have b3 := b2.trans (k3.below b2.size (fun x hx => (ow2.lt hx).1))
      have v3 : ∀ x, S2 x → x ≠ g := fun x hx e => by subst e; rcases hg with y | y; exact v2 x y hx; have := h2.lt x hx; omega
      rw [← NS.out] at o3
      clear ow2 v2 k3 hg h2
      go_wp2
      go_roundw
      case rel => exact ⟨k + 1, by omega, by go_num, ⟨S2, h3, g2, fun x hx y => by simp [Value.ownBlock] at hx; exact v3 x y hx.symm⟩, o3, b3⟩
      case measure => simp [intOf]; omega
    · obtain rfl : k = n := by omega
      have ok := fill_ok k k n1 n2 (Nat.le_refl _)
      obtain ⟨g, c, hv⟩ : ∃ g c, u7 = .slice (some ⟨g, 0, none⟩) k c := by
        obtain ⟨g, c, e, _⟩ := own_some ow (fun e => by subst e; have := ow.1; obtain ⟨_, h2⟩ := ow; rcases h2 with ⟨_, h3⟩ | ⟨_, _, _, h3, _⟩; rw [nums_len] at h3; omega; simp at h3)
        exact ⟨g, c, by rw [e, nums_len]⟩
      subst hv
      have lt := (ow.lt rfl).2
      have gS2 := vS g rfl
      have hc := ow.cell j (by rw [nums_len]; exact hj)
      rw [nums_get k j hj] at hc
      have okG := ok_give ok (i := j) (by rw [fill_tags]; exact hj) (fill_tk k j hj) (by rw [fill_tag]; simp [fillS])
      have okT := (ok_takeGiven okG (gs := []) (i := j) rfl).2.2
      obtain ⟨sG, eG⟩ : ∃ s : St, { fillS k k with taken := (fillS k k).taken.set j false, tags := (fillS k k).tags.set j ((fillS k k).tag j + 1), given := (fillS k k).given ++ [(j : Int)] } = s := ⟨_, rfl⟩
      rw [eG] at okG okT
      obtain ⟨sT, eT⟩ : ∃ s : St, { sG with taken := sG.taken.set j true, given := [] } = s := ⟨_, rfl⟩
      rw [eT] at okT
      obtain ⟨gG, fG, lT, tT, iT, cT, nT⟩ := facts k j hj sG eG sT eT okT
      obtain ⟨l, el, l0, l1, hu, hvt, hmk, _⟩ := link_facts j 1 (by omega) (by omega) (by omega) (by omega)
      rw [el] at lT
      have EL := Lib.hid el
      have EG := Lib.hid eG
      have ET := Lib.hid eT
      clear el eG eT ow vS
      go_wp2_with fail
      refine (ptake_full hp ok rfl (by rw [fill_tags]; rfl)).mono ?_
      rintro e w2 ⟨rfl, S2, h2, k2, g2⟩
      have hc := k2.cell hc gS2
      have gS3 : ¬ S2 g := fun x => by rcases g2 g x with y | y; exact gS2 y; omega
      have lt := Nat.lt_of_lt_of_le lt k2.size
      obtain ⟨b2, g2⟩ := pkeep_ge k2 gS br.size g2
      have b2 := br.trans b2
      clear k2 hp gS br
      go_wp2_with fail
      refine (pg_ok h2 ok j (by rw [fill_tags]; exact hj) (fill_tk k j hj) (by rw [fill_tag]; simp [fillS]) ((j : Int) + 1) (fill_link k k j) sG EG.out).mono ?_
      rintro e w3 ⟨rfl, S3, h3, k3, g3⟩
      have hc := k3.cell hc gS3
      have gS4 : ¬ S3 g := fun x => by rcases g3 g x with y | y; exact gS3 y; omega
      have lt := Nat.lt_of_lt_of_le lt k3.size
      obtain ⟨b3, g3⟩ := pkeep_ge k3 g2 b2.size g3
      have b3 := b2.trans b3
      clear k3 h2 g2 b2
      go_wp2_with fail
      refine (pf_to h3 okG 1 fG).mono ?_
      rintro e w4 ⟨rfl, S4, h4, k4, g4⟩
      have hc := k4.cell hc gS4
      have gS5 : ¬ S4 g := fun x => by rcases g4 g x with y | y; exact gS4 y; omega
      have lt := Nat.lt_of_lt_of_le lt k4.size
      obtain ⟨b4, g4⟩ := pkeep_ge k4 g3 b3.size g4
      have b4 := b3.trans b4
      clear k4 h3 g3 b3
      go_wp2_with fail
      refine (pt_given h4 okG [] j gG l lT sT ET.out).mono ?_
      rintro e w5 ⟨rfl, S5, h5, k5, g5⟩
      have hc := k5.cell hc gS5
      obtain ⟨b5, g5⟩ := pkeep_ge k5 g4 b4.size g5
      have b5 := b4.trans b5
      clear k5 h4 g4 b4
      go_wp2_with fail
      refine (unlink_to l j 1 false (by omega) (by omega) hu hvt hmk _).mono ?_
      rintro e w' ⟨rfl, rfl⟩
      go_wp2_with fail
      refine (plive_no h5 okT ((j : Int) + 1) (by omega) (by omega) nT).mono ?_
      rintro e w6 ⟨rfl, S6, h6, k6, g6⟩; obtain ⟨b6, g6⟩ := pkeep_ge k6 g5 b5.size g6; have b6 := b5.trans b6; clear k6 h5 g5 b5
      go_wp2_with fail
      refine (pl_yes h6 okT j iT tT l (by rw [← EL.out]; exact lT2 k j sG sT EG.out ET.out hj)).mono ?_
      rintro e w7 ⟨rfl, S7, h7, k7, g7⟩; obtain ⟨b7, g7⟩ := pkeep_ge k7 g6 b6.size g7; have b7 := b6.trans b7; clear k7 h6 g6 b6
      go_wp2_with fail
      refine (pu_to h7 okT k cT).mono ?_
      rintro e w8 ⟨rfl, S8, h8, k8, g8⟩; obtain ⟨b8, g8⟩ := pkeep_ge k8 g7 b7.size g8; have b8 := b7.trans b8; clear k8 h7 g7 b7
      go_wp2_with fail
      refine (awake3_any _).mono ?_
      rintro e w9 ⟨rfl, b9⟩
      go_wp2
      go_ret
      exact ⟨rfl, b8.trans (b9.mono b8.size)⟩
theorem own : ownKnob Try.prog.godebug = none := by kernel_rfl
theorem laidOut : laidOutB Try.prog = true := by kernel_rfl
set_option maxRecDepth 100000 in
theorem lifted (os : Os) (started : os.Started) (H : Type) (enc : TypeId × Value → H) :
    ReturnsInHanded {} Try.checked os 7 .any (Rows.poolFillsSpec.pre6 enc Try.prog Try.f7 Rows.poolFillsRow.domain false) (Rows.poolFillsSpec.post enc Try.prog Try.f7 false true false false) := by
  refine returnsInHanded_of_change (C := Try.checked) own started (by kernel_rfl) Try.func7
    (ChangeSpec.witness6 (enc := enc) (C := Try.checked) false ⟨#[], #[.int .i64 0, .int .i64 0], []⟩ 8 (by kernel_rfl) (by kernel_rfl) (by kernel_rfl) (by kernel_rfl)) ?_
  intro W base args ds gs before hval0 hW hcnd _
  have hval : ∀ (j : Nat) t v, Try.f7.params[j]? = some t → args[j]? = some v → Value.okWide Try.prog W .any base t v := hval0
  have hW' := hW
  obtain ⟨p, q, hA0, hV, rfl, hfz, hnd⟩ := hW
  have hA : DataW.TrodAll enc Try.prog W 0 (fun _ => true) true Try.f7.params.toList args.toList ds p := hA0
  rw [Try.params7] at hA hval
  obtain ⟨v0, vs0, d0, ds0, p0, q0, hargs, rfl, rfl, h0, r0⟩ := trodAll_cons hA
  obtain ⟨v1, vs1, d1, ds1, p1, q1, rfl, rfl, rfl, h1, r1⟩ := trodAll_cons r0
  obtain ⟨rfl, rfl, rfl⟩ := trodAll_nil r1
  obtain rfl : args = #[v0, v1] := by cases args; simp_all
  obtain ⟨rfl, rfl⟩ := trodVars_none hV
  obtain ⟨a0, rfl, rfl, rfl, w0⟩ := open_int Try.underlying3 (hval 0 3 v0 rfl rfl) h0
  obtain ⟨a1, rfl, rfl, rfl, w1⟩ := open_int Try.underlying3 (hval 1 3 v1 rfl rfl) h1
  clear hA0 hval0
  refine (walk a0 a1 W w0 w1).mono fun e W' ⟨he, bel⟩ => ?_
  subst he
  exact ⟨_, rfl, _, _, _, [], _, [], hW', trodAll_mk1 (shut_bool Try.underlying4 _), (trodAll_cons_mk (shut_int Try.underlying3 w0) (trodAll_cons_mk (shut_int Try.underlying3 w1) trodAll_mk0)), rfl, bel.frame _, fun h => by cases h⟩
theorem over : Rows.poolFillsRow.holds Try.pinned (OpenSpec.ofChange Rows.poolFillsSpec) :=
  OpenClaim.holds_of_wide 7 Try.f7 rfl rfl rfl rfl rfl rfl rfl ⟨rfl, rfl, rfl, rfl, rfl⟩ rfl rfl rfl rfl rfl (by kernel_rfl) Try.func7 (by kernel_rfl)
    (of_decide_eq_true (by kernel_rfl)) (by unfold Func.isWrapper; first | (rw [if_pos (by decide +kernel)]; kernel_rfl) | (rw [if_neg (by decide +kernel)]; exact ⟨rfl, rfl⟩))
    (fun os started H enc _ => lifted os started H enc)
theorem proved : Rows.PoolFillsSaid := over
#print axioms proved
end Go.Proofs.Ytecnlneilgiheaa.poolFills
