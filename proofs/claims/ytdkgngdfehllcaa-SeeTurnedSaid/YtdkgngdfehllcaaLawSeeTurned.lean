/- Proved here: vinculumlaw7.SeeTurned returns true and leaves its arguments as they were, for every kind, every number, anyone who looks, any time, and whatever is told of transactions; no further condition. -/
import Derived.Test.YtdkgngdfehllcaaSeeW
import Derived.Test.YtdkgngdfehllcaaSameN
import Derived.Test.YtdkgngdfehllcaaSeeF
import Derived.ChangeOld
import Derived.Deep.QuietTactic
import Derived.BigQuiet
namespace Go.Proofs.Ytdkgngdfehllcaa.seeTurned
open Go.ChangeShapes Go.WideShapes Go.ChangeAt Go.RowKit
set_option linter.unusedVariables false

/-- The time of a word of one that has committed; false: it is none. -/
def ofX (L : Int → Option Tx) (b : Int) : Int × Bool := if rdK b = 2 then (match L (rdN b) with
  | some x => (x.e, decide (x.st = 3 ∧ x.e ≤ 1099511627776))
  | none => (0, false)) else (0, false)
def turnI (L : Int → Option Tx) (b : Int) : Int := if (ofX L b).2 = true then (ofX L b).1 else b
theorem ofX_true {L : Int → Option Tx} {b : Int} (h : (ofX L b).2 = true) : ∃ x, rdK b = 2 ∧ L (rdN b) = some x ∧ x.st = 3 ∧ x.e ≤ 1099511627776 ∧ (ofX L b).1 = x.e := by
  unfold ofX at h ⊢
  by_cases hk : rdK b = 2
  · rw [if_pos hk] at h ⊢
    cases hL : L (rdN b) with
    | none => rw [hL] at h; cases h
    | some x =>
      rw [hL] at h
      have := of_decide_eq_true h
      exact ⟨x, hk, rfl, this.1, this.2, rfl⟩
  · rw [if_neg hk] at h; cases h
theorem timeL_b (L : Int → Option Tx) (a me t : Int) (h : a ≤ 1099511627776) : beginI L a me t = (if a ≤ t then 1 else 2, 0) := by
  unfold beginI
  have : rdK a = 1 := by unfold rdK; rw [if_pos h]
  by_cases h1 : a ≤ t
  · rw [if_pos ⟨this, h1⟩, if_pos h1]
  · rw [if_neg (fun x => h1 x.2), if_neg (by rw [this]; decide), if_neg h1]
theorem timeL_e (L : Int → Option Tx) (a me t : Int) (h : a ≤ 1099511627776) : endI L a me t = (if a ≤ t then 1 else 2, 0) := by
  unfold endI
  have : rdK a = 1 := by unfold rdK; rw [if_pos h]
  rw [if_neg (by rw [this]; decide)]
  by_cases h1 : a ≤ t
  · rw [if_neg (by rw [this]; omega), if_pos h1]
  · rw [if_pos (.inr ⟨this, by omega⟩), if_neg h1]
theorem txnL_b (L : Int → Option Tx) (b me t : Int) (h : rdK b = 2) : beginI L b me t = byI L (rdN b) me t := by
  unfold beginI
  rw [if_neg (by rw [h]; omega), if_pos h]
theorem txnL_e (L : Int → Option Tx) (b me t : Int) (h : rdK b = 2) : endI L b me t = byI L (rdN b) me t := by
  unfold endI
  rw [if_pos h]
theorem by_done (L : Int → Option Tx) (id me t : Int) (x : Tx) (hL : L id = some x) (hm : id ≠ me) (hs : x.st = 3) : byI L id me t = (if x.e ≤ t then 1 else 2, 0) := by
  unfold byI
  rw [if_neg hm, hL]
  show byX x id t = _
  unfold byX
  rw [if_neg (by omega)]
  by_cases h1 : x.e ≤ t
  · rw [if_pos ⟨hs, h1⟩, if_pos h1]
  · rw [if_neg (fun z => h1 z.2), if_neg (by omega), if_neg h1]
theorem turn_b (L : Int → Option Tx) (b me t : Int) (hm : ∀ id x, L id = some x → id ≠ me) : beginI L (turnI L b) me t = beginI L b me t := by
  unfold turnI
  split
  · rename_i h
    obtain ⟨x, hk, hL, hs, he, e1⟩ := ofX_true h
    rw [e1, timeL_b L _ me t he, txnL_b L b me t hk, by_done L _ me t x hL (hm _ _ hL) hs]
  · rfl
theorem turn_e (L : Int → Option Tx) (b me t : Int) (hm : ∀ id x, L id = some x → id ≠ me) : endI L (turnI L b) me t = endI L b me t := by
  unfold turnI
  split
  · rename_i h
    obtain ⟨x, hk, hL, hs, he, e1⟩ := ofX_true h
    rw [e1, timeL_e L _ me t he, txnL_e L b me t hk, by_done L _ me t x hL (hm _ _ hL) hs]
  · rfl
theorem turn_see (L : Int → Option Tx) (b e me t : Int) (hm : ∀ id x, L id = some x → id ≠ me) : seeI L (turnI L b) (turnI L e) me t = seeI L b e me t := by
  unfold seeI
  rw [turn_b L b me t hm, turn_e L e me t hm]
section
variable {w : World} {A : Option Addr} {n c : Nat} {f : Nat → Ot}
theorem of_any (h : IsOth w A n c f) (a : Int) (a0 : 0 ≤ a) (a1 : a ≤ 18446744073709551615) :
    Calls Try.prog 22 #[.int .u64 a, .slice A n c] w fun e w' => e = .returned (.tuple #[.int .u64 (ofX (lookL f n) a).1, .bool (ofX (lookL f n) a).2]) ∧ Below w.heap.size w w' := by
  have hb := rd_bd a a0 a1
  by_cases hk : rdK a = 2
  · obtain ⟨x, ok, ev, e1, e2⟩ : ∃ (x : Tx) (ok : Bool), lookV (lookL f n (rdN a)) = .tuple #[txV x, .bool ok] ∧ (ofX (lookL f n) a).1 = x.e ∧ (ofX (lookL f n) a).2 = (ok && decide (x.st = 3) && decide (x.e ≤ 1099511627776)) := by
      unfold ofX
      rw [if_pos hk]
      cases lookL f n (rdN a) with
      | none => exact ⟨⟨0, 0, 0, 0⟩, false, rfl, rfl, rfl⟩
      | some x => exact ⟨x, true, rfl, rfl, by simp⟩
    rw [e1, e2]
    have hk2 : 1 ≤ rdN a ∧ rdN a ≤ 65535 := by rcases rd_cases a with ⟨_, h1, h2⟩ | ⟨_, h1, h2⟩ | ⟨_, _, h1, h2⟩ | ⟨_, _, _, h1, h2⟩ <;> omega
    obtain ⟨id, eid⟩ : ∃ id, rdN a = id := ⟨_, rfl⟩
    rw [eid] at ev hk2
    have hR := readr_any a a0 a1
    rw [hk, eid] at hR
    have hL := fun (w1 : World) (h1 : IsOth w1 A n c f) => look_any h1 id (by omega) (by omega)
    rw [ev] at hL
    unfold txV at hL
    clear ev e1 e2 hk eid hb
    cases ok with
    | false => go_enter Try.func22, Try.ntmps22; go_wp2_with fail; refine (hR _).mono ?_; rintro e w1 ⟨rfl, b1⟩; go_wp2_with fail; have k1 := (Keep.alloc (Keep.refl (fun _ => False) w1) (.cells #[.int .i64 2, .int .u64 id] 52)).below b1.size (by simp); have h1 := h.below (b1.trans k1); refine (hL _ h1).mono ?_; rintro e w2 ⟨rfl, b2⟩; go_wp2; go_quiet (fail); go_wp2; go_ret2; exact ⟨rfl, (thru (thru (b1.trans k1) b2) ((Keep.refl (fun _ => False) w2).alloc _ |>.below (Nat.le_refl _) (by simp))).trans ((drewN_keep (fun _ => False) _ _).below (by simp; have := (b1.trans k1).size; have := b2.size; omega) (by simp))⟩
    | true =>
      by_cases h3 : x.st = 3
      · have d1 : decide (x.st = 3) = true := decide_eq_true h3
        have d2 : (x.st == 3) = true := by simpa using h3
        by_cases h4 : x.e ≤ 1099511627776
        · have d3 : decide (x.e ≤ 1099511627776) = true := decide_eq_true h4
          rw [d1, d3]
          go_enter Try.func22, Try.ntmps22; go_wp2_with fail; refine (hR _).mono ?_; rintro e w1 ⟨rfl, b1⟩; go_wp2_with fail; have k1 := (Keep.alloc (Keep.refl (fun _ => False) w1) (.cells #[.int .i64 2, .int .u64 id] 52)).below b1.size (by simp); have h1 := h.below (b1.trans k1); refine (hL _ h1).mono ?_; rintro e w2 ⟨rfl, b2⟩; go_wp2; go_quiet (fail); go_wp2; go_ret2; exact ⟨rfl, (thru (thru (b1.trans k1) b2) ((Keep.refl (fun _ => False) w2).alloc _ |>.below (Nat.le_refl _) (by simp))).trans ((drewN_keep (fun _ => False) _ _).below (by simp; have := (b1.trans k1).size; have := b2.size; omega) (by simp))⟩
        · have d3 : decide (x.e ≤ 1099511627776) = false := decide_eq_false h4
          rw [d1, d3]
          go_enter Try.func22, Try.ntmps22; go_wp2_with fail; refine (hR _).mono ?_; rintro e w1 ⟨rfl, b1⟩; go_wp2_with fail; have k1 := (Keep.alloc (Keep.refl (fun _ => False) w1) (.cells #[.int .i64 2, .int .u64 id] 52)).below b1.size (by simp); have h1 := h.below (b1.trans k1); refine (hL _ h1).mono ?_; rintro e w2 ⟨rfl, b2⟩; go_wp2; go_quiet (fail); go_wp2; go_ret2; exact ⟨rfl, (thru (thru (b1.trans k1) b2) ((Keep.refl (fun _ => False) w2).alloc _ |>.below (Nat.le_refl _) (by simp))).trans ((drewN_keep (fun _ => False) _ _).below (by simp; have := (b1.trans k1).size; have := b2.size; omega) (by simp))⟩
      · have d1 : decide (x.st = 3) = false := decide_eq_false h3
        have d2 : (x.st == 3) = false := by simpa using h3
        rw [d1]
        go_enter Try.func22, Try.ntmps22; go_wp2_with fail; refine (hR _).mono ?_; rintro e w1 ⟨rfl, b1⟩; go_wp2_with fail; have k1 := (Keep.alloc (Keep.refl (fun _ => False) w1) (.cells #[.int .i64 2, .int .u64 id] 52)).below b1.size (by simp); have h1 := h.below (b1.trans k1); refine (hL _ h1).mono ?_; rintro e w2 ⟨rfl, b2⟩; go_wp2; go_quiet (fail); go_wp2; go_ret2; exact ⟨rfl, (thru (thru (b1.trans k1) b2) ((Keep.refl (fun _ => False) w2).alloc _ |>.below (Nat.le_refl _) (by simp))).trans ((drewN_keep (fun _ => False) _ _).below (by simp; have := (b1.trans k1).size; have := b2.size; omega) (by simp))⟩
  · have e1 : ofX (lookL f n) a = (0, false) := by unfold ofX; rw [if_neg hk]
    rw [e1]
    have hR := readr_any a a0 a1
    obtain ⟨k, ek⟩ : ∃ k, rdK a = k := ⟨_, rfl⟩
    rw [ek] at hR hk
    have d1 : (k != 2) = true := by simpa using hk
    clear ek e1
    go_enter Try.func22, Try.ntmps22
    go_wp2_with fail
    refine (hR _).mono ?_
    rintro e w1 ⟨rfl, b1⟩
    go_wp2
    go_ret2
    exact ⟨rfl, b1.trans ((Keep.alloc (Keep.refl (fun _ => False) w1) _).below b1.size (by simp))⟩
end
theorem look_fit {w : World} {A : Option Addr} {n c : Nat} {f : Nat → Ot} (h : IsOth w A n c f) {id : Int} {x : Tx} (hL : lookL f n id = some x) : 1 ≤ id ∧ id ≤ n ∧ TxFit x := by
  unfold lookL at hL
  split at hL
  · rename_i h1
    cases hL
    exact ⟨h1.1, h1.2.1, h.ok _ (by omega)⟩
  · cases hL
theorem turn_bd {w : World} {A : Option Addr} {n c : Nat} {f : Nat → Ot} (h : IsOth w A n c f) (b : Int) (b0 : 0 ≤ b) (b1 : b ≤ 18446744073709551615) : 0 ≤ turnI (lookL f n) b ∧ turnI (lookL f n) b ≤ 18446744073709551615 := by
  unfold turnI
  split
  · rename_i hh
    obtain ⟨x, hk, hL, hs, he, e1⟩ := ofX_true hh
    have := (look_fit h hL).2.2.e0
    omega
  · exact ⟨b0, b1⟩
theorem start (w : World) (A : Option Addr) (n c : Nat) (f : Nat → Ot) (h : IsOth w A n c f) : Below w.heap.size w (w.alloc (.cells #[.slice A n c] 32)) ∧ Told w.heap.size A n c f (w.alloc (.cells #[.slice A n c] 32)) := by
  have k := (Keep.alloc (Keep.refl (fun _ => False) w) (.cells #[.slice A n c] 32)).below (Nat.le_refl _) (by simp)
  exact ⟨k, by simp, h.below k⟩
set_option maxHeartbeats 8000000 in
theorem walk (a0 a1 a2 a3 a4 a5 : Int) (A : Option Addr) (n c : Nat) (f : Nat → Ot) (w : World) (w0 : (Lit.int .i64 a0).wf = true) (w1 : (Lit.int .u64 a1).wf = true) (w2 : (Lit.int .i64 a2).wf = true) (w3 : (Lit.int .u64 a3).wf = true) (w4 : (Lit.int .i64 a4).wf = true) (w5 : (Lit.int .u64 a5).wf = true) (w6 : IsOth w A n c f) :
    Calls Try.prog 4 #[.int .i64 a0, .int .u64 a1, .int .i64 a2, .int .u64 a3, .int .i64 a4, .int .u64 a5, .slice A n c] w fun e w' => e = .returned (.bool true) ∧ Below w.heap.size w w' := by
  obtain ⟨p0, p1⟩ := bounds_u64 w1
  obtain ⟨q0, q1⟩ := bounds_u64 w3
  have hcap := w6.cap
  have hmax := w6.max
  obtain ⟨hB, hT⟩ := start w A n c f w6
  by_cases hn : 20 < n
  · have d1 : decide (20 < n) = true := decide_eq_true hn
    go_enter Try.func4, Try.ntmps4
    go_wp2_with fail
    refine (awake7_any _).mono ?_
    rintro e z2 ⟨rfl, b2⟩
    go_wp2
    go_ret
    exact ⟨rfl, thru hB b2⟩
  · have d1 : decide (20 < n) = false := decide_eq_false hn
    have hb := wordI_b a0 a1 p0 p1
    have he := wordI_b a2 a3 q0 q1
    have hW1 := word7_any a0 a1 p0 p1
    have hW2 := word7_any a2 a3 q0 q1
    have hm8 := i64_mask8 a4
    obtain ⟨m, em⟩ : ∃ m, a4 % 256 = m := ⟨_, rfl⟩
    rw [em] at hm8
    have hm : 0 ≤ m ∧ m ≤ 255 := by omega
    obtain ⟨b, eb⟩ : ∃ b, wordI a0 a1 = b := ⟨_, rfl⟩
    obtain ⟨e', ee⟩ : ∃ e, wordI a2 a3 = e := ⟨_, rfl⟩
    rw [eb] at hb hW1
    rw [ee] at he hW2
    have hne : ∀ id x, lookL f n id = some x → id ≠ m + 100 := fun id x hL => by have := look_fit w6 hL; omega
    have ts := turn_see (lookL f n) b e' (m + 100) a5 hne
    have tb := turn_bd w6 b hb.1 hb.2
    have te := turn_bd w6 e' he.1 he.2
    unfold turnI at ts tb te
    obtain ⟨⟨x1, o1⟩, eX⟩ : ∃ r, ofX (lookL f n) b = r := ⟨_, rfl⟩
    obtain ⟨⟨x2, o2⟩, eY⟩ : ∃ r, ofX (lookL f n) e' = r := ⟨_, rfl⟩
    rw [eX] at ts tb
    rw [eY] at ts te
    obtain ⟨⟨v, zs⟩, eS⟩ : ∃ r, seeI (lookL f n) b e' (m + 100) a5 = r := ⟨_, rfl⟩
    rw [eS] at ts
    have hz : zs.length ≤ 1 := by have := see_len (lookL f n) b e' (m + 100) a5; rw [eS] at this; exact this
    have hO1 := fun (w1 : World) (h1 : IsOth w1 A n c f) => of_any h1 b hb.1 hb.2
    have hO2 := fun (w1 : World) (h1 : IsOth w1 A n c f) => of_any h1 e' he.1 he.2
    rw [eX] at hO1
    rw [eY] at hO2
    clear eb ee em hne eX eY
    cases o1 <;> cases o2 <;> (dsimp only [Bool.false_eq_true, if_true, if_false] at ts tb te hO1 hO2; simp only [Bool.false_eq_true, if_true, if_false] at ts tb te)
    all_goals
      go_enter Try.func4, Try.ntmps4
      go_wp2_with fail
      refine (hW1 _).mono ?_
      rintro e z0 ⟨rfl, rfl⟩
      go_wp2_with fail
      refine (hW2 _).mono ?_
      rintro e z0 ⟨rfl, rfl⟩
      have c0 := hT.v
      go_wp2_with fail
      refine (hO1 _ hT.o).mono ?_
      rintro e z1 ⟨rfl, b1⟩
      have hT1 := (hT).below b1; have c1 := (hT1).v; clear c0; go_wp2_with fail
      refine (hO2 _ hT1.o).mono ?_
      rintro e z2 ⟨rfl, b2⟩
      have hT2 := (hT1).below b2; have c2 := (hT2).v; clear c1; go_wp2_with fail
      refine (psee_to (looks_turned _ _ _ _ _) hT2 b e' (m + 100) a5 v zs eS hb.1 hb.2 he.1 he.2).mono ?_
      rintro e z3 ⟨A5, k5, rfl, o5, b3⟩
      have hT3 := (hT2).below b3; have c3 := (hT3).v; clear c2; go_wp2_with fail
      refine (psee_to (looks_turned _ _ _ _ _) hT3 _ _ (m + 100) a5 v zs ts tb.1 tb.2 te.1 te.2).mono ?_
      rintro e z4 ⟨A6, k6, rfl, o6, b4⟩
      have o5 := OwnN.keep o5 (Keep.of_below b4 (fun _ => False)) (by simp)
      clear c3 eS ts
      go_wp2_with fail
      refine (sameN_own o5 o6 (by omega)).mono ?_
      rintro e z7 ⟨rfl, d7, rfl⟩
      go_wp2_with fail
      refine (awake7_any _).mono ?_
      rintro e z8 ⟨rfl, b8⟩
      go_wp2
      go_ret
      have b7 : Below z4.heap.size z4 (z4.drewN d7) := (drewN_keep (fun _ => False) z4 d7).below (Nat.le_refl _) (by simp)
      exact ⟨rfl, thru (thru (thru (thru (thru (thru hB b1) b2) b3) b4) b7) b8⟩
theorem own : ownKnob Try.prog.godebug = none := by kernel_rfl
theorem laidOut : laidOutB Try.prog = true := by kernel_rfl
set_option maxRecDepth 100000 in
theorem lifted (os : Os) (started : os.Started) (H : Type) (enc : TypeId × Value → H) :
    ReturnsInHanded {} Try.checked os 4 .any (Rows.seeTurnedSpec.pre6 enc Try.prog Try.f4 Rows.seeTurnedRow.domain false) (Rows.seeTurnedSpec.post enc Try.prog Try.f4 false true false false) := by
  refine returnsInHanded_of_change (C := Try.checked) own started (by kernel_rfl) Try.func4
    (ChangeSpec.witness6 (enc := enc) (C := Try.checked) false ⟨#[], #[.int .i64 0, .int .u64 0, .int .i64 0, .int .u64 0, .int .i64 0, .int .u64 0, .slice none 0 0], []⟩ 8 (by kernel_rfl) (by kernel_rfl) (by kernel_rfl) (by kernel_rfl)) ?_
  intro W base args ds gs before hval0 hW hcnd _
  have hval : ∀ (j : Nat) t v, Try.f4.params[j]? = some t → args[j]? = some v → Value.okWide Try.prog W .any base t v := hval0
  have hW' := hW
  obtain ⟨p, q, hA0, hV, rfl, hfz, hnd⟩ := hW
  have hA : DataW.TrodAll enc Try.prog W 0 (fun _ => true) true Try.f4.params.toList args.toList ds p := hA0
  rw [Try.params4] at hA hval
  obtain ⟨v0, vs0, d0, ds0, p0, q0, hargs, rfl, rfl, h0, r0⟩ := trodAll_cons hA
  obtain ⟨v1, vs1, d1, ds1, p1, q1, rfl, rfl, rfl, h1, r1⟩ := trodAll_cons r0
  obtain ⟨v2, vs2, d2, ds2, p2, q2, rfl, rfl, rfl, h2, r2⟩ := trodAll_cons r1
  obtain ⟨v3, vs3, d3, ds3, p3, q3, rfl, rfl, rfl, h3, r3⟩ := trodAll_cons r2
  obtain ⟨v4, vs4, d4, ds4, p4, q4, rfl, rfl, rfl, h4, r4⟩ := trodAll_cons r3
  obtain ⟨v5, vs5, d5, ds5, p5, q5, rfl, rfl, rfl, h5, r5⟩ := trodAll_cons r4
  obtain ⟨v6, vs6, d6, ds6, p6, q6, rfl, rfl, rfl, h6, r6⟩ := trodAll_cons r5
  obtain ⟨rfl, rfl, rfl⟩ := trodAll_nil r6
  obtain rfl : args = #[v0, v1, v2, v3, v4, v5, v6] := by cases args; simp_all
  obtain ⟨rfl, rfl⟩ := trodVars_none hV
  obtain ⟨a0, rfl, rfl, rfl, w0⟩ := open_int Try.underlying3 (hval 0 3 v0 rfl rfl) h0
  obtain ⟨a1, rfl, rfl, rfl, w1⟩ := open_int Try.underlying22 (hval 1 22 v1 rfl rfl) h1
  obtain ⟨a2, rfl, rfl, rfl, w2⟩ := open_int Try.underlying3 (hval 2 3 v2 rfl rfl) h2
  obtain ⟨a3, rfl, rfl, rfl, w3⟩ := open_int Try.underlying22 (hval 3 22 v3 rfl rfl) h3
  obtain ⟨a4, rfl, rfl, rfl, w4⟩ := open_int Try.underlying3 (hval 4 3 v4 rfl rfl) h4
  obtain ⟨a5, rfl, rfl, rfl, w5⟩ := open_int Try.underlying22 (hval 5 22 v5 rfl rfl) h5
  obtain ⟨a6, len6, cap6, rfl⟩ := okWide_slice Try.underlying32 (hval 6 32 v6 rfl rfl)
  have k6 := h6
  have lt6 : ∀ x ∈ p6, x.block < W.heap.size := by obtain ⟨m, hm⟩ := k6; exact DataW.trod_lt m _ _ _ hm
  obtain ⟨z6, w6⟩ : ∃ f, IsOth W a6 len6 cap6 f := is_oth h6
  clear hA0 hval0
  refine (walk a0 a1 a2 a3 a4 a5 a6 len6 cap6 z6 W w0 w1 w2 w3 w4 w5 w6).mono fun e W' ⟨he, bel⟩ => ?_
  subst he
  exact ⟨_, rfl, _, _, _, [], _, [], hW', trodAll_mk1 (shut_bool Try.underlying4 _), (trodAll_cons_mk (shut_int Try.underlying3 w0) (trodAll_cons_mk (shut_int Try.underlying22 w1) (trodAll_cons_mk (shut_int Try.underlying3 w2) (trodAll_cons_mk (shut_int Try.underlying22 w3) (trodAll_cons_mk (shut_int Try.underlying3 w4) (trodAll_cons_mk (shut_int Try.underlying22 w5) (trodAll_cons_mk (Below.trod laidOut (by kernel_rfl) (of_decide_eq_true (by kernel_rfl)) k6 bel lt6) trodAll_mk0))))))), rfl, bel.frame _, fun h => by cases h⟩
theorem over : Rows.seeTurnedRow.holds Try.pinned (OpenSpec.ofChange Rows.seeTurnedSpec) :=
  OpenClaim.holds_of_wide 4 Try.f4 rfl rfl rfl rfl rfl rfl rfl ⟨rfl, rfl, rfl, rfl, rfl⟩ rfl rfl rfl rfl rfl (by kernel_rfl) Try.func4 (by kernel_rfl)
    (of_decide_eq_true (by kernel_rfl)) (by unfold Func.isWrapper; first | (rw [if_pos (by decide +kernel)]; kernel_rfl) | (rw [if_neg (by decide +kernel)]; exact ⟨rfl, rfl⟩))
    (fun os started H enc _ => lifted os started H enc)
theorem proved : Rows.SeeTurnedSaid := over
end Go.Proofs.Ytdkgngdfehllcaa.seeTurned
