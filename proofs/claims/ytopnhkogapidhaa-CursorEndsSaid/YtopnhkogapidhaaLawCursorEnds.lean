/- Proved here: vinculumlaw12.CursorEnds returns true and leaves its arguments as they were, for any three ints; no further condition. -/
import Derived.Test.YtopnhkogapidhaaCuD
import Derived.Test.YtopnhkogapidhaaMask
import Derived.ChangeOld
import Derived.Deep.CutRange
namespace Go.Proofs.Ytopnhkogapidhaa.cursorEnds
open Go.ChangeShapes Go.WideShapes Go.ChangeAt Go.RowKit
set_option linter.unusedVariables false

def oneK (k : Nat) : Nat → Nat := fun j => if j = k then 1 else 0
theorem none_rng (lo hi : Int) : ∀ m, rngT (fun _ => 0) lo hi m = []
  | 0 => rfl
  | m + 1 => by unfold rngT; rw [if_neg (by simp), none_rng lo hi m]
theorem one_rng {k : Nat} : ∀ m, rngT (oneK k) k k m = if k < m then [(k : Int)] else []
  | 0 => rfl
  | m + 1 => by
    unfold rngT
    rw [one_rng m]
    by_cases e : m = k
    · subst e
      rw [if_pos ⟨by unfold oneK; rw [if_pos rfl]; omega, Int.le_refl _, Int.le_refl _⟩, if_neg (Nat.lt_irrefl _), if_pos (Nat.lt_succ_self _)]
      rfl
    · rw [if_neg (by unfold oneK; rw [if_neg e]; omega)]
      have e3 : (k < m + 1) = (k < m) := propext ⟨fun _ => by omega, fun _ => by omega⟩
      simp only [e3]
theorem after_rng {k : Nat} : ∀ m, rngT (oneK k) ((k : Int) + 1) k m = []
  | 0 => rfl
  | m + 1 => by unfold rngT; rw [if_neg (by omega), after_rng m]
set_option maxRecDepth 100000 in
set_option maxHeartbeats 8000000 in
theorem walk (a0 a1 a2 : Int) (w : World) (w0 : (Lit.int .i64 a0).wf = true) (w1 : (Lit.int .i64 a1).wf = true) (w2 : (Lit.int .i64 a2).wf = true) :
    Calls Try.prog 4 #[.int .i64 a0, .int .i64 a1, .int .i64 a2] w fun e w' => e = .returned (.bool true) ∧ Below w.heap.size w w' := by
  obtain ⟨l0, el⟩ : ∃ n : Nat, a0 % 64 = (n : Int) := ⟨(a0 % 64).toNat, by omega⟩
  obtain ⟨h0, eh⟩ : ∃ n : Nat, a1 % 64 = (n : Int) := ⟨(a1 % 64).toNat, by omega⟩
  obtain ⟨k, ek⟩ : ∃ n : Nat, a2 % 64 = (n : Int) := ⟨(a2 % 64).toNat, by omega⟩
  have lb : l0 < 64 := by omega
  have hb : h0 < 64 := by omega
  have kb : k < 64 := by omega
  have m0 : bits .and .i64 a0 63 = (l0 : Int) := (i64_mask a0 6 (by decide)).trans el
  have m1 : bits .and .i64 a1 63 = (h0 : Int) := (i64_mask a1 6 (by decide)).trans eh
  have m2 : bits .and .i64 a2 63 = (k : Int) := (i64_mask a2 6 (by decide)).trans ek
  clear el eh ek w0 w1 w2
  go_enter Try.func4, Try.ntmps4
  go_wp2_with fail
  refine (k_tnew _).mono ?_
  rintro e y1 ⟨t, S1, rfl, C1⟩
  go_upto_if 31 with fail
  go_cut [0, 1] from 23 to 127 (fun l h wx => (∃ lo hi : Nat, l = .int .i64 lo ∧ h = .int .i64 hi ∧ lo ≤ hi ∧ hi < 64) ∧ y1 = wx)
  case first =>
    by_cases hc : (h0 : Int) < (l0 : Int)
    · have d1 : decide ((h0 : Int) < (l0 : Int)) = true := decide_eq_true hc
      go_wp2_with fail
      go_meet
      case rel => exact ⟨⟨h0, l0, rfl, rfl, by omega, lb⟩, rfl⟩
    · have d1 : decide ((h0 : Int) < (l0 : Int)) = false := decide_eq_false hc
      go_wp2_with fail
      go_meet
      case rel => exact ⟨⟨l0, h0, rfl, rfl, by omega, hb⟩, rfl⟩
  case rest =>
  obtain ⟨⟨lo, hi, rfl, rfl, hle, hi64⟩, rfl⟩ := hcut
  clear m0 m1 m2
  have n1 : nextC (fun _ => 0) (CS.new lo hi) = (0, false, ⟨lo, hi, -1, true⟩) := by unfold nextC CS.new; rw [if_neg (by simp), none_rng]
  have n2 : ∀ th, nextC th ⟨lo, hi, -1, true⟩ = (0, false, ⟨lo, hi, -1, true⟩) := fun th => by unfold nextC; rw [if_pos rfl]
  have p1 : putT (fun _ => 0) (k : Int) 1 = (true, 0, oneK k) := by
    unfold putT
    rw [if_neg (by omega), if_neg (Nat.lt_irrefl 0), show (k : Int).toNat = k by omega]
    rfl
  have n3 : nextC (oneK k) (CS.new (k : Int) (k : Int)) = ((k : Int), true, ⟨(k : Int), (k : Int), (k : Int), false⟩) := by
    unfold nextC CS.new CS.from'
    rw [if_neg (by simp), if_pos (show (-1 : Int) < 0 by omega), one_rng, if_pos kb]
  have n4 : nextC (oneK k) ⟨(k : Int), (k : Int), (k : Int), false⟩ = (0, false, ⟨(k : Int), (k : Int), (k : Int), true⟩) := by
    unfold nextC CS.from'
    rw [if_neg (by simp), if_neg (show ¬ ((k : Int) < 0) by omega), after_rng]
  have N1 := Lib.hid n1
  have N2 := Lib.hid (n2 (oneK k))
  have P1 := Lib.hid p1
  have N3 := Lib.hid n3
  have N4 := Lib.hid n4
  clear n1 n2 p1 n3 n4
  go_wp2_with fail
  refine (k_new C1 (lo : Int) (hi : Int) ⟨by omega, by omega, by omega⟩).mono ?_
  rintro e z1 ⟨q, S2, rfl, hq, C2, _⟩
  clear C1
  go_wp2_with fail
  refine (k_done C2 _ updC_at false rfl).mono ?_
  rintro e z2 ⟨rfl, S3, C3, _⟩
  clear C2
  go_wp2_with fail
  refine (k_at C3 _ updC_at (-1) rfl).mono ?_
  rintro e z3 ⟨rfl, S4, C4, _⟩
  clear C3
  go_wp2_with fail
  refine (k_next C4 _ updC_at _ _ _ N1.out).mono ?_
  rintro e z4 ⟨rfl, S5, C5, _⟩
  clear C4
  go_wp2_with fail
  refine (k_done C5 _ updC_at true rfl).mono ?_
  rintro e z5 ⟨rfl, S6, C6, _⟩
  clear C5
  go_wp2_with fail
  refine (k_put C6 _ _ _ _ _ P1.out).mono ?_
  rintro e z6 ⟨rfl, S7, C7, _⟩
  clear C6
  go_wp2_with fail
  refine (k_next C7 _ updC_at _ _ _ N2.out).mono ?_
  rintro e z7 ⟨rfl, S8, C8, _⟩
  clear C7
  go_wp2_with fail
  refine (k_done C8 _ updC_at true rfl).mono ?_
  rintro e z8 ⟨rfl, S9, C9, _⟩
  clear C8
  go_wp2_with fail
  refine (k_at C9 _ updC_at (-1) rfl).mono ?_
  rintro e z9 ⟨rfl, S10, C10, _⟩
  clear C9
  go_wp2_with fail
  refine (k_new C10 (k : Int) (k : Int) ⟨by omega, by omega, by omega⟩).mono ?_
  rintro e z10 ⟨q2, S11, rfl, hq2, C11, _⟩
  clear C10
  go_wp2_with fail
  refine (k_next C11 _ updC_at _ _ _ N3.out).mono ?_
  rintro e z11 ⟨rfl, S12, C12, _⟩
  clear C11
  go_wp2_with fail
  refine (k_next C12 _ updC_at _ _ _ N4.out).mono ?_
  rintro e z12 ⟨rfl, S13, C13, _⟩
  clear C12
  go_wp2_with fail
  refine (k_at C13 _ updC_at (k : Int) rfl).mono ?_
  rintro e z13 ⟨rfl, S14, C14, _⟩
  clear C13
  go_wp2_with fail
  refine (awake12_any _).mono ?_
  rintro e z14 ⟨rfl, b14⟩
  go_wp2
  go_ret
  exact ⟨rfl, C14.b.trans (b14.mono C14.b.size)⟩
theorem own : ownKnob Try.prog.godebug = none := by kernel_rfl
theorem laidOut : laidOutB Try.prog = true := by kernel_rfl
set_option maxRecDepth 100000 in
theorem lifted (os : Os) (started : os.Started) (H : Type) (enc : TypeId × Value → H) :
    ReturnsInHanded {} Try.checked os 4 .any (Rows.cursorEndsSpec.pre6 enc Try.prog Try.f4 Rows.cursorEndsRow.domain false) (Rows.cursorEndsSpec.post enc Try.prog Try.f4 false true false false) := by
  refine returnsInHanded_of_change (C := Try.checked) own started (by kernel_rfl) Try.func4
    (ChangeSpec.witness6 (enc := enc) (C := Try.checked) false ⟨#[], #[.int .i64 0, .int .i64 0, .int .i64 0], []⟩ 8 (by kernel_rfl) (by kernel_rfl) (by kernel_rfl) (by kernel_rfl)) ?_
  intro W base args ds gs before hval0 hW hcnd _
  have hval : ∀ (j : Nat) t v, Try.f4.params[j]? = some t → args[j]? = some v → Value.okWide Try.prog W .any base t v := hval0
  have hW' := hW
  obtain ⟨p, q, hA0, hV, rfl, hfz, hnd⟩ := hW
  have hA : DataW.TrodAll enc Try.prog W 0 (fun _ => true) true Try.f4.params.toList args.toList ds p := hA0
  rw [Try.params4] at hA hval
  obtain ⟨v0, vs0, d0, ds0, p0, q0, hargs, rfl, rfl, h0, r0⟩ := trodAll_cons hA
  obtain ⟨v1, vs1, d1, ds1, p1, q1, rfl, rfl, rfl, h1, r1⟩ := trodAll_cons r0
  obtain ⟨v2, vs2, d2, ds2, p2, q2, rfl, rfl, rfl, h2, r2⟩ := trodAll_cons r1
  obtain ⟨rfl, rfl, rfl⟩ := trodAll_nil r2
  obtain rfl : args = #[v0, v1, v2] := by cases args; simp_all
  obtain ⟨rfl, rfl⟩ := trodVars_none hV
  obtain ⟨a0, rfl, rfl, rfl, w0⟩ := open_int Try.underlying3 (hval 0 3 v0 rfl rfl) h0
  obtain ⟨a1, rfl, rfl, rfl, w1⟩ := open_int Try.underlying3 (hval 1 3 v1 rfl rfl) h1
  obtain ⟨a2, rfl, rfl, rfl, w2⟩ := open_int Try.underlying3 (hval 2 3 v2 rfl rfl) h2
  clear hA0 hval0
  refine (walk a0 a1 a2 W w0 w1 w2).mono fun e W' ⟨he, bel⟩ => ?_
  subst he
  exact ⟨_, rfl, _, _, _, [], _, [], hW', trodAll_mk1 (shut_bool Try.underlying4 _), (trodAll_cons_mk (shut_int Try.underlying3 w0) (trodAll_cons_mk (shut_int Try.underlying3 w1) (trodAll_cons_mk (shut_int Try.underlying3 w2) trodAll_mk0))), rfl, bel.frame _, fun h => by cases h⟩
theorem over : Rows.cursorEndsRow.holds Try.pinned (OpenSpec.ofChange Rows.cursorEndsSpec) :=
  OpenClaim.holds_of_wide 4 Try.f4 rfl rfl rfl rfl rfl rfl rfl ⟨rfl, rfl, rfl, rfl, rfl⟩ rfl rfl rfl rfl rfl (by kernel_rfl) Try.func4 (by kernel_rfl)
    (of_decide_eq_true (by kernel_rfl)) (by unfold Func.isWrapper; first | (rw [if_pos (by decide +kernel)]; kernel_rfl) | (rw [if_neg (by decide +kernel)]; exact ⟨rfl, rfl⟩))
    (fun os started H enc _ => lifted os started H enc)
theorem proved : Rows.CursorEndsSaid := over
#print axioms proved
end Go.Proofs.Ytopnhkogapidhaa.cursorEnds
