/- Proved here: vinculumlaw11.TowerHeights returns true and leaves its arguments as they were, for any three ints; no further condition. -/
import Derived.Test.YteaanaggcenloaaTwD
import Derived.Test.YteaanaggcenloaaMask
import Derived.ChangeOld
namespace Go.Proofs.Yteaanaggcenloaa.towerHeights
open Go.ChangeShapes Go.WideShapes Go.ChangeAt Go.RowKit
set_option linter.unusedVariables false

def one (k a : Nat) : Nat → Nat := fun j => if j = k then a else 0
theorem one_len (k a : Nat) (ha : 1 ≤ a) : ∀ m, (lvl (one k a) 1 m).length = if k < m then 1 else 0
  | 0 => by simp [lvl]
  | m + 1 => by
    have ih := one_len k a ha m
    unfold lvl
    by_cases e : m = k
    · subst e
      rw [if_pos (by unfold one; rw [if_pos rfl]; omega), List.length_append, ih, if_neg (Nat.lt_irrefl _), if_pos (Nat.lt_succ_self _)]
      rfl
    · rw [if_neg (by unfold one; rw [if_neg e]; omega), ih]
      have e3 : (k < m + 1) = (k < m) := propext ⟨fun _ => by omega, fun _ => by omega⟩
      simp only [e3]
set_option maxRecDepth 100000 in
set_option maxHeartbeats 8000000 in
theorem walk (a0 a1 a2 : Int) (w : World) (w0 : (Lit.int .i64 a0).wf = true) (w1 : (Lit.int .i64 a1).wf = true) (w2 : (Lit.int .i64 a2).wf = true) :
    Calls Try.prog 4 #[.int .i64 a0, .int .i64 a1, .int .i64 a2] w fun e w' => e = .returned (.bool true) ∧ Below w.heap.size w w' := by
  obtain ⟨k, ek⟩ : ∃ n : Nat, a0 % 64 = (n : Int) := ⟨(a0 % 64).toNat, by omega⟩
  obtain ⟨a, ea⟩ : ∃ n : Nat, a1 % 4 + 1 = (n : Int) := ⟨(a1 % 4 + 1).toNat, by omega⟩
  obtain ⟨b, eb⟩ : ∃ n : Nat, a2 % 4 + 1 = (n : Int) := ⟨(a2 % 4 + 1).toNat, by omega⟩
  have k64 : k < 64 := by omega
  have ab : 1 ≤ a ∧ a ≤ 4 := by omega
  have bb : 1 ≤ b ∧ b ≤ 4 := by omega
  have h0 : bits .and .i64 a0 63 = (k : Int) := (i64_mask a0 6 (by decide)).trans ek
  have h1 : bits .and .i64 a1 3 = (a : Int) - 1 := (i64_mask2 a1).trans (by omega)
  have h2 : bits .and .i64 a2 3 = (b : Int) - 1 := (i64_mask2 a2).trans (by omega)
  have wa : IntKind.i64.wrap ((a : Int) - 1 + 1) = (a : Int) := by rw [IntWalk.i64_in _ (by omega)]; omega
  have wb : IntKind.i64.wrap ((b : Int) - 1 + 1) = (b : Int) := by rw [IntWalk.i64_in _ (by omega)]; omega
  have tk : (k : Int).toNat = k := by omega
  have ta : (a : Int).toNat = a := by omega
  have tb : (b : Int).toNat = b := by omega
  have p1 : putT (fun _ => 0) k a = (true, 0, one k a) := by unfold putT; rw [if_neg (by omega), if_neg (by show ¬ 0 < 0; omega), tk, ta]; rfl
  have hk : ∀ c, hgtT (one k c) k = (c : Int) := fun c => by unfold hgtT one; rw [if_neg (by omega), tk, if_pos rfl]
  have p2 : putT (one k a) k b = (false, 0, one k a) := by unfold putT; rw [if_neg (by omega), if_pos (by unfold one; rw [tk, if_pos rfl]; omega)]
  have z : (fun j => if j = k then 0 else one k a j) = one k 0 := funext fun j => by unfold one; by_cases e : j = k <;> simp [e]
  have z1 : one k 0 = fun _ => 0 := funext fun j => by unfold one; by_cases e : j = k <;> simp [e]
  have q1 : dropT (one k a) k = (true, one k 0) := by unfold dropT; rw [hk, if_pos (by omega), tk, z]
  have q2 : dropT (one k 0) k = (false, one k 0) := by unfold dropT; rw [hk, if_neg (by omega)]
  have p3 : putT (one k 0) k b = (true, 0, one k b) := by unfold putT; rw [z1, if_neg (by omega), if_neg (by show ¬ 0 < 0; omega), tk, tb]; rfl
  have p4 : putT (one k b) k 5 = (false, 1, one k b) := by unfold putT; rw [if_pos (by omega)]
  have p5 : putT (one k b) 64 1 = (false, 1, one k b) := by unfold putT; rw [if_pos (by omega)]
  have p6 : putT (one k b) (-1) 1 = (false, 1, one k b) := by unfold putT; rw [if_pos (by omega)]
  have hl : ((lvl (one k b) 1 64).length : Int) = 1 := by rw [one_len k b bb.1 64, if_pos k64]; rfl
  clear ek ea eb w0 w1 w2 z z1 tk ta tb
  go_enter Try.func4, Try.ntmps4
  go_wp2_with fail
  refine (t_new (Below.refl _ _)).mono ?_
  rintro e y0 ⟨t, S0, rfl, C, _, _⟩
  go_wp2_with fail
  refine (t_put C _ _ _ _ _ p1).mono ?_
  rintro e y ⟨rfl, S, C2, _⟩
  have C := C2
  clear C2
  go_wp2_with fail
  refine (t_put C _ _ _ _ _ p2).mono ?_
  rintro e y ⟨rfl, S, C2, _⟩
  have C := C2
  clear C2
  go_wp2_with fail
  refine (t_height C _ _ (hk a)).mono ?_
  rintro e y ⟨rfl, S, C2, _⟩
  have C := C2
  clear C2
  go_wp2_with fail
  refine (t_drop C _ _ _ q1).mono ?_
  rintro e y ⟨rfl, S, C2, _⟩
  have C := C2
  clear C2
  go_wp2_with fail
  refine (t_drop C _ _ _ q2).mono ?_
  rintro e y ⟨rfl, S, C2, _⟩
  have C := C2
  clear C2
  go_wp2_with fail
  refine (t_height C _ _ (hk 0)).mono ?_
  rintro e y ⟨rfl, S, C2, _⟩
  have C := C2
  clear C2
  go_wp2_with fail
  refine (t_put C _ _ _ _ _ p3).mono ?_
  rintro e y ⟨rfl, S, C2, _⟩
  have C := C2
  clear C2
  go_wp2_with fail
  refine (t_put C _ _ _ _ _ p4).mono ?_
  rintro e y ⟨rfl, S, C2, _⟩
  have C := C2
  clear C2
  go_wp2_with fail
  refine (t_put C _ _ _ _ _ p5).mono ?_
  rintro e y ⟨rfl, S, C2, _⟩
  have C := C2
  clear C2
  go_wp2_with fail
  refine (t_put C _ _ _ _ _ p6).mono ?_
  rintro e y ⟨rfl, S, C2, _⟩
  have C := C2
  clear C2
  go_wp2_with fail
  refine (t_height C _ _ (hk b)).mono ?_
  rintro e y ⟨rfl, S, C2, _⟩
  have C := C2
  clear C2
  go_wp2_with fail
  refine (t_len C _ hl).mono ?_
  rintro e y ⟨rfl, S, C2, _⟩
  have C := C2
  clear C2
  go_wp2_with fail
  refine (awake11_any _).mono ?_
  rintro e z9 ⟨rfl, b9⟩
  go_wp2
  go_ret
  exact ⟨rfl, C.b.trans (b9.mono C.b.size)⟩
theorem own : ownKnob Try.prog.godebug = none := by kernel_rfl
theorem laidOut : laidOutB Try.prog = true := by kernel_rfl
set_option maxRecDepth 100000 in
theorem lifted (os : Os) (started : os.Started) (H : Type) (enc : TypeId × Value → H) :
    ReturnsInHanded {} Try.checked os 4 .any (Rows.towerHeightsSpec.pre6 enc Try.prog Try.f4 Rows.towerHeightsRow.domain false) (Rows.towerHeightsSpec.post enc Try.prog Try.f4 false true false false) := by
  refine returnsInHanded_of_change (C := Try.checked) own started (by kernel_rfl) Try.func4
    (ChangeSpec.witness6 (enc := enc) (C := Try.checked) false ⟨#[], #[.int .i64 0, .int .i64 0, .int .i64 0], []⟩ 8 (by kernel_rfl) (by kernel_rfl) (by kernel_rfl) (by kernel_rfl)) ?_
  intro W base args ds gs before hval0 hW hcnd _
  have hval : ∀ (j : Nat) t v, Try.f4.params[j]? = some t → args[j]? = some v → Value.okWide Try.prog W .any base t v := hval0
  have hW' := hW
  obtain ⟨p, q, hA0, hV, rfl, hfz, hnd⟩ := hW
  have hA : DataW.TrodAll enc Try.prog W 0 (fun _ => true) true Try.f4.params.toList args.toList ds p := hA0
  rw [Try.params4] at hA hval
  obtain ⟨v0, vs0, d0, ds0, p0, q0, hargs, rfl, rfl, h0, r0⟩ := trodAll_cons hA
  obtain ⟨v1, vs1, d1, ds1, p1, q1, rfl, rfl, rfl, h1, r1⟩ := trodAll_cons r0
  obtain ⟨v2, vs2, d2, ds2, p2, q2, rfl, rfl, rfl, h2, r2⟩ := trodAll_cons r1
  obtain ⟨rfl, rfl, rfl⟩ := trodAll_nil r2
  obtain rfl : args = #[v0, v1, v2] := by cases args; simp_all
  obtain ⟨rfl, rfl⟩ := trodVars_none hV
  obtain ⟨a0, rfl, rfl, rfl, w0⟩ := open_int Try.underlying3 (hval 0 3 v0 rfl rfl) h0
  obtain ⟨a1, rfl, rfl, rfl, w1⟩ := open_int Try.underlying3 (hval 1 3 v1 rfl rfl) h1
  obtain ⟨a2, rfl, rfl, rfl, w2⟩ := open_int Try.underlying3 (hval 2 3 v2 rfl rfl) h2
  clear hA0 hval0
  refine (walk a0 a1 a2 W w0 w1 w2).mono fun e W' ⟨he, bel⟩ => ?_
  subst he
  exact ⟨_, rfl, _, _, _, [], _, [], hW', trodAll_mk1 (shut_bool Try.underlying4 _), (trodAll_cons_mk (shut_int Try.underlying3 w0) (trodAll_cons_mk (shut_int Try.underlying3 w1) (trodAll_cons_mk (shut_int Try.underlying3 w2) trodAll_mk0))), rfl, bel.frame _, fun h => by cases h⟩
theorem over : Rows.towerHeightsRow.holds Try.pinned (OpenSpec.ofChange Rows.towerHeightsSpec) :=
  OpenClaim.holds_of_wide 4 Try.f4 rfl rfl rfl rfl rfl rfl rfl ⟨rfl, rfl, rfl, rfl, rfl⟩ rfl rfl rfl rfl rfl (by kernel_rfl) Try.func4 (by kernel_rfl)
    (of_decide_eq_true (by kernel_rfl)) (by unfold Func.isWrapper; first | (rw [if_pos (by decide +kernel)]; kernel_rfl) | (rw [if_neg (by decide +kernel)]; exact ⟨rfl, rfl⟩))
    (fun os started H enc _ => lifted os started H enc)
theorem proved : Rows.TowerHeightsSaid := over
#print axioms proved
end Go.Proofs.Yteaanaggcenloaa.towerHeights
