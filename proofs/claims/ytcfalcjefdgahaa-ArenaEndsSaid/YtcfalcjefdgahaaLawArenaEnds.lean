/- Proved here: vinculumlaw2.ArenaEnds returns true and leaves its arguments as they were, for every two ints; no further condition. -/
import Derived.Test.YtcfalcjefdgahaaWords
import Derived.Test.YtcfalcjefdgahaaBits
import Derived.ChangeOld
namespace Go.Proofs.Ytcfalcjefdgahaa.arenaEnds
open Go.ChangeShapes Go.WideShapes Go.ChangeAt Go.RowKit
set_option linter.unusedVariables false

theorem zero3 (w : World) (i : Nat) (hi : i < [(0 : Int), 0, 0].length) : (w.alloc (.cells #[.int .u64 0, .int .u64 0, .int .u64 0] 22)).cell? ⟨w.heap.size, i, none⟩ = some (.int .u64 ([(0 : Int), 0, 0].getD i 0)) := by
  rw [World.cell?_alloc_at _ _ _ _ rfl]
  match i, hi with
  | 0, _ => rfl
  | 1, _ => rfl
  | 2, _ => rfl
set_option maxHeartbeats 2000000 in
theorem walk (a0 a1 : Int) (w : World) (w0 : (Lit.int .i64 a0).wf = true) (w1 : (Lit.int .i64 a1).wf = true) :
    Calls Try.prog 5 #[.int .i64 a0, .int .i64 a1] w fun e w' => e = .returned (.bool true) ∧ Below w.heap.size w w' := by
  obtain ⟨p0, p1⟩ := bounds_i64 w0
  obtain ⟨q0, q1⟩ := bounds_i64 w1
  have hm := i64_mask3 a0
  obtain ⟨n, en⟩ : ∃ n : Nat, 99996 + a0 % 8 = n := ⟨(99996 + a0 % 8).toNat, by omega⟩
  have n1 : 99996 ≤ n := by omega
  have n2 : n ≤ 100003 := by omega
  rcases (by omega : n ≤ 100000 ∨ 100000 < n) with hn | hn <;> rcases (by omega : a1 < 0 ∨ (0 ≤ a1 ∧ a1 < 3) ∨ 3 ≤ a1) with ha | ha | ha
  all_goals
    go_enter Try.func5, Try.ntmps5
    go_wp2_with fail
    first
      | (refine (new_ok n _ (by omega) hn).mono ?_; rintro e x1 ⟨p5, q5, rfl, h5, hp5, hq5, b1⟩)
      | (refine (new_no n _ (by omega)).mono ?_; rintro e x1 ⟨rfl, rfl⟩; have b1 := Below.refl w.heap.size w)
    go_wp2_with fail
    refine (new_ok 3 _ (by omega) (by omega)).mono ?_
    rintro e x2 ⟨p, q, rfl, h1, hp, hq, b2⟩
    have b3 := b1.trans (b2.mono b1.size)
    have h1 : Ar x2 p q [0, 0, 0] 0 := h1
    go_wp2_with fail
    refine (store_no p q _ 0 _ _ _ h1 (by first | decide | (simp; omega))).mono ?_
    rintro e x3 ⟨rfl, rfl⟩
    go_wp2_with fail
    refine (load_no p q _ 0 _ _ h1 (by first | decide | (simp; omega))).mono ?_
    rintro e x4 ⟨rfl, rfl⟩
    go_wp2_with fail
    refine (cas_no p q _ 0 _ _ _ _ h1 (by first | decide | (simp; omega))).mono ?_
    rintro e x5 ⟨rfl, rfl⟩
    go_wp2_with fail
    refine (add_no p q _ 0 _ _ _ h1 (by first | decide | (simp; omega))).mono ?_
    rintro e x6 ⟨rfl, rfl⟩
    go_wp2_with fail
    refine (count_any p q _ 0 _ h1).mono ?_
    rintro e x7 ⟨rfl, rfl⟩
    go_wp2_with fail
    refine (words_any p q _ 0 _ h1).mono ?_
    rintro e x8 ⟨bw, rfl, rw8, hw8, b8⟩
    go_wp2_with fail
    have c8 := Keep.alloc (S := fun _ => False) (Keep.refl (fun _ => False) x8) (.cells #[.int .u64 0, .int .u64 0, .int .u64 0] 22)
    have d8 := rw8.keep c8 (by simp)
    refine (same_yes bw x8.heap.size 0 0 3 3 [0, 0, 0] _ (by simp) (fun i hi => ?_) (fun i hi => ?_)).mono ?_
    · rw [Nat.zero_add]; exact d8.cell i hi
    · rw [Nat.zero_add]; exact zero3 x8 i hi
    rintro e x9 ⟨rfl, d, rfl⟩
    go_wp2_with fail
    refine (awake2_any _).mono ?_
    rintro e x10 ⟨rfl, b10⟩
    go_wp2
    go_ret
    have b9 := (((b3.trans (b8.mono b3.size)).alloc (by have := b3.size; have := b8.size; omega) (.cells #[.int .u64 0, .int .u64 0, .int .u64 0] 22)).trans (below_drewN (Below.refl _ _) d))
    exact ⟨rfl, b9.trans (b10.mono b9.size)⟩
theorem own : ownKnob Try.prog.godebug = none := by kernel_rfl
theorem laidOut : laidOutB Try.prog = true := by kernel_rfl
set_option maxRecDepth 100000 in
theorem lifted (os : Os) (started : os.Started) (H : Type) (enc : TypeId × Value → H) :
    ReturnsInHanded {} Try.checked os 5 .any (Rows.arenaEndsSpec.pre6 enc Try.prog Try.f5 Rows.arenaEndsRow.domain false) (Rows.arenaEndsSpec.post enc Try.prog Try.f5 false true false false) := by
  refine returnsInHanded_of_change (C := Try.checked) own started (by kernel_rfl) Try.func5
    (ChangeSpec.witness6 (enc := enc) (C := Try.checked) false ⟨#[], #[.int .i64 0, .int .i64 0], []⟩ 8 (by kernel_rfl) (by kernel_rfl) (by kernel_rfl) (by kernel_rfl)) ?_
  intro W base args ds gs before hval0 hW hcnd _
  have hval : ∀ (j : Nat) t v, Try.f5.params[j]? = some t → args[j]? = some v → Value.okWide Try.prog W .any base t v := hval0
  have hW' := hW
  obtain ⟨p, q, hA0, hV, rfl, hfz, hnd⟩ := hW
  have hA : DataW.TrodAll enc Try.prog W 0 (fun _ => true) true Try.f5.params.toList args.toList ds p := hA0
  rw [Try.params5] at hA hval
  obtain ⟨v0, vs0, d0, ds0, p0, q0, hargs, rfl, rfl, h0, r0⟩ := trodAll_cons hA
  obtain ⟨v1, vs1, d1, ds1, p1, q1, rfl, rfl, rfl, h1, r1⟩ := trodAll_cons r0
  obtain ⟨rfl, rfl, rfl⟩ := trodAll_nil r1
  obtain rfl : args = #[v0, v1] := by cases args; simp_all
  obtain ⟨rfl, rfl⟩ := trodVars_none hV
  obtain ⟨a0, rfl, rfl, rfl, w0⟩ := open_int Try.underlying3 (hval 0 3 v0 rfl rfl) h0
  obtain ⟨a1, rfl, rfl, rfl, w1⟩ := open_int Try.underlying3 (hval 1 3 v1 rfl rfl) h1
  clear hA0 hval0
  refine (walk a0 a1 W w0 w1).mono fun e W' ⟨he, bel⟩ => ?_
  subst he
  exact ⟨_, rfl, _, _, _, [], _, [], hW', trodAll_mk1 (shut_bool Try.underlying4 _), (trodAll_cons_mk (shut_int Try.underlying3 w0) (trodAll_cons_mk (shut_int Try.underlying3 w1) trodAll_mk0)), rfl, bel.frame _, fun h => by cases h⟩
theorem over : Rows.arenaEndsRow.holds Try.pinned (OpenSpec.ofChange Rows.arenaEndsSpec) :=
  OpenClaim.holds_of_wide 5 Try.f5 rfl rfl rfl rfl rfl rfl rfl ⟨rfl, rfl, rfl, rfl, rfl⟩ rfl rfl rfl rfl rfl (by kernel_rfl) Try.func5 (by kernel_rfl)
    (of_decide_eq_true (by kernel_rfl)) (by unfold Func.isWrapper; first | (rw [if_pos (by decide +kernel)]; kernel_rfl) | (rw [if_neg (by decide +kernel)]; exact ⟨rfl, rfl⟩))
    (fun os started H enc _ => lifted os started H enc)
theorem proved : Rows.ArenaEndsSaid := over
#print axioms proved
end Go.Proofs.Ytcfalcjefdgahaa.arenaEnds
