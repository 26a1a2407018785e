/- Proved here: vinculumlaw1.WordKinds returns true and leaves its argument as it was, for any word: every uint64; no further condition. -/
import Derived.Test.YtipcbchjpckamaaStamp
import Derived.ChangeOld
namespace Go.Proofs.Ytipcbchjpckamaa.wordKinds
open Go.ChangeShapes Go.WideShapes Go.ChangeAt Go.RowKit
set_option linter.unusedVariables false

theorem after {w w1 w2 : World} {o : Obj} (b1 : Below w.heap.size w w1) (b2 : Below (w1.alloc o).heap.size (w1.alloc o) w2) : Below w.heap.size w w2 := by
  have h := b1.size
  exact (b1.alloc (by omega) o).trans (b2.mono (by simp; omega))
theorem walk (a0 : Int) (w : World) (w0 : (Lit.int .u64 a0).wf = true) :
    Calls Try.prog 5 #[.int .u64 a0] w fun e w' => e = .returned (.bool true) ∧ Below w.heap.size w w' := by
  obtain ⟨q0, q1⟩ := bounds_u64 w0
  rcases rd_cases a0 with ⟨h, hk, hn⟩ | ⟨h, hk, hn⟩ | ⟨h, h', hk, hn⟩ | ⟨h, h2, h3, hk, hn⟩
  · have hf : (a0 == 2305843009213693952) = false := by rw [beq_eq_false_iff_ne]; omega
    go_enter Try.func5, Try.ntmps5
    go_wp2_with fail
    refine (readw_any _ (by omega) (by omega) _).mono ?_; rintro e w1 ⟨rfl, b1⟩
    go_wp2_with (first | (go_at_call 17; refine (foreverw_any _).mono ?_; rintro e w' ⟨rfl, rfl⟩) | (go_at_call 15; refine (txnw_any _ (by omega) (by omega) _).mono ?_; rintro e w' ⟨rfl, rfl⟩) | (go_at_call 13; refine (awake1_any _).mono ?_; rintro e w' ⟨rfl, bel⟩))
    go_ret
    exact ⟨rfl, after b1 bel⟩
  · subst h
    go_enter Try.func5, Try.ntmps5
    go_wp2_with fail
    refine (readw_any _ (by omega) (by omega) _).mono ?_; rintro e w1 ⟨rfl, b1⟩
    go_wp2_with (first | (go_at_call 17; refine (foreverw_any _).mono ?_; rintro e w' ⟨rfl, rfl⟩) | (go_at_call 15; refine (txnw_any _ (by omega) (by omega) _).mono ?_; rintro e w' ⟨rfl, rfl⟩) | (go_at_call 13; refine (awake1_any _).mono ?_; rintro e w' ⟨rfl, bel⟩))
    go_ret
    exact ⟨rfl, after b1 bel⟩
  · obtain ⟨n, en⟩ : ∃ n, a0 = 4611686018427387904 + n := ⟨a0 - 4611686018427387904, by omega⟩
    subst en
    have e : 4611686018427387904 + n - 4611686018427387904 = n := by omega
    rw [e] at hn
    have hf : (4611686018427387904 + n == 2305843009213693952) = false := by rw [beq_eq_false_iff_ne]; omega
    rcases txn_cases n with ⟨h1, h2, ht, hb⟩ | ⟨h1, ht, hb⟩ | ⟨h1, ht, hb⟩
    · have n0 : 0 ≤ n := by omega
      have hnt : ¬ 4611686018427387904 + n ≤ 1099511627776 := by omega
      clear e h h'
      go_enter Try.func5, Try.ntmps5
      go_wp2_with fail
      refine (readw_any _ (by omega) (by omega) _).mono ?_; rintro e w1 ⟨rfl, b1⟩
      go_wp2_with (first | (go_at_call 17; refine (foreverw_any _).mono ?_; rintro e w' ⟨rfl, rfl⟩) | (go_at_call 15; refine (txnw_any _ (by omega) (by omega) _).mono ?_; rintro e w' ⟨rfl, rfl⟩) | (go_at_call 13; refine (awake1_any _).mono ?_; rintro e w' ⟨rfl, bel⟩))
      go_ret
      exact ⟨rfl, after b1 bel⟩
    · omega
    · omega
  · have hf : (a0 == 2305843009213693952) = false := by rw [beq_eq_false_iff_ne]; omega
    clear h3 h2
    go_enter Try.func5, Try.ntmps5
    go_wp2_with fail
    refine (readw_any _ (by omega) (by omega) _).mono ?_; rintro e w1 ⟨rfl, b1⟩
    go_wp2_with (first | (go_at_call 17; refine (foreverw_any _).mono ?_; rintro e w' ⟨rfl, rfl⟩) | (go_at_call 15; refine (txnw_any _ (by omega) (by omega) _).mono ?_; rintro e w' ⟨rfl, rfl⟩) | (go_at_call 13; refine (awake1_any _).mono ?_; rintro e w' ⟨rfl, bel⟩))
    go_ret
    exact ⟨rfl, after b1 bel⟩
theorem own : ownKnob Try.prog.godebug = none := by kernel_rfl
theorem laidOut : laidOutB Try.prog = true := by kernel_rfl
set_option maxRecDepth 100000 in
theorem lifted (os : Os) (started : os.Started) (H : Type) (enc : TypeId × Value → H) :
    ReturnsInHanded {} Try.checked os 5 .any (Rows.wordKindsSpec.pre6 enc Try.prog Try.f5 Rows.wordKindsRow.domain false) (Rows.wordKindsSpec.post enc Try.prog Try.f5 false true false false) := by
  refine returnsInHanded_of_change (C := Try.checked) own started (by kernel_rfl) Try.func5
    (ChangeSpec.witness6 (enc := enc) (C := Try.checked) false ⟨#[], #[.int .u64 0], []⟩ 8 (by kernel_rfl) (by kernel_rfl) (by kernel_rfl) (by kernel_rfl)) ?_
  intro W base args ds gs before hval0 hW hcnd _
  have hval : ∀ (j : Nat) t v, Try.f5.params[j]? = some t → args[j]? = some v → Value.okWide Try.prog W .any base t v := hval0
  have hW' := hW
  obtain ⟨p, q, hA0, hV, rfl, hfz, hnd⟩ := hW
  have hA : DataW.TrodAll enc Try.prog W 0 (fun _ => true) true Try.f5.params.toList args.toList ds p := hA0
  rw [Try.params5] at hA hval
  obtain ⟨v0, vs0, d0, ds0, p0, q0, hargs, rfl, rfl, h0, r0⟩ := trodAll_cons hA
  obtain ⟨rfl, rfl, rfl⟩ := trodAll_nil r0
  obtain rfl : args = #[v0] := by cases args; simp_all
  obtain ⟨rfl, rfl⟩ := trodVars_none hV
  obtain ⟨a0, rfl, rfl, rfl, w0⟩ := open_int Try.underlying22 (hval 0 22 v0 rfl rfl) h0
  clear hA0 hval0
  refine (walk a0 W w0).mono fun e W' ⟨he, bel⟩ => ?_
  subst he
  exact ⟨_, rfl, _, _, _, [], _, [], hW', trodAll_mk1 (shut_bool Try.underlying4 _), (trodAll_cons_mk (shut_int Try.underlying22 w0) trodAll_mk0), rfl, bel.frame _, fun h => by cases h⟩
theorem over : Rows.wordKindsRow.holds Try.pinned (OpenSpec.ofChange Rows.wordKindsSpec) :=
  OpenClaim.holds_of_wide 5 Try.f5 rfl rfl rfl rfl rfl rfl rfl ⟨rfl, rfl, rfl, rfl, rfl⟩ rfl rfl rfl rfl rfl (by kernel_rfl) Try.func5 (by kernel_rfl)
    (of_decide_eq_true (by kernel_rfl)) (by unfold Func.isWrapper; first | (rw [if_pos (by decide +kernel)]; kernel_rfl) | (rw [if_neg (by decide +kernel)]; exact ⟨rfl, rfl⟩))
    (fun os started H enc _ => lifted os started H enc)
theorem proved : Rows.WordKindsSaid := over
#print axioms proved
end Go.Proofs.Ytipcbchjpckamaa.wordKinds
