/- Proved here: vinculumlaw13.ReadsPlays returns true and leaves its arguments as they were, for any script and any int; no further condition. -/
import Derived.Test.YtafcmcpnmkmlbaaRyL
namespace Go.Proofs.Ytafcmcpnmkmlbaa.readsPlays
open Go.ChangeShapes Go.WideShapes Go.ChangeAt Go.RowKit
set_option linter.unusedVariables false
set_option maxRecDepth 1000000 in
set_option maxHeartbeats 16000000 in
theorem walk (a1 : Option Addr) (len1 cap1 : Nat) (f : Nat → OpI) (key : Int) (W : World) (w0 : IsOps W a1 len1 cap1 f) (w1 : (Lit.int .i64 key).wf = true) :
    Calls Try.prog 5 #[.slice a1 len1 cap1, .int .i64 key] W fun e w' => e = .returned (.bool true) ∧ Below W.heap.size W w' := by
  clear w1
  go_enter Try.func5, Try.ntmps5
  go_wp2_with fail
  refine (rd_new W).mono ?_
  rintro e y1 ⟨t, S1, rfl, h1⟩
  go_wp2_with fail
  refine (awake13_any _).mono ?_
  rintro e y2 ⟨rfl, b2⟩
  have h2 := h1.quiet (Keep.of_below b2 (fun _ => False))
  have A := All13.start h2
  clear h1 b2 h2
  go_upto_block 0 with fail
  rename_i K5 hK5
  have HK := Lib.hid hK5
  clear hK5
  go_cut [] from 29 to 277 (fun wx => RX W wx)
  case first =>
    rename_i JX KX hJX hKX
    exact theLoop hJX hKX w0 A (I13.start W)
  case rest =>
    have hb : Below W.heap.size W _ := hcut
    have hK5 := HK.out
    clear HK A
    go_wp2
    go_ret
    exact ⟨rfl, hb⟩
theorem own : ownKnob Try.prog.godebug = none := by kernel_rfl
theorem laidOut : laidOutB Try.prog = true := by kernel_rfl
set_option maxRecDepth 100000 in
theorem lifted (os : Os) (started : os.Started) (H : Type) (enc : TypeId × Value → H) :
    ReturnsInHanded {} Try.checked os 5 .any (Rows.readsPlaysSpec.pre6 enc Try.prog Try.f5 Rows.readsPlaysRow.domain false) (Rows.readsPlaysSpec.post enc Try.prog Try.f5 false true false false) := by
  refine returnsInHanded_of_change (C := Try.checked) own started (by kernel_rfl) Try.func5
    (ChangeSpec.witness6 (enc := enc) (C := Try.checked) false ⟨#[], #[.slice none 0 0, .int .i64 0], []⟩ 8 (by kernel_rfl) (by kernel_rfl) (by kernel_rfl) (by kernel_rfl)) ?_
  intro W base args ds gs before hval0 hW hcnd _
  have hval : ∀ (j : Nat) t v, Try.f5.params[j]? = some t → args[j]? = some v → Value.okWide Try.prog W .any base t v := hval0
  have hW' := hW
  obtain ⟨p, q, hA0, hV, rfl, hfz, hnd⟩ := hW
  have hA : DataW.TrodAll enc Try.prog W 0 (fun _ => true) true Try.f5.params.toList args.toList ds p := hA0
  rw [Try.params5] at hA hval
  obtain ⟨v0, vs0, d0, ds0, p0, q0, hargs, rfl, rfl, h0, r0⟩ := trodAll_cons hA
  obtain ⟨v1, vs1, d1, ds1, p1, q1, rfl, rfl, rfl, h1, r1⟩ := trodAll_cons r0
  obtain ⟨rfl, rfl, rfl⟩ := trodAll_nil r1
  obtain rfl : args = #[v0, v1] := by cases args; simp_all
  obtain ⟨rfl, rfl⟩ := trodVars_none hV
  obtain ⟨a0, len0, cap0, rfl⟩ := okWide_slice Try.underlying38 (hval 0 38 v0 rfl rfl)
  have k0 := h0
  have lt0 : ∀ x ∈ p0, x.block < W.heap.size := by obtain ⟨m, hm⟩ := k0; exact DataW.trod_lt m _ _ _ hm
  obtain ⟨z0, w0⟩ : ∃ f, IsOps W a0 len0 cap0 f := is_ops h0
  obtain ⟨a1, rfl, rfl, rfl, w1⟩ := open_int Try.underlying3 (hval 1 3 v1 rfl rfl) h1
  clear hA0 hval0
  refine (walk a0 len0 cap0 z0 a1 W w0 w1).mono fun e W' ⟨he, bel⟩ => ?_
  subst he
  exact ⟨_, rfl, _, _, _, [], _, [], hW', trodAll_mk1 (shut_bool Try.underlying4 _), (trodAll_cons_mk (Below.trod laidOut (by kernel_rfl) (of_decide_eq_true (by kernel_rfl)) k0 bel lt0) (trodAll_cons_mk (shut_int Try.underlying3 w1) trodAll_mk0)), rfl, bel.frame _, fun h => by cases h⟩
theorem over : Rows.readsPlaysRow.holds Try.pinned (OpenSpec.ofChange Rows.readsPlaysSpec) :=
  OpenClaim.holds_of_wide 5 Try.f5 rfl rfl rfl rfl rfl rfl rfl ⟨rfl, rfl, rfl, rfl, rfl⟩ rfl rfl rfl rfl rfl (by kernel_rfl) Try.func5 (by kernel_rfl)
    (of_decide_eq_true (by kernel_rfl)) (by unfold Func.isWrapper; first | (rw [if_pos (by decide +kernel)]; kernel_rfl) | (rw [if_neg (by decide +kernel)]; exact ⟨rfl, rfl⟩))
    (fun os started H enc _ => lifted os started H enc)
theorem proved : Rows.ReadsPlaysSaid := over
end Go.Proofs.Ytafcmcpnmkmlbaa.readsPlays
