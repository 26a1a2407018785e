/- Proved here: vinculumlaw14.WritesPlays returns true and leaves its arguments as they were, for any script, any pairs and any three ints; no further condition. -/
import Derived.Test.YthojmdjcfkadoaaWyL
import Derived.Test.YthojmdjcfkadoaaWyG
namespace Go.Proofs.Ythojmdjcfkadoaa.writesPlays
open Go.ChangeShapes Go.WideShapes Go.ChangeAt Go.RowKit
set_option linter.unusedVariables false
set_option maxRecDepth 1000000 in
set_option maxHeartbeats 16000000 in
theorem walk (a1 : Option Addr) (len1 cap1 : Nat) (f : Nat → OpI) (a2 : Option Addr) (len2 cap2 : Nat) (l : List PrI) (lo hi key : Int) (W : World) (w0 : IsOps W a1 len1 cap1 f) (w1 : IsPs W a2 len2 cap2 l) (w2 : (Lit.int .i64 lo).wf = true) (w3 : (Lit.int .i64 hi).wf = true) (w4 : (Lit.int .i64 key).wf = true) :
    Calls Try.prog 5 #[.slice a1 len1 cap1, .slice a2 len2 cap2, .int .i64 lo, .int .i64 hi, .int .i64 key] W fun e w' => e = .returned (.bool true) ∧ Below W.heap.size W w' := by
  clear w2 w3 w4
  obtain ⟨rfl, hp⟩ := w1
  by_cases hl : 100 < l.length
  · have q1 : decide ((100 : Int) < (l.length : Int)) = true := decide_eq_true (by omega)
    clear hp w0
    go_enter Try.func5, Try.ntmps5
    go_wp2_with fail
    refine (wr_new (Below.refl _ _)).mono ?_
    rintro e y1 ⟨t, S1, rfl, h1, _, _⟩
    have b1 := h1.b
    clear h1
    go_wp2_with fail
    refine (awake14_any _).mono ?_
    rintro e y2 ⟨rfl, b2⟩
    go_wp2
    go_ret
    exact ⟨rfl, b1.trans (b2.mono b1.size)⟩
  · have q1 : decide ((100 : Int) < (l.length : Int)) = false := decide_eq_false (by omega)
    have ll : l.length ≤ 100 := by omega
    go_enter Try.func5, Try.ntmps5
    go_wp2_with fail
    refine (wr_new (Below.refl _ _)).mono ?_
    rintro e y1 ⟨t, S1, rfl, h1, _, _⟩
    go_wp2_with fail
    refine (awake14_any _).mono ?_
    rintro e y2 ⟨rfl, b2⟩
    have h2 := h1.quiet (Keep.of_below b2 (fun _ => False))
    have A : A14 W y2 t S1 [] (.slice none 0 0) [] := ⟨h2, World.ownsRow_nil _ _ _ _, by simp [Value.ownBlock]⟩
    clear h1 b2 h2
    go_upto_block 0 with fail
    rename_i K5 hK5
    have HK := Lib.hid hK5
    clear hK5
    go_cut [12] from 48 to 140 (fun v wx => RX W t v wx)
    case first =>
      rename_i JX KX hJX hKX
      exact theLoop hJX hKX w0 A
    case rest =>
      obtain ⟨S2, s2, A2, ls⟩ := hcut
      exact HK.out _ _ (tailA A2 ls (fun S3 w3 _ _ _ _ _ _ _ _ _ _ _ _ _ _ _ _ _ _ _ _ _ _ _ _ _ _ _ _ _ _ _ _ _ _ _ _ _ _ _ _ _ _ _ _ _ _ _ _ _ _ _ _ _ _ _ _ _ _ _ _ _ _ _ _ _ _ _ _ _ _ _ _ _ _ _ _ _ _ _ _ _ _ _ _ _ _ _ _ _ A3 => tail3 hp A3 ls ll))
theorem own : ownKnob Try.prog.godebug = none := by kernel_rfl
theorem laidOut : laidOutB Try.prog = true := by kernel_rfl
set_option maxRecDepth 100000 in
theorem lifted (os : Os) (started : os.Started) (H : Type) (enc : TypeId × Value → H) :
    ReturnsInHanded {} Try.checked os 5 .any (Rows.writesPlaysSpec.pre6 enc Try.prog Try.f5 Rows.writesPlaysRow.domain false) (Rows.writesPlaysSpec.post enc Try.prog Try.f5 false true false false) := by
  refine returnsInHanded_of_change (C := Try.checked) own started (by kernel_rfl) Try.func5
    (ChangeSpec.witness6 (enc := enc) (C := Try.checked) false ⟨#[], #[.slice none 0 0, .slice none 0 0, .int .i64 0, .int .i64 0, .int .i64 0], []⟩ 8 (by kernel_rfl) (by kernel_rfl) (by kernel_rfl) (by kernel_rfl)) ?_
  intro W base args ds gs before hval0 hW hcnd _
  have hval : ∀ (j : Nat) t v, Try.f5.params[j]? = some t → args[j]? = some v → Value.okWide Try.prog W .any base t v := hval0
  have hW' := hW
  obtain ⟨p, q, hA0, hV, rfl, hfz, hnd⟩ := hW
  have hA : DataW.TrodAll enc Try.prog W 0 (fun _ => true) true Try.f5.params.toList args.toList ds p := hA0
  rw [Try.params5] at hA hval
  obtain ⟨v0, vs0, d0, ds0, p0, q0, hargs, rfl, rfl, h0, r0⟩ := trodAll_cons hA
  obtain ⟨v1, vs1, d1, ds1, p1, q1, rfl, rfl, rfl, h1, r1⟩ := trodAll_cons r0
  obtain ⟨v2, vs2, d2, ds2, p2, q2, rfl, rfl, rfl, h2, r2⟩ := trodAll_cons r1
  obtain ⟨v3, vs3, d3, ds3, p3, q3, rfl, rfl, rfl, h3, r3⟩ := trodAll_cons r2
  obtain ⟨v4, vs4, d4, ds4, p4, q4, rfl, rfl, rfl, h4, r4⟩ := trodAll_cons r3
  obtain ⟨rfl, rfl, rfl⟩ := trodAll_nil r4
  obtain rfl : args = #[v0, v1, v2, v3, v4] := by cases args; simp_all
  obtain ⟨rfl, rfl⟩ := trodVars_none hV
  obtain ⟨a0, len0, cap0, rfl⟩ := okWide_slice Try.underlying41 (hval 0 41 v0 rfl rfl)
  have k0 := h0
  have lt0 : ∀ x ∈ p0, x.block < W.heap.size := by obtain ⟨m, hm⟩ := k0; exact DataW.trod_lt m _ _ _ hm
  obtain ⟨z0, w0⟩ : ∃ f, IsOps W a0 len0 cap0 f := is_ops h0
  obtain ⟨a1, len1, cap1, rfl⟩ := okWide_slice Try.underlying32 (hval 1 32 v1 rfl rfl)
  have k1 := h1
  have lt1 : ∀ x ∈ p1, x.block < W.heap.size := by obtain ⟨m, hm⟩ := k1; exact DataW.trod_lt m _ _ _ hm
  obtain ⟨z1, w1⟩ : ∃ f, IsPs W a1 len1 cap1 f := is_ps h1
  obtain ⟨a2, rfl, rfl, rfl, w2⟩ := open_int Try.underlying3 (hval 2 3 v2 rfl rfl) h2
  obtain ⟨a3, rfl, rfl, rfl, w3⟩ := open_int Try.underlying3 (hval 3 3 v3 rfl rfl) h3
  obtain ⟨a4, rfl, rfl, rfl, w4⟩ := open_int Try.underlying3 (hval 4 3 v4 rfl rfl) h4
  clear hA0 hval0
  refine (walk a0 len0 cap0 z0 a1 len1 cap1 z1 a2 a3 a4 W w0 w1 w2 w3 w4).mono fun e W' ⟨he, bel⟩ => ?_
  subst he
  exact ⟨_, rfl, _, _, _, [], _, [], hW', trodAll_mk1 (shut_bool Try.underlying4 _), (trodAll_cons_mk (Below.trod laidOut (by kernel_rfl) (of_decide_eq_true (by kernel_rfl)) k0 bel lt0) (trodAll_cons_mk (Below.trod laidOut (by kernel_rfl) (of_decide_eq_true (by kernel_rfl)) k1 bel lt1) (trodAll_cons_mk (shut_int Try.underlying3 w2) (trodAll_cons_mk (shut_int Try.underlying3 w3) (trodAll_cons_mk (shut_int Try.underlying3 w4) trodAll_mk0))))), rfl, bel.frame _, fun h => by cases h⟩
theorem over : Rows.writesPlaysRow.holds Try.pinned (OpenSpec.ofChange Rows.writesPlaysSpec) :=
  OpenClaim.holds_of_wide 5 Try.f5 rfl rfl rfl rfl rfl rfl rfl ⟨rfl, rfl, rfl, rfl, rfl⟩ rfl rfl rfl rfl rfl (by kernel_rfl) Try.func5 (by kernel_rfl)
    (of_decide_eq_true (by kernel_rfl)) (by unfold Func.isWrapper; first | (rw [if_pos (by decide +kernel)]; kernel_rfl) | (rw [if_neg (by decide +kernel)]; exact ⟨rfl, rfl⟩))
    (fun os started H enc _ => lifted os started H enc)
theorem proved : Rows.WritesPlaysSaid := over
end Go.Proofs.Ythojmdjcfkadoaa.writesPlays
