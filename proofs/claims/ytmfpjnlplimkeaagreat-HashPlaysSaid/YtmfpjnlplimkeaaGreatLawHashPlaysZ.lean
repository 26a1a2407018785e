/- Proved here: vinculumlaw10.HashPlays returns true and leaves its arguments as they were, for every int and every script; no further condition. -/
import Derived.Test.YtmfpjnlplimkeaaGreatLawHashPlaysZav
namespace Go.Proofs.YtmfpjnlplimkeaaGreat.hashPlays
open Go.ChangeShapes Go.WideShapes Go.ChangeAt Go.RowKit
set_option linter.unusedVariables false

set_option maxRecDepth 1000000 in
set_option maxHeartbeats 16000000 in
theorem walk (a0 : Int) (a1 : Option Addr) (len1 cap1 : Nat) (f : Nat → OpI) (w : World) (w0 : (Lit.int .i64 a0).wf = true) (w1 : IsOps w a1 len1 cap1 f) :
    Calls Tryz.prog 4 #[.int .i64 a0, .slice a1 len1 cap1] w fun e w' => e = .returned (.bool true) ∧ Below w.heap.size w w' := by
  go_enter Tryz.func4, Tryz.ntmps4
  go_wp2_with fail
  refine (v_new 100 _ (by omega) (by omega)).mono ?_
  rintro e y1 ⟨p, S1, rfl, C1⟩
  by_cases hbad : a0 < 1 ∨ 64 < a0
  · go_wp2_with fail
    refine (x_new_no _ a0 (.inr hbad) _).mono ?_
    rintro e y2 ⟨rfl, c2⟩
    have bl := C1.b.trans (c2.mono C1.b.size)
    clear c2 C1
    rcases (by omega : a0 < 1 ∨ (¬ a0 < 1 ∧ 64 < a0)) with h1 | ⟨h1, h2⟩
    all_goals
      clear hbad
      go_wp2_with fail
      refine (awake10_any _).mono ?_
      rintro e y3 ⟨rfl, b3⟩
      go_wp2
      go_ret
      exact ⟨rfl, bl.trans (b3.mono bl.size)⟩
  · obtain ⟨n, rfl⟩ : ∃ n : Nat, a0 = n := ⟨a0.toNat, by omega⟩
    have n0 : 1 ≤ n := by omega
    have n1 : n ≤ 64 := by omega
    clear hbad w0
    have d1 : decide ((n : Int) < 1) = false := decide_eq_false (by omega)
    have d2 : decide (64 < (n : Int)) = false := decide_eq_false (by omega)
    go_wp2_with fail
    refine (x_new C1 n n0 n1).mono ?_
    rintro e y2 ⟨x, S2, s2, rfl, e2, C2, _⟩
    clear C1 e2
    go_wp2_with fail
    refine (awake10_any _).mono ?_
    rintro e y3 ⟨rfl, b3⟩
    have C2 := C2.quiet (Keep.of_below b3 (fun _ => False))
    clear b3
    obtain ⟨b9, e9⟩ : ∃ b, y3.heap.size = b := ⟨_, rfl⟩
    have t9 := bits_new y3 46
    have kA := Keep.alloc (Keep.refl (fun _ => False) y3) (.cells (Array.replicate 64 (.bool false)) 46)
    have lA : y3.heap.size < (y3.alloc (.cells (Array.replicate 64 (.bool false)) 46)).heap.size := by simp
    go_upto_region 10 with fail
    generalize hW : y3.alloc (.cells _ _) = y4
    have hW' : y3.alloc (.cells (Array.replicate 64 (.bool false)) 46) = y4 := hW
    clear hW
    rw [hW'] at t9 kA lA
    rw [e9] at t9
    clear hW'
    have t10 := ints_new y4 47
    have kB := Keep.alloc (Keep.refl (fun _ => False) y4) (.cells (Array.replicate 64 (.int .i64 0)) 47)
    obtain ⟨b10, e10⟩ : ∃ b, y4.heap.size = b := ⟨_, rfl⟩
    go_upto_region 11 with fail
    generalize hW : y4.alloc (.cells _ _) = y5
    have hW' : y4.alloc (.cells (Array.replicate 64 (.int .i64 0)) 47) = y5 := hW
    clear hW
    rw [hW'] at t10 kB
    rw [e10] at t10
    clear hW'
    have gB := C2.b.size
    have lt2 := C2.lt
    have C5 := (C2.quiet kA).quiet kB
    have A5 : All10 w y5 (fun g => if g < b9 then 1 else if g = b9 then 2 else 3) x p n S2 s2 HS.new noD 20000 b9 (fun _ => false) b10 (fun _ => 0) (.slice none 0 0) [] (.slice none 0 0) [] (.slice none 0 0) [] 0 [] :=
      ⟨C5.up (by omega), fun g hg => if_pos (by have := lt2 g hg; omega), t9.keep kB (by simp), by show (if b9 < b9 then 1 else if b9 = b9 then 2 else 3) = 2; rw [if_neg (by omega), if_pos rfl], by omega, t10, by show (if b10 < b9 then 1 else if b10 = b9 then 2 else 3) = 3; rw [if_neg (by omega), if_neg (by omega)], by omega, World.ownsRow_nil _ _ _ _, by simp [Value.ownBlock], World.ownsRow_nil _ _ _ _, by simp [Value.ownBlock], World.ownsRow_nil _ _ _ _, by simp [Value.ownBlock], fun i u hu => by simp at hu, .inl rfl⟩
    clear C2 C5 t9 t10 kA kB lA gB lt2 e9 e10
    go_upto_block 0 with fail
    go_cut [11, 12] from 71 to 328 (fun _ _ wx => HX w x p n wx)
    case first =>
      rename_i JX KX hJX hKX
      exact theLoop hJX hKX (Lib.hid fun c a d v w h => by cases d <;> exact h) n0 n1 w1 I10.new A5
    case rest =>
      clear A5
      obtain ⟨S, s, h, D, C⟩ := hcut
      go_wp2_with fail
      refine (x_in C (by omega) (-1) [] (by unfold HS.inB; rw [if_pos (by omega)])).mono ?_
      rintro e z1 ⟨v1, S3, s3, rfl, o3, _, _, C3, _⟩
      obtain ⟨A3, c3, rfl, _, _⟩ := OwnN.out o3
      clear o3 C
      go_wp2_with fail
      refine (x_in C3 (by omega) (n : Int) [] (by unfold HS.inB; rw [if_pos (by omega)])).mono ?_
      rintro e z2 ⟨v2, S4, s4, rfl, o4, _, _, C4, _⟩
      obtain ⟨A4, c4, rfl, _, _⟩ := OwnN.out o4
      clear o4 C3
      go_wp2
      go_ret
      exact ⟨rfl, C4.b⟩
theorem own : ownKnob Tryz.prog.godebug = none := by kernel_rfl
theorem laidOut : laidOutB Tryz.prog = true := by kernel_rfl
set_option maxRecDepth 100000 in
theorem lifted (os : Os) (started : os.Started) (H : Type) (enc : TypeId × Value → H) :
    ReturnsInHanded {} Tryz.checked os 4 .any (Rows.hashPlaysSpec.pre6 enc Tryz.prog Tryz.f4 Rows.hashPlaysRow.domain false) (Rows.hashPlaysSpec.post enc Tryz.prog Tryz.f4 false true false false) := by
  refine returnsInHanded_of_change (C := Tryz.checked) own started (by kernel_rfl) Tryz.func4
    (ChangeSpec.witness6 (enc := enc) (C := Tryz.checked) false ⟨#[], #[.int .i64 0, .slice none 0 0], []⟩ 8 (by kernel_rfl) (by kernel_rfl) (by kernel_rfl) (by kernel_rfl)) ?_
  intro W base args ds gs before hval0 hW hcnd _
  have hval : ∀ (j : Nat) t v, Tryz.f4.params[j]? = some t → args[j]? = some v → Value.okWide Tryz.prog W .any base t v := hval0
  have hW' := hW
  obtain ⟨p, q, hA0, hV, rfl, hfz, hnd⟩ := hW
  have hA : DataW.TrodAll enc Tryz.prog W 0 (fun _ => true) true Tryz.f4.params.toList args.toList ds p := hA0
  rw [Tryz.params4] at hA hval
  obtain ⟨v0, vs0, d0, ds0, p0, q0, hargs, rfl, rfl, h0, r0⟩ := trodAll_cons hA
  obtain ⟨v1, vs1, d1, ds1, p1, q1, rfl, rfl, rfl, h1, r1⟩ := trodAll_cons r0
  obtain ⟨rfl, rfl, rfl⟩ := trodAll_nil r1
  obtain rfl : args = #[v0, v1] := by cases args; simp_all
  obtain ⟨rfl, rfl⟩ := trodVars_none hV
  obtain ⟨a0, rfl, rfl, rfl, w0⟩ := open_int Tryz.underlying3 (hval 0 3 v0 rfl rfl) h0
  obtain ⟨a1, len1, cap1, rfl⟩ := okWide_slice Tryz.underlying45 (hval 1 45 v1 rfl rfl)
  have k1 := h1
  have lt1 : ∀ x ∈ p1, x.block < W.heap.size := by obtain ⟨m, hm⟩ := k1; exact DataW.trod_lt m _ _ _ hm
  obtain ⟨z1, w1⟩ : ∃ f, IsOps W a1 len1 cap1 f := is_ops h1
  clear hA0 hval0
  refine (walk a0 a1 len1 cap1 z1 W w0 w1).mono fun e W' ⟨he, bel⟩ => ?_
  subst he
  exact ⟨_, rfl, _, _, _, [], _, [], hW', trodAll_mk1 (shut_bool Tryz.underlying4 _), (trodAll_cons_mk (shut_int Tryz.underlying3 w0) (trodAll_cons_mk (Below.trod laidOut (by kernel_rfl) (of_decide_eq_true (by kernel_rfl)) k1 bel lt1) trodAll_mk0)), rfl, bel.frame _, fun h => by cases h⟩
theorem over : Rows.hashPlaysRow.holds Tryz.pinned (OpenSpec.ofChange Rows.hashPlaysSpec) :=
  OpenClaim.holds_of_wide 4 Tryz.f4 rfl rfl rfl rfl rfl rfl rfl ⟨rfl, rfl, rfl, rfl, rfl⟩ rfl rfl rfl rfl rfl (by kernel_rfl) Tryz.func4 (by kernel_rfl)
    (of_decide_eq_true (by kernel_rfl)) (by unfold Func.isWrapper; first | (rw [if_pos (by decide +kernel)]; kernel_rfl) | (rw [if_neg (by decide +kernel)]; exact ⟨rfl, rfl⟩))
    (fun os started H enc _ => lifted os started H enc)
theorem proved : Rows.HashPlaysSaid := over
#print axioms proved
end Go.Proofs.YtmfpjnlplimkeaaGreat.hashPlays
