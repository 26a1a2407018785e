/- Proved here: vinculumlaw6.RecWords returns true and leaves its arguments as they were, for every two words and every slice of words; no further condition. -/
import Derived.Test.YthmohehmpleciaaRow
import Derived.Test.YthmohehmpleciaaRecO
import Derived.Test.YthmohehmpleciaaBits
namespace Go.Proofs.Ythmohehmpleciaa.recWords
open Go.ChangeShapes Go.WideShapes Go.ChangeAt Go.RowKit
set_option linter.unusedVariables false

theorem xor1 (a : Int) (h : U64 a) : U64 (bits .xor .u64 a 1) ∧ a ≠ bits .xor .u64 a 1 := by
  obtain ⟨h0, h1⟩ := h
  obtain ⟨n, rfl⟩ := Int.eq_ofNat_of_zero_le h0
  have hx : n ^^^ 1 < 2 ^ 64 := Nat.xor_lt_two_pow (by omega) (by omega)
  have e : bits .xor .u64 (n : Int) 1 = ((n ^^^ 1 : Nat) : Int) := u64_xor_nat n 1 (by omega) (by omega)
  rw [e]
  refine ⟨⟨by omega, by omega⟩, fun z => ?_⟩
  have z : n = n ^^^ 1 := by omega
  have := congrArg (fun y => n ^^^ y) z
  simp [← Nat.xor_assoc] at this
def Rel (W : World) (p : Nat) (len k : Nat) (bv ev iv : Value) (wr : World) : Prop :=
  ∃ S s b e, k ≤ len ∧ k ≤ 40 ∧ iv = .int .i64 k ∧ bv = .int .u64 b ∧ ev = .int .u64 e ∧ U64 b ∧ U64 e ∧ One s 1 ⟨9, 8, b, e, 0⟩ ∧ Rec W wr p S s (k * 3 + 2)
set_option maxRecDepth 100000 in
set_option maxHeartbeats 1000000 in
theorem walk (a0 a1 : Int) (a2 : Option Addr) (len2 cap2 : Nat) (z2 : List Int) (w : World) (w0 : (Lit.int .u64 a0).wf = true) (w1 : (Lit.int .u64 a1).wf = true) (w2 : IsRow .u64 w a2 len2 cap2 z2) :
    Calls Try.prog 5 #[.int .u64 a0, .int .u64 a1, .slice a2 len2 cap2] w fun e w' => e = .returned (.bool true) ∧ Below w.heap.size w w' := by
  have b0 := bounds_u64 w0
  have b1 := bounds_u64 w1
  obtain ⟨l1, l2, l3, lc, lw⟩ := id w2
  have hu := w2.u64
  clear w0 w1 w2 lw
  go_enter Try.func5, Try.ntmps5
  go_wp2_with fail
  refine (v_new 3 _ (by omega) (by omega)).mono ?_
  rintro e x1 ⟨p, S1, rfl, h1⟩
  obtain ⟨s1, hs1, o1⟩ := make_first 3 (by omega) (by omega) 9 8 a0 a1 (by omega) (by omega) (by omega) (by omega)
  go_wp2_with fail
  refine (v_make h1 (by omega) 9 8 a0 a1 b0 b1 1 0 s1 hs1).mono ?_
  rintro e x2 ⟨rfl, S2, h2, k2⟩
  clear hs1 h1 k2
  go_wp2
  go_loopw [0, 1, 11] (fun bv ev iv wr => ∃ k : Nat, Rel w p len2 k bv ev iv wr) (fun _ _ i _ => len2 - (intOf i).toNat)
  case atStart => exact ⟨0, S2, s1, _, _, Nat.zero_le _, Nat.zero_le _, rfl, rfl, rfl, b0, b1, o1, h2⟩
  case round =>
    obtain ⟨k, S, s, b, e, kl, k40, rfl, rfl, rfl, hb0, he0, one, h⟩ := hrel
    clear h2 o1 b0 b1
    by_cases hlt : k < len2 ∧ k < 40
    · obtain ⟨hl, h40⟩ := hlt
      obtain ⟨g, off, rfl, hb, hc⟩ := lc (by omega)
      have hcW := hc k hl
      have hc := (h.b.cell (p := ⟨g, off + k, none⟩) hb).trans hcW
      have hy := hu k
      obtain ⟨t, et⟩ : ∃ t, z2.getD k 0 = t := ⟨_, rfl⟩
      rw [et] at hc hcW hy
      clear et lc hu
      by_cases hp : k % 2 = 0
      · have p1 : ((k : Int) % 2 == 0) = true := by rw [beq_iff_eq]; omega
        obtain ⟨c, ec⟩ : ∃ c, IntKind.u64.wrap (b + 1) = c := ⟨_, rfl⟩
        have hcb : U64 c ∧ b ≠ c := by rw [IntKind.wrap_u64] at ec; unfold U64 at *; omega
        have hs := one.begin_no c t hcb.2
        have on2 := one.tick
        go_wp2_with fail
        refine (v_begin h (by omega) 1 c t ⟨by omega, by omega⟩ hcb.1 hy false _ hs).mono ?_
        rintro r x3 ⟨rfl, S3, h3, k3⟩
        have hc3 := (h3.b.cell (p := ⟨g, off + k, none⟩) hb).trans hcW
        have hs3 := on2.begin_yes b t rfl
        have on3 := on2.put h3.ok { k := 9, v := 8, b := t, e := e, n := 0 }
        clear hs hc
        go_wp2_with fail
        refine (v_begin h3 (by omega) 1 b t ⟨by omega, by omega⟩ hb0 hy true _ hs3).mono ?_
        rintro r x4 ⟨rfl, S4, h4, k4⟩
        have hc4 := (h4.b.cell (p := ⟨g, off + k, none⟩) hb).trans hcW
        clear hs3 hc3
        go_wp2_with fail
        refine (v_get h4 (by omega) 1 ⟨by omega, by omega⟩ (.tuple #[.agg #[.int .i64 9, .int .i64 8, .int .u64 t, .int .u64 e, .int .u64 0], .bool true]) on3.get).mono ?_
        rintro r x5 ⟨rfl, S5, h5, k5⟩
        clear hc4 hcW
        go_wp2
        go_roundw
        case rel => exact ⟨k + 1, S5, _, t, e, by omega, by omega, by go_num, rfl, rfl, hy, he0, on3.tick, (h5.quiet (Keep.alloc (Keep.refl _ _) _)).more (by omega)⟩
        case measure => simp [intOf]; omega
      · have p1 : ((k : Int) % 2 == 0) = false := by rw [beq_eq_false_iff_ne]; omega
        have hx := xor1 e he0
        obtain ⟨c, ec⟩ : ∃ c, bits .xor .u64 e 1 = c := ⟨_, rfl⟩
        rw [ec] at hx
        have hs := one.stop_no c t hx.2
        have on2 := one.tick
        go_wp2_with fail
        refine (v_end h (by omega) 1 c t ⟨by omega, by omega⟩ hx.1 hy false _ hs).mono ?_
        rintro r x3 ⟨rfl, S3, h3, k3⟩
        have hc3 := (h3.b.cell (p := ⟨g, off + k, none⟩) hb).trans hcW
        have hs3 := on2.stop_yes e t rfl
        have on3 := on2.put h3.ok { k := 9, v := 8, b := b, e := t, n := 0 }
        clear hs hc
        go_wp2_with fail
        refine (v_end h3 (by omega) 1 e t ⟨by omega, by omega⟩ he0 hy true _ hs3).mono ?_
        rintro r x4 ⟨rfl, S4, h4, k4⟩
        have hc4 := (h4.b.cell (p := ⟨g, off + k, none⟩) hb).trans hcW
        clear hs3 hc3
        go_wp2_with fail
        refine (v_get h4 (by omega) 1 ⟨by omega, by omega⟩ (.tuple #[.agg #[.int .i64 9, .int .i64 8, .int .u64 b, .int .u64 t, .int .u64 0], .bool true]) on3.get).mono ?_
        rintro r x5 ⟨rfl, S5, h5, k5⟩
        clear hc4 hcW
        go_wp2
        go_roundw
        case rel => exact ⟨k + 1, S5, _, b, t, by omega, by omega, by go_num, rfl, rfl, hb0, hy, on3.tick, (h5.quiet (Keep.alloc (Keep.refl _ _) _)).more (by omega)⟩
        case measure => simp [intOf]; omega
    · rcases (by omega : (k = 40 ∧ k < len2) ∨ k = len2) with ⟨rfl, hl⟩ | rfl
      all_goals
        go_wp2_with fail
        refine (awake6_any _).mono ?_
        rintro r x4 ⟨rfl, b4⟩
        go_wp2
        go_ret
        exact ⟨rfl, h.b.trans (b4.mono h.b.size)⟩
theorem own : ownKnob Try.prog.godebug = none := by kernel_rfl
theorem laidOut : laidOutB Try.prog = true := by kernel_rfl
set_option maxRecDepth 100000 in
theorem lifted (os : Os) (started : os.Started) (H : Type) (enc : TypeId × Value → H) :
    ReturnsInHanded {} Try.checked os 5 .any (Rows.recWordsSpec.pre6 enc Try.prog Try.f5 Rows.recWordsRow.domain false) (Rows.recWordsSpec.post enc Try.prog Try.f5 false true false false) := by
  refine returnsInHanded_of_change (C := Try.checked) own started (by kernel_rfl) Try.func5
    (ChangeSpec.witness6 (enc := enc) (C := Try.checked) false ⟨#[], #[.int .u64 0, .int .u64 0, .slice none 0 0], []⟩ 8 (by kernel_rfl) (by kernel_rfl) (by kernel_rfl) (by kernel_rfl)) ?_
  intro W base args ds gs before hval0 hW hcnd _
  have hval : ∀ (j : Nat) t v, Try.f5.params[j]? = some t → args[j]? = some v → Value.okWide Try.prog W .any base t v := hval0
  have hW' := hW
  obtain ⟨p, q, hA0, hV, rfl, hfz, hnd⟩ := hW
  have hA : DataW.TrodAll enc Try.prog W 0 (fun _ => true) true Try.f5.params.toList args.toList ds p := hA0
  rw [Try.params5] at hA hval
  obtain ⟨v0, vs0, d0, ds0, p0, q0, hargs, rfl, rfl, h0, r0⟩ := trodAll_cons hA
  obtain ⟨v1, vs1, d1, ds1, p1, q1, rfl, rfl, rfl, h1, r1⟩ := trodAll_cons r0
  obtain ⟨v2, vs2, d2, ds2, p2, q2, rfl, rfl, rfl, h2, r2⟩ := trodAll_cons r1
  obtain ⟨rfl, rfl, rfl⟩ := trodAll_nil r2
  obtain rfl : args = #[v0, v1, v2] := by cases args; simp_all
  obtain ⟨rfl, rfl⟩ := trodVars_none hV
  obtain ⟨a0, rfl, rfl, rfl, w0⟩ := open_int Try.underlying22 (hval 0 22 v0 rfl rfl) h0
  obtain ⟨a1, rfl, rfl, rfl, w1⟩ := open_int Try.underlying22 (hval 1 22 v1 rfl rfl) h1
  obtain ⟨a2, len2, cap2, rfl⟩ := okWide_slice Try.underlying27 (hval 2 27 v2 rfl rfl)
  have k2 := h2
  have lt2 : ∀ x ∈ p2, x.block < W.heap.size := by obtain ⟨m, hm⟩ := k2; exact DataW.trod_lt m _ _ _ hm
  obtain ⟨z2, w2⟩ : ∃ zs, IsRow .u64 W a2 len2 cap2 zs := is_row Try.underlying27 Try.underlying22 (by kernel_rfl) h2
  clear hA0 hval0
  refine (walk a0 a1 a2 len2 cap2 z2 W w0 w1 w2).mono fun e W' ⟨he, bel⟩ => ?_
  subst he
  exact ⟨_, rfl, _, _, _, [], _, [], hW', trodAll_mk1 (shut_bool Try.underlying4 _), (trodAll_cons_mk (shut_int Try.underlying22 w0) (trodAll_cons_mk (shut_int Try.underlying22 w1) (trodAll_cons_mk (Below.trod laidOut (by kernel_rfl) (of_decide_eq_true (by kernel_rfl)) k2 bel lt2) trodAll_mk0))), rfl, bel.frame _, fun h => by cases h⟩
theorem over : Rows.recWordsRow.holds Try.pinned (OpenSpec.ofChange Rows.recWordsSpec) :=
  OpenClaim.holds_of_wide 5 Try.f5 rfl rfl rfl rfl rfl rfl rfl ⟨rfl, rfl, rfl, rfl, rfl⟩ rfl rfl rfl rfl rfl (by kernel_rfl) Try.func5 (by kernel_rfl)
    (of_decide_eq_true (by kernel_rfl)) (by unfold Func.isWrapper; first | (rw [if_pos (by decide +kernel)]; kernel_rfl) | (rw [if_neg (by decide +kernel)]; exact ⟨rfl, rfl⟩))
    (fun os started H enc _ => lifted os started H enc)
theorem proved : Rows.RecWordsSaid := over
#print axioms proved
end Go.Proofs.Ythmohehmpleciaa.recWords
