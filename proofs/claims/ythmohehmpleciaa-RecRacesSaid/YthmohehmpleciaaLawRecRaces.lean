/- Proved here: vinculumlaw6.RecRaces returns true and leaves its arguments as they were, for every slice of words; no further condition. -/
import Derived.Test.YthmohehmpleciaaRow
import Derived.Test.YthmohehmpleciaaRecO
namespace Go.Proofs.Ythmohehmpleciaa.recRaces
open Go.ChangeShapes Go.WideShapes Go.ChangeAt Go.RowKit
set_option linter.unusedVariables false

def Rel (W : World) (p : Nat) (len k : Nat) (fv wv iv : Value) (wr : World) : Prop :=
  ∃ S s y n, k ≤ len ∧ iv = .int .i64 k ∧ fv = .int .u64 y ∧ wv = .int .i64 n ∧ 0 ≤ n ∧ n ≤ k ∧ (k = 0 → y = 2305843009213693952) ∧ (0 < k → 0 < n) ∧ U64 y ∧ One s 1 ⟨5, 6, 1, y, 0⟩ ∧ Rec W wr p S s (k + 2)
set_option maxRecDepth 100000 in
theorem walk (a0 : Option Addr) (len0 cap0 : Nat) (z0 : List Int) (w : World) (w0 : IsRow .u64 w a0 len0 cap0 z0) :
    Calls Try.prog 7 #[.slice a0 len0 cap0] w fun e w' => e = .returned (.bool true) ∧ Below w.heap.size w w' := by
  obtain ⟨l1, l2, l3, lc, lw⟩ := id w0
  have hu := w0.u64
  clear w0 lw
  go_enter Try.func7, Try.ntmps7
  go_wp2_with fail
  refine (v_new 2 _ (by omega) (by omega)).mono ?_
  rintro e x1 ⟨p, S1, rfl, h1⟩
  by_cases hlen : 40 < len0
  · go_wp2_with fail
    refine (awake6_any _).mono ?_
    rintro e x2 ⟨rfl, b2⟩
    go_wp2
    go_ret
    exact ⟨rfl, h1.b.trans (b2.mono h1.b.size)⟩
  · go_wp2_with fail
    refine (forever_any _).mono ?_
    rintro e w' ⟨rfl, rfl⟩
    obtain ⟨s1, hs1, o1⟩ := make_first 2 (by omega) (by omega) 5 6 1 2305843009213693952 (by omega) (by omega) (by omega) (by omega)
    go_wp2_with fail
    refine (v_make h1 (by omega) 5 6 1 2305843009213693952 ⟨by omega, by omega⟩ ⟨by omega, by omega⟩ 1 0 s1 hs1).mono ?_
    rintro e x2 ⟨rfl, S2, h2, k2⟩
    clear hs1 h1 k2
    go_wp2
    go_loopw [8, 9, 10] (fun fv wv iv wr => ∃ k : Nat, Rel w p len0 k fv wv iv wr) (fun _ _ i _ => len0 - (intOf i).toNat)
    case atStart => exact ⟨0, S2, s1, _, 0, Nat.zero_le _, rfl, rfl, rfl, Int.le_refl _, Int.le_refl _, fun _ => rfl, fun h => by omega, ⟨by omega, by omega⟩, o1, h2⟩
    case round =>
      obtain ⟨k, S, s, y, n, kl, rfl, rfl, rfl, n0, n1, hk0, hk1, yb, one, h⟩ := hrel
      clear h2 o1
      by_cases hlt : k < len0
      · obtain ⟨b, off, rfl, hb, hc⟩ := lc (by omega)
        have hcW := hc k hlt
        have hc := (h.b.cell (p := ⟨b, off + k, none⟩) hb).trans hcW
        have hy := hu k
        obtain ⟨t, et⟩ : ∃ t, z0.getD k 0 = t := ⟨_, rfl⟩
        rw [et] at hc hcW hy
        clear et lc hu
        have wr1 : IntKind.i64.wrap (n + 1) = n + 1 := IntWalk.i64_in _ (by omega)
        by_cases hF : y = 2305843009213693952
        · subst hF
          have hs := one.stop_yes 2305843009213693952 t rfl
          have on2 := one.put h.ok { k := 5, v := 6, b := 1, e := t, n := 0 }
          clear hk0
          go_wp2_with fail
          refine (v_end h (by omega) 1 2305843009213693952 t ⟨by omega, by omega⟩ ⟨by omega, by omega⟩ hy true _ hs).mono ?_
          rintro e x3 ⟨rfl, S3, h3, k3⟩
          have hc3 := (h3.b.cell (p := ⟨b, off + k, none⟩) hb).trans hcW
          clear hs hc hcW
          go_wp2
          go_roundw
          case rel => exact ⟨k + 1, S3, _, t, n + 1, by omega, by go_num, rfl, by go_num, by omega, by omega, fun h => by omega, fun _ => by omega, hy, on2, h3⟩
          case measure => simp [intOf]; omega
        · have hs := one.stop_no 2305843009213693952 t hF
          have q1 : (y == 2305843009213693952) = false := by simpa using hF
          have n2 : 0 < n := hk1 (by rcases Nat.eq_zero_or_pos k with e | e; exact absurd (hk0 e) hF; exact e)
          clear hF hk0
          go_wp2_with fail
          refine (v_end h (by omega) 1 2305843009213693952 t ⟨by omega, by omega⟩ ⟨by omega, by omega⟩ hy false _ hs).mono ?_
          rintro e x3 ⟨rfl, S3, h3, k3⟩
          have hc3 := (h3.b.cell (p := ⟨b, off + k, none⟩) hb).trans hcW
          clear hs hc hcW
          go_wp2
          go_roundw
          case rel => exact ⟨k + 1, S3, _, y, n, by omega, by go_num, rfl, rfl, by omega, by omega, fun h => by omega, fun _ => n2, yb, one.tick, h3⟩
          case measure => simp [intOf]; omega
      · obtain rfl : k = len0 := by omega
        go_wp2_with fail
        refine (v_get h (by omega) 1 ⟨by omega, by omega⟩ (.tuple #[.agg #[.int .i64 5, .int .i64 6, .int .u64 1, .int .u64 y, .int .u64 0], .bool true]) one.get).mono ?_
        rintro e x3 ⟨rfl, S3, h3, k3⟩
        clear hk0
        by_cases hk : k = 0
        · subst hk
          obtain rfl : n = 0 := by omega
          go_wp2_with fail
          refine (awake6_any _).mono ?_
          rintro e x4 ⟨rfl, b4⟩
          go_wp2
          go_ret
          exact ⟨rfl, h3.b.trans ((((Below.refl _ _).alloc (Nat.le_refl _) _).trans (b4.mono (by simp))).mono h3.b.size)⟩
        · have n2 := hk1 (by omega)
          have hkp : 0 < k := by omega
          go_wp2_with fail
          refine (awake6_any _).mono ?_
          rintro e x4 ⟨rfl, b4⟩
          go_wp2
          go_ret
          exact ⟨rfl, h3.b.trans ((((Below.refl _ _).alloc (Nat.le_refl _) _).trans (b4.mono (by simp))).mono h3.b.size)⟩
theorem own : ownKnob Try.prog.godebug = none := by kernel_rfl
theorem laidOut : laidOutB Try.prog = true := by kernel_rfl
set_option maxRecDepth 100000 in
theorem lifted (os : Os) (started : os.Started) (H : Type) (enc : TypeId × Value → H) :
    ReturnsInHanded {} Try.checked os 7 .any (Rows.recRacesSpec.pre6 enc Try.prog Try.f7 Rows.recRacesRow.domain false) (Rows.recRacesSpec.post enc Try.prog Try.f7 false true false false) := by
  refine returnsInHanded_of_change (C := Try.checked) own started (by kernel_rfl) Try.func7
    (ChangeSpec.witness6 (enc := enc) (C := Try.checked) false ⟨#[], #[.slice none 0 0], []⟩ 8 (by kernel_rfl) (by kernel_rfl) (by kernel_rfl) (by kernel_rfl)) ?_
  intro W base args ds gs before hval0 hW hcnd _
  have hval : ∀ (j : Nat) t v, Try.f7.params[j]? = some t → args[j]? = some v → Value.okWide Try.prog W .any base t v := hval0
  have hW' := hW
  obtain ⟨p, q, hA0, hV, rfl, hfz, hnd⟩ := hW
  have hA : DataW.TrodAll enc Try.prog W 0 (fun _ => true) true Try.f7.params.toList args.toList ds p := hA0
  rw [Try.params7] at hA hval
  obtain ⟨v0, vs0, d0, ds0, p0, q0, hargs, rfl, rfl, h0, r0⟩ := trodAll_cons hA
  obtain ⟨rfl, rfl, rfl⟩ := trodAll_nil r0
  obtain rfl : args = #[v0] := by cases args; simp_all
  obtain ⟨rfl, rfl⟩ := trodVars_none hV
  obtain ⟨a0, len0, cap0, rfl⟩ := okWide_slice Try.underlying27 (hval 0 27 v0 rfl rfl)
  have k0 := h0
  have lt0 : ∀ x ∈ p0, x.block < W.heap.size := by obtain ⟨m, hm⟩ := k0; exact DataW.trod_lt m _ _ _ hm
  obtain ⟨z0, w0⟩ : ∃ zs, IsRow .u64 W a0 len0 cap0 zs := is_row Try.underlying27 Try.underlying22 (by kernel_rfl) h0
  clear hA0 hval0
  refine (walk a0 len0 cap0 z0 W w0).mono fun e W' ⟨he, bel⟩ => ?_
  subst he
  exact ⟨_, rfl, _, _, _, [], _, [], hW', trodAll_mk1 (shut_bool Try.underlying4 _), (trodAll_cons_mk (Below.trod laidOut (by kernel_rfl) (of_decide_eq_true (by kernel_rfl)) k0 bel lt0) trodAll_mk0), rfl, bel.frame _, fun h => by cases h⟩
theorem over : Rows.recRacesRow.holds Try.pinned (OpenSpec.ofChange Rows.recRacesSpec) :=
  OpenClaim.holds_of_wide 7 Try.f7 rfl rfl rfl rfl rfl rfl rfl ⟨rfl, rfl, rfl, rfl, rfl⟩ rfl rfl rfl rfl rfl (by kernel_rfl) Try.func7 (by kernel_rfl)
    (of_decide_eq_true (by kernel_rfl)) (by unfold Func.isWrapper; first | (rw [if_pos (by decide +kernel)]; kernel_rfl) | (rw [if_neg (by decide +kernel)]; exact ⟨rfl, rfl⟩))
    (fun os started H enc _ => lifted os started H enc)
theorem proved : Rows.RecRacesSaid := over
#print axioms proved
end Go.Proofs.Ythmohehmpleciaa.recRaces
