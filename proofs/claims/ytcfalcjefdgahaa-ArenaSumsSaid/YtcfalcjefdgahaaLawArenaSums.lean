/- Proved here: vinculumlaw2.ArenaSums returns true and leaves its argument as it was, for every slice of words; no further condition. -/
import Derived.Test.YtcfalcjefdgahaaRow
namespace Go.Proofs.Ytcfalcjefdgahaa.arenaSums
open Go.ChangeShapes Go.WideShapes Go.ChangeAt Go.RowKit
set_option linter.unusedVariables false

/-- The sum of the first k numbers, of 64 bits. -/
def sumU (zs : List Int) : Nat → Int
  | 0 => 0
  | k + 1 => addU (sumU zs k) (zs.getD k 0)
theorem sumU_b (zs : List Int) (k : Nat) : 0 ≤ sumU zs k ∧ sumU zs k ≤ 18446744073709551615 := by
  cases k with
  | zero => exact ⟨Int.le_refl _, by simp [sumU]⟩
  | succ k => exact addU_b _ _
def Rel (zs : List Int) (p q : Nat) (B : Nat) (w : World) (k : Nat) (s i : Value) (wr : World) : Prop :=
  k ≤ zs.length ∧ k ≤ 40 ∧ i = .int .i64 k ∧ s = .int .u64 (sumU zs k) ∧ Ar wr p q [sumU zs k, sumU zs k] (3 * k) ∧ Below B w wr
/-- The inner loop stands at its first round, or not at all. -/
def Rel2 (p q : Nat) (x y c : Int) (B : Nat) (w : World) (i : Value) (wr : World) : Prop := i = .int .i64 0 ∧ Ar wr p q [x, y] c ∧ Below B w wr
set_option maxHeartbeats 1000000 in
theorem walk (a0 : Option Addr) (len0 cap0 : Nat) (z0 : List Int) (w : World) (w0 : IsRow .u64 w a0 len0 cap0 z0) :
    Calls Try.prog 7 #[.slice a0 len0 cap0] w fun e w' => e = .returned (.bool true) ∧ Below w.heap.size w w' := by
  obtain ⟨l1, l2, l3, lc, lw⟩ := id w0
  have hu := w0.u64
  subst l1
  rcases (by omega : 40 < z0.length ∨ z0.length ≤ 40) with h40 | h40
  all_goals
    go_enter Try.func7, Try.ntmps7
    go_wp2_with fail
    refine (new_ok 2 _ (by omega) (by omega)).mono ?_
    rintro e x1 ⟨p, q, rfl, h1, hp, hq, b1⟩
    have h1 : Ar x1 p q [0, 0] 0 := h1
    go_wp2
    go_loopw [5, 7] (fun s i wr => ∃ k : Nat, Rel z0 p q w.heap.size w k s i wr) (fun _ i _ => z0.length - (intOf i).toNat)
    case atStart => exact ⟨0, Nat.zero_le _, by omega, rfl, rfl, h1, b1⟩
    case round =>
      obtain ⟨k, kl, k4, rfl, rfl, ar, br⟩ := hrel
      clear h1 b1
      have nb := sumU_b z0 k
      obtain ⟨s, es⟩ : ∃ x, sumU z0 k = x := ⟨_, rfl⟩
      have st : sumU z0 (k + 1) = addU s (z0.getD k 0) := by rw [← es]; rfl
      rw [es] at nb ar ⊢
      clear es
      by_cases hlt : k < z0.length ∧ k < 40
      · obtain ⟨hl, h41⟩ := hlt
        obtain ⟨b, off, rfl, hb, hc⟩ := lc (by omega)
        have hnb : ¬ Two p q b := by unfold Two; omega
        have hc := (br.cell (p := ⟨b, off + k, none⟩) hb).trans (hc k hl)
        have hy := hu k
        obtain ⟨y, ey⟩ : ∃ y, z0.getD k 0 = y := ⟨_, rfl⟩
        rw [ey] at hc hy st
        clear ey lc hu
        obtain ⟨t, et⟩ : ∃ t, addU s y = t := ⟨_, rfl⟩
        rw [et] at st
        have tb := addU_b s y
        rw [et] at tb
        have S2 := Lib.hid st
        have T2 := Lib.hid et
        have wr1 : IntKind.u64.wrap (s + y) = t := (wrapU s y).trans et
        clear st et
        go_wp2_with fail
        refine (add_to 0 y t [t, s] (3 * k + 1) ar (by simp) (by omega) (by omega) T2.out rfl rfl).mono ?_
        rintro e y1 ⟨rfl, h2, k2⟩
        have hc2 := k2.cell hc hnb
        have br2 := br.trans (k2.below br.size (two_ge hp hq))
        clear ar br hc k2
        go_wp2
        go_loopw [8] (fun i wr => Rel2 p q t s (3 * k + 1) w.heap.size w i wr ∧ wr.cell? ⟨b, off + k, none⟩ = some (.int .u64 y)) (fun _ _ => 0)
        case atStart => exact ⟨⟨rfl, h2, br2⟩, hc2⟩
        case round =>
          obtain ⟨⟨rfl, ar, br⟩, hc⟩ := hrel
          clear h2 br2 hc2
          go_wp2_with fail
          refine (load_to 1 s (3 * k + 2) ar (by simp) (by omega) (by omega) rfl (by omega)).mono ?_
          rintro e y2 ⟨rfl, h3, k3⟩
          have hc3 := k3.cell hc hnb
          go_wp2_with fail
          refine (cas_to 1 s t [t, t] (3 * (k + 1 : Nat)) h3 (by simp) (by omega) (by omega) (by omega) (by omega) rfl rfl (by omega)).mono ?_
          rintro e y3 ⟨rfl, h4, k4⟩
          go_wp2
          go_roundw
          case rel => exact ⟨k + 1, by omega, by omega, by go_num, by rw [S2.out], by rw [S2.out]; exact h4, br.trans ((k3.trans k4).below br.size (two_ge hp hq))⟩
          case measure => simp [intOf]; omega
      · clear lc hu st
        rcases (by omega : (k = 40 ∧ 40 < z0.length) ∨ (k = z0.length ∧ z0.length ≤ 40)) with ⟨hk, h9⟩ | ⟨hk, h9⟩
        all_goals try (exfalso; omega)
        all_goals subst hk
        all_goals
          go_wp2_with fail
          refine (load_to 0 s _ ar (by simp) (by omega) (by omega) rfl rfl).mono ?_
          rintro e y2 ⟨rfl, h2, k2⟩
          go_wp2_with fail
          refine (load_to 1 s _ h2 (by simp) (by omega) (by omega) rfl rfl).mono ?_
          rintro e y3 ⟨rfl, h3, k3⟩
          go_wp2_with fail
          refine (count_any p q _ _ _ h3).mono ?_
          rintro e y4 ⟨rfl, rfl⟩
          go_wp2_with fail
          refine (awake2_any _).mono ?_
          rintro e y5 ⟨rfl, b5⟩
          go_wp2
          go_ret
          exact ⟨rfl, (br.trans ((k2.trans k3).below br.size (two_ge hp hq))).trans (b5.mono (by have := br.size; have := k2.size; have := k3.size; omega))⟩
theorem own : ownKnob Try.prog.godebug = none := by kernel_rfl
theorem laidOut : laidOutB Try.prog = true := by kernel_rfl
set_option maxRecDepth 100000 in
theorem lifted (os : Os) (started : os.Started) (H : Type) (enc : TypeId × Value → H) :
    ReturnsInHanded {} Try.checked os 7 .any (Rows.arenaSumsSpec.pre6 enc Try.prog Try.f7 Rows.arenaSumsRow.domain false) (Rows.arenaSumsSpec.post enc Try.prog Try.f7 false true false false) := by
  refine returnsInHanded_of_change (C := Try.checked) own started (by kernel_rfl) Try.func7
    (ChangeSpec.witness6 (enc := enc) (C := Try.checked) false ⟨#[], #[.slice none 0 0], []⟩ 8 (by kernel_rfl) (by kernel_rfl) (by kernel_rfl) (by kernel_rfl)) ?_
  intro W base args ds gs before hval0 hW hcnd _
  have hval : ∀ (j : Nat) t v, Try.f7.params[j]? = some t → args[j]? = some v → Value.okWide Try.prog W .any base t v := hval0
  have hW' := hW
  obtain ⟨p, q, hA0, hV, rfl, hfz, hnd⟩ := hW
  have hA : DataW.TrodAll enc Try.prog W 0 (fun _ => true) true Try.f7.params.toList args.toList ds p := hA0
  rw [Try.params7] at hA hval
  obtain ⟨v0, vs0, d0, ds0, p0, q0, hargs, rfl, rfl, h0, r0⟩ := trodAll_cons hA
  obtain ⟨rfl, rfl, rfl⟩ := trodAll_nil r0
  obtain rfl : args = #[v0] := by cases args; simp_all
  obtain ⟨rfl, rfl⟩ := trodVars_none hV
  obtain ⟨a0, len0, cap0, rfl⟩ := okWide_slice Try.underlying23 (hval 0 23 v0 rfl rfl)
  have k0 := h0
  have lt0 : ∀ x ∈ p0, x.block < W.heap.size := by obtain ⟨m, hm⟩ := k0; exact DataW.trod_lt m _ _ _ hm
  obtain ⟨z0, w0⟩ : ∃ zs, IsRow .u64 W a0 len0 cap0 zs := is_row Try.underlying23 Try.underlying22 (by kernel_rfl) h0
  clear hA0 hval0
  refine (walk a0 len0 cap0 z0 W w0).mono fun e W' ⟨he, bel⟩ => ?_
  subst he
  exact ⟨_, rfl, _, _, _, [], _, [], hW', trodAll_mk1 (shut_bool Try.underlying4 _), (trodAll_cons_mk (Below.trod laidOut (by kernel_rfl) (of_decide_eq_true (by kernel_rfl)) k0 bel lt0) trodAll_mk0), rfl, bel.frame _, fun h => by cases h⟩
theorem over : Rows.arenaSumsRow.holds Try.pinned (OpenSpec.ofChange Rows.arenaSumsSpec) :=
  OpenClaim.holds_of_wide 7 Try.f7 rfl rfl rfl rfl rfl rfl rfl ⟨rfl, rfl, rfl, rfl, rfl⟩ rfl rfl rfl rfl rfl (by kernel_rfl) Try.func7 (by kernel_rfl)
    (of_decide_eq_true (by kernel_rfl)) (by unfold Func.isWrapper; first | (rw [if_pos (by decide +kernel)]; kernel_rfl) | (rw [if_neg (by decide +kernel)]; exact ⟨rfl, rfl⟩))
    (fun os started H enc _ => lifted os started H enc)
theorem proved : Rows.ArenaSumsSaid := over
#print axioms proved
end Go.Proofs.Ytcfalcjefdgahaa.arenaSums
