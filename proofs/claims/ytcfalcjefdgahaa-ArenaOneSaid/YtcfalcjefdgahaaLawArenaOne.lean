/- Proved here: vinculumlaw2.ArenaOne returns true and leaves its arguments as they were, for every start word and every slice of words; no further condition. -/
import Derived.Test.YtcfalcjefdgahaaRow
namespace Go.Proofs.Ytcfalcjefdgahaa.arenaOne
open Go.ChangeShapes Go.WideShapes Go.ChangeAt Go.RowKit
set_option linter.unusedVariables false

/-- What the word is behind the first k exchanges. -/
def now (s : Int) (zs : List Int) : Nat → Int
  | 0 => s
  | k + 1 => if now s zs k = s then zs.getD k 0 else now s zs k
theorem now_b (s : Int) (zs : List Int) (s0 : 0 ≤ s) (s1 : s ≤ 18446744073709551615) (h : ∀ j, 0 ≤ zs.getD j 0 ∧ zs.getD j 0 ≤ 18446744073709551615) (k : Nat) : 0 ≤ now s zs k ∧ now s zs k ≤ 18446744073709551615 := by
  induction k with
  | zero => exact ⟨s0, s1⟩
  | succ k ih =>
    unfold now
    split
    · exact h k
    · exact ih
def Rel (s : Int) (zs : List Int) (p q : Nat) (B : Nat) (w : World) (k : Nat) (nv i : Value) (wr : World) : Prop :=
  k ≤ zs.length ∧ k ≤ 40 ∧ i = .int .i64 k ∧ nv = .int .u64 (now s zs k) ∧ Ar wr p q [now s zs k] (k + 1) ∧ Below B w wr
set_option maxHeartbeats 1000000 in
theorem walk (a0 : Int) (a1 : Option Addr) (len1 cap1 : Nat) (z1 : List Int) (w : World) (w0 : (Lit.int .u64 a0).wf = true) (w1 : IsRow .u64 w a1 len1 cap1 z1) :
    Calls Try.prog 3 #[.int .u64 a0, .slice a1 len1 cap1] w fun e w' => e = .returned (.bool true) ∧ Below w.heap.size w w' := by
  obtain ⟨s0, s1⟩ := bounds_u64 w0
  obtain ⟨l1, l2, l3, lc, lw⟩ := id w1
  have hu := w1.u64
  subst l1
  go_enter Try.func3, Try.ntmps3
  go_wp2_with fail
  refine (new_ok 1 _ (by omega) (by omega)).mono ?_
  rintro e x1 ⟨p, q, rfl, h1, hp, hq, b1⟩
  go_wp2_with fail
  refine (store_in p q _ _ 0 a0 _ h1 (by simp) (by omega) (by omega) s0 s1).mono ?_
  rintro e x2 ⟨rfl, h2, k2⟩
  have b2 := b1.trans (k2.below b1.size (two_ge hp hq))
  clear h1 k2 b1
  have h2 : Ar x2 p q [a0] 1 := h2
  go_wp2
  go_loopw [7, 8] (fun nv i wr => ∃ k : Nat, Rel a0 z1 p q w.heap.size w k nv i wr) (fun _ i _ => z1.length - (intOf i).toNat)
  case atStart => exact ⟨0, Nat.zero_le _, by omega, rfl, rfl, h2, b2⟩
  case round =>
    obtain ⟨k, kl, k4, rfl, rfl, ar, br⟩ := hrel
    clear h2 b2
    have nb := now_b a0 z1 s0 s1 hu k
    obtain ⟨nv, en⟩ : ∃ x, now a0 z1 k = x := ⟨_, rfl⟩
    have st : now a0 z1 (k + 1) = if nv = a0 then z1.getD k 0 else nv := by rw [← en]; rfl
    rw [en] at nb ar ⊢
    clear en
    by_cases hlt : k < z1.length ∧ k < 40
    · obtain ⟨hl, h40⟩ := hlt
      obtain ⟨b, off, rfl, hb, hc⟩ := lc (by omega)
      have hc := (br.cell (p := ⟨b, off + k, none⟩) hb).trans (hc k hl)
      have hy := hu k
      obtain ⟨y, ey⟩ : ∃ y, z1.getD k 0 = y := ⟨_, rfl⟩
      rw [ey] at hc hy st
      clear ey lc hu
      have ST := Lib.hid st
      clear st
      by_cases hn : nv = a0
      · subst hn
        have st2 : now nv z1 (k + 1) = y := by rw [ST.out, if_pos rfl]
        have S2 := Lib.hid st2
        clear st2 ST
        go_wp2_with fail
        refine (cas_hit p q _ _ 0 nv y _ ar (by simp) (by omega) (by omega) hy.1 hy.2 (by simp)).mono ?_
        rintro e y2 ⟨rfl, h2, k2⟩
        have hc2 := k2.cell hc (by unfold Two; simp; omega)
        go_wp2
        go_roundw
        case rel => exact ⟨k + 1, by omega, by omega, by go_num, by rw [S2.out], by rw [S2.out]; exact h2, br.trans (k2.below br.size (two_ge hp hq))⟩
        case measure => simp [intOf]; omega
      · have hn' : (nv == a0) = false := by simpa using hn
        have st2 : now a0 z1 (k + 1) = nv := by rw [ST.out, if_neg hn]
        have S2 := Lib.hid st2
        clear st2 ST
        go_wp2_with fail
        refine (cas_miss p q _ _ 0 a0 y _ ar (by simp) (by omega) (by omega) (by simpa using hn)).mono ?_
        rintro e y2 ⟨rfl, h2, k2⟩
        go_wp2
        go_roundw
        case rel => exact ⟨k + 1, by omega, by omega, by go_num, by rw [S2.out], by rw [S2.out]; exact h2, br.trans (k2.below br.size (two_ge hp hq))⟩
        case measure => simp [intOf]; omega
    · clear st lc hu
      rcases (by omega : (k = 40 ∧ k < z1.length) ∨ k = z1.length) with ⟨rfl, hl⟩ | rfl
      all_goals
        go_wp2_with fail
        refine (load_in p q _ _ 0 _ ar (by simp) (by omega) (by omega)).mono ?_
        rintro e y2 ⟨rfl, h2, k2⟩
        go_wp2_with fail
        refine (cas_hit p q _ _ 0 nv 9 _ h2 (by simp) (by omega) (by omega) (by omega) (by omega) (by simp)).mono ?_
        rintro e y3 ⟨rfl, h3, k3⟩
        go_wp2_with fail
        refine (load_in p q _ _ 0 _ h3 (by simp) (by omega) (by omega)).mono ?_
        rintro e y4 ⟨rfl, h4, k4⟩
        go_wp2_with fail
        refine (awake2_any _).mono ?_
        rintro e y5 ⟨rfl, b5⟩
        go_wp2
        go_ret
        exact ⟨rfl, (br.trans (((k2.trans k3).trans k4).below br.size (two_ge hp hq))).trans (b5.mono (by have := br.size; have := k2.size; have := k3.size; have := k4.size; omega))⟩
theorem own : ownKnob Try.prog.godebug = none := by kernel_rfl
theorem laidOut : laidOutB Try.prog = true := by kernel_rfl
set_option maxRecDepth 100000 in
theorem lifted (os : Os) (started : os.Started) (H : Type) (enc : TypeId × Value → H) :
    ReturnsInHanded {} Try.checked os 3 .any (Rows.arenaOneSpec.pre6 enc Try.prog Try.f3 Rows.arenaOneRow.domain false) (Rows.arenaOneSpec.post enc Try.prog Try.f3 false true false false) := by
  refine returnsInHanded_of_change (C := Try.checked) own started (by kernel_rfl) Try.func3
    (ChangeSpec.witness6 (enc := enc) (C := Try.checked) false ⟨#[], #[.int .u64 0, .slice none 0 0], []⟩ 8 (by kernel_rfl) (by kernel_rfl) (by kernel_rfl) (by kernel_rfl)) ?_
  intro W base args ds gs before hval0 hW hcnd _
  have hval : ∀ (j : Nat) t v, Try.f3.params[j]? = some t → args[j]? = some v → Value.okWide Try.prog W .any base t v := hval0
  have hW' := hW
  obtain ⟨p, q, hA0, hV, rfl, hfz, hnd⟩ := hW
  have hA : DataW.TrodAll enc Try.prog W 0 (fun _ => true) true Try.f3.params.toList args.toList ds p := hA0
  rw [Try.params3] at hA hval
  obtain ⟨v0, vs0, d0, ds0, p0, q0, hargs, rfl, rfl, h0, r0⟩ := trodAll_cons hA
  obtain ⟨v1, vs1, d1, ds1, p1, q1, rfl, rfl, rfl, h1, r1⟩ := trodAll_cons r0
  obtain ⟨rfl, rfl, rfl⟩ := trodAll_nil r1
  obtain rfl : args = #[v0, v1] := by cases args; simp_all
  obtain ⟨rfl, rfl⟩ := trodVars_none hV
  obtain ⟨a0, rfl, rfl, rfl, w0⟩ := open_int Try.underlying22 (hval 0 22 v0 rfl rfl) h0
  obtain ⟨a1, len1, cap1, rfl⟩ := okWide_slice Try.underlying23 (hval 1 23 v1 rfl rfl)
  have k1 := h1
  have lt1 : ∀ x ∈ p1, x.block < W.heap.size := by obtain ⟨m, hm⟩ := k1; exact DataW.trod_lt m _ _ _ hm
  obtain ⟨z1, w1⟩ : ∃ zs, IsRow .u64 W a1 len1 cap1 zs := is_row Try.underlying23 Try.underlying22 (by kernel_rfl) h1
  clear hA0 hval0
  refine (walk a0 a1 len1 cap1 z1 W w0 w1).mono fun e W' ⟨he, bel⟩ => ?_
  subst he
  exact ⟨_, rfl, _, _, _, [], _, [], hW', trodAll_mk1 (shut_bool Try.underlying4 _), (trodAll_cons_mk (shut_int Try.underlying22 w0) (trodAll_cons_mk (Below.trod laidOut (by kernel_rfl) (of_decide_eq_true (by kernel_rfl)) k1 bel lt1) trodAll_mk0)), rfl, bel.frame _, fun h => by cases h⟩
theorem over : Rows.arenaOneRow.holds Try.pinned (OpenSpec.ofChange Rows.arenaOneSpec) :=
  OpenClaim.holds_of_wide 3 Try.f3 rfl rfl rfl rfl rfl rfl rfl ⟨rfl, rfl, rfl, rfl, rfl⟩ rfl rfl rfl rfl rfl (by kernel_rfl) Try.func3 (by kernel_rfl)
    (of_decide_eq_true (by kernel_rfl)) (by unfold Func.isWrapper; first | (rw [if_pos (by decide +kernel)]; kernel_rfl) | (rw [if_neg (by decide +kernel)]; exact ⟨rfl, rfl⟩))
    (fun os started H enc _ => lifted os started H enc)
theorem proved : Rows.ArenaOneSaid := over
#print axioms proved
end Go.Proofs.Ytcfalcjefdgahaa.arenaOne
