/- Proved here: vinculumlaw6.RecFull returns true and leaves its arguments as they were, for every two ints; no further condition. -/
import Derived.Test.YthmohehmpleciaaRecO
import Derived.Test.YthmohehmpleciaaBits
namespace Go.Proofs.Ythmohehmpleciaa.recFull
open Go.ChangeShapes Go.WideShapes Go.ChangeAt Go.RowKit
set_option linter.unusedVariables false

def Rel (W : World) (p n k : Nat) (v iv : Value) (wr : World) : Prop :=
  ∃ S s, k ≤ n ∧ iv = .int .i64 k ∧ Fill s n k ∧ RecU W wr p S s (k + 1) v (upTo k)
set_option maxRecDepth 100000 in
set_option maxHeartbeats 4000000 in
theorem walk (a0 a1 : Int) (w : World) (w0 : (Lit.int .i64 a0).wf = true) (w1 : (Lit.int .i64 a1).wf = true) :
    Calls Try.prog 4 #[.int .i64 a0, .int .i64 a1] w fun e w' => e = .returned (.bool true) ∧ Below w.heap.size w w' := by
  obtain ⟨p0, p1⟩ := bounds_i64 w0
  obtain ⟨q0, q1⟩ := bounds_i64 w1
  obtain ⟨m0, em0⟩ : ∃ m : Nat, a0 % 256 = m := ⟨(a0 % 256).toNat, by omega⟩
  have hm0 : bits .and .i64 a0 255 = m0 := (i64_mask a0 8 (by decide)).trans em0
  obtain ⟨n, en⟩ : ∃ n : Nat, (m0 : Int) % 40 + 1 = n := ⟨((m0 : Int) % 40 + 1).toNat, by omega⟩
  have n1 : 1 ≤ n := by omega
  have n2 : n ≤ 40 := by omega
  obtain ⟨m1, em1⟩ : ∃ m : Nat, a1 % 256 = m := ⟨(a1 % 256).toNat, by omega⟩
  have hm1 : bits .and .i64 a1 255 = m1 := (i64_mask a1 8 (by decide)).trans em1
  obtain ⟨j, ej⟩ : ∃ j : Nat, m1 % n = j := ⟨_, rfl⟩
  have hj : j < n := by rw [← ej]; exact Nat.mod_lt _ (by omega)
  have ek : (m1 : Int) % (n : Int) = (j : Int) := by rw [← ej]; rfl
  clear em0 em1 ej
  go_enter Try.func4, Try.ntmps4
  go_wp2_with fail
  refine (v_new n _ n1 (by omega)).mono ?_
  rintro e w1 ⟨p, S1, rfl, h1⟩
  have U1 := RecU.start h1
  go_wp2
  go_loopw [7, 8] (fun v i wr => ∃ k : Nat, Rel w p n k v i wr) (fun _ i _ => n - (intOf i).toNat)
  case atStart => exact ⟨0, S1, RS.new n, Nat.zero_le _, rfl, fill_new n, U1⟩
  case round =>
    obtain ⟨k, S, s, hk, rfl, fl, B⟩ := hrel
    clear h1 U1
    by_cases hlt : k < n
    · have NS := Lib.hid (upTo_succ k)
      obtain ⟨s2, hs2, fl2, _, _⟩ := fl.make B.r.ok hlt 1 k 1 2 (by omega) (by omega) (by omega) (by omega)
      go_wp2_with fail
      refine (v_make B.r (by omega) 1 k 1 2 ⟨by omega, by omega⟩ ⟨by omega, by omega⟩ ((k : Int) + 1) 0 s2 hs2).mono ?_
      rintro e w2 ⟨rfl, S2, h2, k2⟩
      have B2 := B.step h2 k2
      clear hs2 fl B k2 h2
      go_wp2_with (with_reducible refine wp_stop 49 rfl ?_)
      intro _
      refine wp_push rfl (.tmp 46) (.tmp 48) rfl w.heap.size B2.r.b.size u7 (upTo k) rfl B2.ow ((k : Int) + 1) rfl (by rw [upTo_len]; omega) ?_
      intro g c w3 o3 k3 hg
      have B3 := B2.push o3 k3 hg
      rw [← NS.out] at B3
      clear B2 k3 hg o3
      go_wp2
      go_roundw
      case rel => exact ⟨k + 1, S2, s2, by omega, by go_num, fl2, B3⟩
      case measure => simp [intOf]; omega
    · obtain rfl : k = n := by omega
      obtain ⟨g, c, hv⟩ := own_at B.ow (by omega)
      subst hv
      have hs := fl.full 1 1 1 2 (by omega) (by omega) (by omega) (by omega)
      go_wp2_with fail
      refine (v_make B.r (by omega) 1 1 1 2 ⟨by omega, by omega⟩ ⟨by omega, by omega⟩ 0 15 _ hs).mono ?_
      rintro e w2 ⟨rfl, S2, h2, k2⟩
      have B2 := B.step h2 k2
      obtain ⟨s3, s4, hs3, hs4, one, dead, used⟩ := fl.tick.again h2.ok j hj 2 77 5 6 (by omega) (by omega) (by omega) (by omega)
      clear hs fl B k2 h2
      have cc : ∀ {wx : World} {S : Nat → Prop} {sx : RS} {kx : Nat}, RecU w wx p S sx kx (.slice (some ⟨g, 0, none⟩) k c) (upTo k) → wx.cell? ⟨g, j, none⟩ = some (.int .u64 ((j : Int) + 1)) := fun B => by
        have := B.ow.cell j (by rw [upTo_len]; exact hj)
        rwa [upTo_get k j hj] at this
      have c2 := cc B2
      go_wp2_with fail
      refine (v_free B2.r (by omega) ((j : Int) + 1) ⟨by omega, by omega⟩ 0 s3 hs3).mono ?_
      rintro e w3 ⟨rfl, S3, h3, k3⟩
      have B3 := B2.step h3 k3
      clear hs3 B2 k3 h3 c2
      go_wp2_with fail
      refine (v_make B3.r (by omega) 2 77 5 6 ⟨by omega, by omega⟩ ⟨by omega, by omega⟩ (131072 + ((j : Int) + 1)) 0 s4 hs4).mono ?_
      rintro e w4 ⟨rfl, S4, h4, k4⟩
      have B4 := B3.step h4 k4
      clear hs4 B3 k4 h4
      have c4 := cc B4
      have ne : (131072 + ((j : Int) + 1) == (j : Int) + 1) = false := by rw [beq_eq_false_iff_ne]; omega
      obtain ⟨L, eL⟩ : ∃ L, 131072 + ((j : Int) + 1) = L := ⟨_, rfl⟩
      have bL : U64 L := ⟨by omega, by omega⟩
      rw [eL] at one ne ⊢
      clear eL
      go_wp2_with fail
      refine (v_begin B4.r (by omega) ((j : Int) + 1) 5 9 ⟨by omega, by omega⟩ ⟨by omega, by omega⟩ ⟨by omega, by omega⟩ false _ (dead_begin dead 5 9)).mono ?_
      rintro e w5 ⟨rfl, S5, h5, k5⟩
      have B5 := B4.step h5 k5
      clear B4 k5 h5 c4
      have c5 := cc B5
      go_wp2_with fail
      refine (v_end B5.r (by omega) ((j : Int) + 1) 6 9 ⟨by omega, by omega⟩ ⟨by omega, by omega⟩ ⟨by omega, by omega⟩ false _ (dead_stop (s := s4.tick) dead 6 9)).mono ?_
      rintro e w6 ⟨rfl, S6, h6, k6⟩
      have B6 := B5.step h6 k6
      clear B5 k6 h6 c5
      have c6 := cc B6
      go_wp2_with fail
      refine (v_set B6.r (by omega) ((j : Int) + 1) 3 ⟨by omega, by omega⟩ 8 _ (dead_set (s := s4.tick.tick) dead 3)).mono ?_
      rintro e w7 ⟨rfl, S7, h7, k7⟩
      have B7 := B6.step h7 k7
      clear B6 k7 h7 c6
      have c7 := cc B7
      go_wp2_with fail
      refine (v_next B7.r (by omega) ((j : Int) + 1) 1 ⟨by omega, by omega⟩ ⟨by omega, by omega⟩ 8 _ (dead_next (s := s4.tick.tick.tick) dead 1)).mono ?_
      rintro e w8 ⟨rfl, S8, h8, k8⟩
      clear B7 k8 c7
      go_wp2_with fail
      refine (v_get h8 (by omega) L bL (.tuple #[.agg #[.int .i64 2, .int .i64 77, .int .u64 5, .int .u64 6, .int .u64 0], .bool true]) one.tick.tick.tick.tick.get).mono ?_
      rintro e w9 ⟨rfl, S9, h9, k9⟩
      have h9 := h9.quiet (Keep.alloc (Keep.refl _ _) (.cells #[.int .i64 2, .int .i64 77, .int .u64 5, .int .u64 6, .int .u64 0] 33))
      clear h8 k9
      go_wp2_with fail
      refine (v_used h9 (by omega) k used).mono ?_
      rintro e wa ⟨rfl, Sa, ha, ka⟩
      clear h9 ka
      go_wp2_with fail
      refine (awake6_any _).mono ?_
      rintro r wb ⟨rfl, bb⟩
      go_wp2
      go_ret
      exact ⟨rfl, ha.b.trans (bb.mono ha.b.size)⟩
theorem own : ownKnob Try.prog.godebug = none := by kernel_rfl
theorem laidOut : laidOutB Try.prog = true := by kernel_rfl
set_option maxRecDepth 100000 in
theorem lifted (os : Os) (started : os.Started) (H : Type) (enc : TypeId × Value → H) :
    ReturnsInHanded {} Try.checked os 4 .any (Rows.recFullSpec.pre6 enc Try.prog Try.f4 Rows.recFullRow.domain false) (Rows.recFullSpec.post enc Try.prog Try.f4 false true false false) := by
  refine returnsInHanded_of_change (C := Try.checked) own started (by kernel_rfl) Try.func4
    (ChangeSpec.witness6 (enc := enc) (C := Try.checked) false ⟨#[], #[.int .i64 0, .int .i64 0], []⟩ 8 (by kernel_rfl) (by kernel_rfl) (by kernel_rfl) (by kernel_rfl)) ?_
  intro W base args ds gs before hval0 hW hcnd _
  have hval : ∀ (j : Nat) t v, Try.f4.params[j]? = some t → args[j]? = some v → Value.okWide Try.prog W .any base t v := hval0
  have hW' := hW
  obtain ⟨p, q, hA0, hV, rfl, hfz, hnd⟩ := hW
  have hA : DataW.TrodAll enc Try.prog W 0 (fun _ => true) true Try.f4.params.toList args.toList ds p := hA0
  rw [Try.params4] at hA hval
  obtain ⟨v0, vs0, d0, ds0, p0, q0, hargs, rfl, rfl, h0, r0⟩ := trodAll_cons hA
  obtain ⟨v1, vs1, d1, ds1, p1, q1, rfl, rfl, rfl, h1, r1⟩ := trodAll_cons r0
  obtain ⟨rfl, rfl, rfl⟩ := trodAll_nil r1
  obtain rfl : args = #[v0, v1] := by cases args; simp_all
  obtain ⟨rfl, rfl⟩ := trodVars_none hV
  obtain ⟨a0, rfl, rfl, rfl, w0⟩ := open_int Try.underlying3 (hval 0 3 v0 rfl rfl) h0
  obtain ⟨a1, rfl, rfl, rfl, w1⟩ := open_int Try.underlying3 (hval 1 3 v1 rfl rfl) h1
  clear hA0 hval0
  refine (walk a0 a1 W w0 w1).mono fun e W' ⟨he, bel⟩ => ?_
  subst he
  exact ⟨_, rfl, _, _, _, [], _, [], hW', trodAll_mk1 (shut_bool Try.underlying4 _), (trodAll_cons_mk (shut_int Try.underlying3 w0) (trodAll_cons_mk (shut_int Try.underlying3 w1) trodAll_mk0)), rfl, bel.frame _, fun h => by cases h⟩
theorem over : Rows.recFullRow.holds Try.pinned (OpenSpec.ofChange Rows.recFullSpec) :=
  OpenClaim.holds_of_wide 4 Try.f4 rfl rfl rfl rfl rfl rfl rfl ⟨rfl, rfl, rfl, rfl, rfl⟩ rfl rfl rfl rfl rfl (by kernel_rfl) Try.func4 (by kernel_rfl)
    (of_decide_eq_true (by kernel_rfl)) (by unfold Func.isWrapper; first | (rw [if_pos (by decide +kernel)]; kernel_rfl) | (rw [if_neg (by decide +kernel)]; exact ⟨rfl, rfl⟩))
    (fun os started H enc _ => lifted os started H enc)
theorem proved : Rows.RecFullSaid := over
#print axioms proved
end Go.Proofs.Ythmohehmpleciaa.recFull
