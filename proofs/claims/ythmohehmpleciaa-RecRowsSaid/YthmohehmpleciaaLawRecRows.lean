/- Proved here: vinculumlaw6.RecRows returns true and leaves its arguments as they were, for every int and every word; no further condition. -/
import Derived.Test.YthmohehmpleciaaRecO
import Derived.Test.YthmohehmpleciaaBits
namespace Go.Proofs.Ythmohehmpleciaa.recRows
open Go.ChangeShapes Go.WideShapes Go.ChangeAt Go.RowKit
set_option linter.unusedVariables false

def vj (j : Nat) : Ver := ⟨j, 10 * j, j, 2305843009213693952, j⟩
def Rel1 (W : World) (p n k : Nat) (hv v iv : Value) (wr : World) : Prop :=
  ∃ S s, k ≤ n ∧ iv = .int .i64 k ∧ hv = .int .u64 k ∧ Fill s 40 k ∧ (∀ j, j < k → s.ver j = vj j) ∧ RecU W wr p S s (2 * k + 1) v (upTo k)
def Rel2 (W : World) (p n j : Nat) (l av iv : Value) (wr : World) : Prop :=
  ∃ S s, j ≤ n ∧ iv = .int .i64 ((j : Int) - 1) ∧ av = .int .u64 j ∧ Fill s 40 n ∧ (∀ j, j < n → s.ver j = vj j) ∧ RecU W wr p S s (3 * n + 1 - j) l (upTo n)
def Rel3 (W : World) (p n k : Nat) (bit : Nat → Bool) (l uv iv : Value) (wr : World) : Prop :=
  ∃ S s u, k ≤ n ∧ iv = .int .i64 k ∧ uv = .int .i64 u ∧ Gone s n k bit vj u ∧ RecU W wr p S s (3 * n + 1 + 2 * k) l (upTo n)
def Rel4 (W : World) (p n k : Nat) (bit : Nat → Bool) (u : Int) (l iv : Value) (wr : World) : Prop :=
  ∃ S s, k ≤ n ∧ iv = .int .i64 k ∧ Gone s n n bit vj u ∧ RecU W wr p S s (5 * n + 1 + k) l (upTo n)
set_option maxRecDepth 100000 in
set_option maxHeartbeats 8000000 in
theorem walk (a0 a1 : Int) (w : World) (w0 : (Lit.int .i64 a0).wf = true) (w1 : (Lit.int .u64 a1).wf = true) :
    Calls Try.prog 3 #[.int .i64 a0, .int .u64 a1] w fun e w' => e = .returned (.bool true) ∧ Below w.heap.size w w' := by
  obtain ⟨p0, p1⟩ := bounds_i64 w0
  obtain ⟨q0, q1⟩ := bounds_u64 w1
  obtain ⟨m0, em0⟩ : ∃ m : Nat, a0 % 256 = m := ⟨(a0 % 256).toNat, by omega⟩
  have hm0 : bits .and .i64 a0 255 = m0 := (i64_mask a0 8 (by decide)).trans em0
  obtain ⟨n, en⟩ : ∃ n : Nat, (m0 : Int) % 30 + 1 = n := ⟨((m0 : Int) % 30 + 1).toNat, by omega⟩
  have n1 : 1 ≤ n := by omega
  have n2 : n ≤ 30 := by omega
  obtain ⟨bit, ebit⟩ : ∃ bit : Nat → Bool, ∀ k, bit k = (bits .and .u64 (a1 / 2 ^ k) 1 == 1) := ⟨fun k => _, fun k => rfl⟩
  clear em0 w0 w1
  go_enter Try.func3, Try.ntmps3
  go_wp2_with fail
  refine (v_new 40 _ (by omega) (by omega)).mono ?_
  rintro e w1 ⟨p, S1, rfl, h1⟩
  have U1 := RecU.start h1
  go_wp2
  go_loopw [7, 8, 9] (fun hv v i wr => ∃ k : Nat, Rel1 w p n k hv v i wr) (fun _ _ i _ => n - (intOf i).toNat)
  case atStart => exact ⟨0, S1, RS.new 40, Nat.zero_le _, rfl, rfl, fill_new 40, fun j hj => by omega, U1⟩
  case round =>
    obtain ⟨k, S, s, hk, rfl, rfl, fl, hv, B⟩ := hrel
    clear h1 U1
    by_cases hlt : k < n
    · have NS := Lib.hid (upTo_succ k)
      have wr1 : IntKind.i64.wrap (10 * (k : Int)) = 10 * (k : Int) := IntWalk.i64_in _ (by omega)
      have wr2 : IntKind.u64.wrap (k : Int) = k := by rw [IntKind.wrap_u64]; omega
      obtain ⟨s2, hs2, fl2, v2, v2o⟩ := fl.make B.r.ok (by omega) k (10 * k) k 2305843009213693952 (by omega) (by omega) (by omega) (by omega)
      go_wp2_with fail
      refine (forever_any _).mono ?_
      rintro e w' ⟨rfl, rfl⟩
      go_wp2_with fail
      refine (v_make B.r (by omega) k (10 * k) k 2305843009213693952 ⟨by omega, by omega⟩ ⟨by omega, by omega⟩ ((k : Int) + 1) 0 s2 hs2).mono ?_
      rintro e w2 ⟨rfl, S2, h2, k2⟩
      have B2 := B.step h2 k2
      have lv := fl2.live h2.ok k (by omega) (by omega)
      have sk := slotOf_succ k (by omega)
      have hs3 : s2.next ((k : Int) + 1) k = (0, s2.put k (vj k)) := by
        unfold RS.next; rw [if_pos lv, sk, v2]; rfl
      have hv3 : ∀ j, j < k + 1 → (s2.put k (vj k)).ver j = vj j := fun j hj => by
        rw [RS.ver_put s2 k j _ (by rw [h2.ok.l, fl2.len]; omega)]
        by_cases e : k = j
        · rw [if_pos e, e]
        · rw [if_neg e, v2o j (fun z => e z.symm), hv j (by omega)]
      have fl3 := fl2.put k (vj k)
      have FL3 := Lib.hid (And.intro fl3 hv3)
      clear hs2 fl B k2 h2 hv v2 v2o fl2 lv hv3 fl3
      go_wp2_with fail
      refine (v_next B2.r (by omega) ((k : Int) + 1) k ⟨by omega, by omega⟩ ⟨by omega, by omega⟩ 0 _ hs3).mono ?_
      rintro e w3 ⟨rfl, S3, h3, k3⟩
      have B3 := B2.step h3 k3
      clear hs3 B2 k3 h3
      go_wp2_with (with_reducible refine wp_stop 64 rfl ?_)
      intro _
      refine wp_push rfl (.tmp 61) (.tmp 63) rfl w.heap.size B3.r.b.size u8 (upTo k) rfl B3.ow ((k : Int) + 1) rfl (by rw [upTo_len]; omega) ?_
      intro g c w4 o4 k4 hg
      have B4 := B3.push o4 k4 hg
      rw [← NS.out] at B4
      clear B3 k4 hg o4
      go_wp2
      go_roundw
      case rel => exact ⟨k + 1, S3, _, by omega, by go_num, by go_num, FL3.out.1, FL3.out.2, B4.more (by omega)⟩
      case measure => simp [intOf]; omega
    · obtain rfl : k = n := by omega
      obtain ⟨g, c, hvv⟩ := own_at B.ow (by omega)
      subst hvv
      clear en hm0 p0 p1
      have wr0 : IntKind.i64.wrap ((k : Int) - 1) = (k : Int) - 1 := IntWalk.i64_in _ (by omega)
      go_wp2
      go_loopw [12, 13] (fun av i wr => ∃ j : Nat, Rel2 w p k j (.slice (some ⟨g, 0, none⟩) k c) av i wr) (fun _ i _ => (intOf i + 1).toNat)
      case atStart => exact ⟨k, S, s, Nat.le_refl _, rfl, rfl, fl, hv, B.more (by omega)⟩
      case round =>
        obtain ⟨j, S2, s2, hj, hiv, hav, fl2, hv2, B2⟩ := hrel
        clear B fl hv
        by_cases hj0 : 0 < j
        · obtain ⟨m, rfl⟩ : ∃ m, j = m + 1 := ⟨j - 1, by omega⟩
          have e1 : (((m + 1 : Nat) : Int) - 1) = (m : Int) := by omega
          rw [e1] at hiv
          subst hiv
          have e2 : (((m + 1 : Nat)) : Int) = (m : Int) + 1 := by omega
          rw [e2] at hav
          subst hav
          have wr1 : IntKind.i64.wrap (10 * (m : Int)) = 10 * (m : Int) := IntWalk.i64_in _ (by omega)
          have wr2 : IntKind.u64.wrap (m : Int) = m := by rw [IntKind.wrap_u64]; omega
          have wr3 : IntKind.i64.wrap ((m : Int) - 1) = (m : Int) - 1 := IntWalk.i64_in _ (by omega)
          have hg : s2.get ((m : Int) + 1) = .tuple #[.agg #[.int .i64 m, .int .i64 (10 * m), .int .u64 m, .int .u64 2305843009213693952, .int .u64 m], .bool true] := by
            unfold RS.get
            rw [if_pos (fl2.live B2.r.ok m (by omega) (by omega)), slotOf_succ m (by omega), hv2 m (by omega)]; rfl
          clear e1 e2
          go_wp2_with fail
          refine (v_get B2.r (by omega) ((m : Int) + 1) ⟨by omega, by omega⟩ _ hg).mono ?_
          rintro e w3 ⟨rfl, S3, h3, k3⟩
          have B3 := (B2.step h3 k3).quiet (Keep.alloc (Keep.refl _ _) (.cells #[.int .i64 m, .int .i64 (10 * m), .int .u64 m, .int .u64 2305843009213693952, .int .u64 m] 33))
          clear hg B2 h3 k3
          go_wp2
          go_roundw
          case rel => exact ⟨m, S3, _, by omega, rfl, rfl, fl2.tick, hv2, B3.more (by omega)⟩
          case measure => simp [intOf]
        · obtain rfl : j = 0 := by omega
          have e1 : (((0 : Nat) : Int) - 1) = -1 := by omega
          have e2 : (((0 : Nat) : Int)) = 0 := rfl
          rw [e1] at hiv
          rw [e2] at hav
          subst hiv
          subst hav
          clear wr0
          go_wp2
          go_loopw [16, 17] (fun uv i wr => ∃ j : Nat, Rel3 w p k j bit (.slice (some ⟨g, 0, none⟩) k c) uv i wr) (fun _ i _ => k - (intOf i).toNat)
          case atStart => exact ⟨0, S2, s2, _, Nat.zero_le _, rfl, rfl, Gone.start fl2 B2.r.ok (by omega) hv2, B2.more (by omega)⟩
          case round =>
            obtain ⟨m, S3, s3, u, hm, rfl, rfl, gn, B3⟩ := hrel
            clear B2 fl2 hv2
            have u0 := gn.u0
            have u1 := gn.u1
            by_cases hmk : m < k
            · have eb := (ebit m).symm
              cases hbit : bit m with
              | true =>
                rw [hbit] at eb
                obtain ⟨s4, hs4, dead, gn4⟩ := gn.free B3.r.ok hmk (by omega) hbit
                have cc : ∀ {wx : World} {S : Nat → Prop} {sx : RS} {kx : Nat}, RecU w wx p S sx kx (.slice (some ⟨g, 0, none⟩) k c) (upTo k) → wx.cell? ⟨g, m, none⟩ = some (.int .u64 ((m : Int) + 1)) := fun B => by
                  have := B.ow.cell m (by rw [upTo_len]; exact hmk)
                  rwa [upTo_get k m hmk] at this
                have c3 := cc B3
                have wr1 : IntKind.i64.wrap (u - 1) = u - 1 := IntWalk.i64_in _ (by omega)
                clear hbit
                go_wp2_with fail
                refine (v_free B3.r (by omega) ((m : Int) + 1) ⟨by omega, by omega⟩ 0 s4 hs4).mono ?_
                rintro e w4 ⟨rfl, S4, h4, k4⟩
                have B4 := B3.step h4 k4
                clear hs4 B3 k4 h4 c3
                have c4 := cc B4
                go_wp2_with fail
                refine (v_free B4.r (by omega) ((m : Int) + 1) ⟨by omega, by omega⟩ 8 _ (dead_free dead)).mono ?_
                rintro e w5 ⟨rfl, S5, h5, k5⟩
                have B5 := B4.step h5 k5
                clear B4 k5 h5 c4
                go_wp2
                go_roundw
                case rel => exact ⟨m + 1, S5, _, u - 1, by omega, by go_num, rfl, gn4.tick, B5.more (by omega)⟩
                case measure => simp [intOf]; omega
              | false =>
                rw [hbit] at eb
                have gn4 := gn.skip hbit
                clear hbit
                go_wp2
                go_roundw
                case rel => exact ⟨m + 1, S3, _, u, by omega, by go_num, rfl, gn4, B3.more (by omega)⟩
                case measure => simp [intOf]; omega
            · obtain rfl : m = k := by omega
              go_wp2
              go_loopw [18] (fun i wr => ∃ j : Nat, Rel4 w p m j bit u (.slice (some ⟨g, 0, none⟩) m c) i wr) (fun i _ => m - (intOf i).toNat)
              case atStart => exact ⟨0, S3, s3, Nat.zero_le _, rfl, gn, B3.more (by omega)⟩
              case round =>
                obtain ⟨j, S4, s4, hj4, rfl, gn4, B4⟩ := hrel
                clear B3 gn
                by_cases hjm : j < m
                · have eb := (ebit j).symm
                  have wr1 : IntKind.i64.wrap (10 * (j : Int)) = 10 * (j : Int) := IntWalk.i64_in _ (by omega)
                  have c4 : wr.cell? ⟨g, j, none⟩ = some (.int .u64 ((j : Int) + 1)) := by
                    have := B4.ow.cell j (by rw [upTo_len]; exact hjm)
                    rwa [upTo_get m j hjm] at this
                  cases hbit : bit j with
                  | true =>
                    rw [hbit] at eb
                    have hg : s4.get ((j : Int) + 1) = .tuple #[.agg #[.int .i64 0, .int .i64 0, .int .u64 0, .int .u64 0, .int .u64 0], .bool false] := gn4.get_no j hjm hbit
                    clear hbit
                    go_wp2_with fail
                    refine (v_get B4.r (by omega) ((j : Int) + 1) ⟨by omega, by omega⟩ _ hg).mono ?_
                    rintro e w5 ⟨rfl, S5, h5, k5⟩
                    have B5 := (B4.step h5 k5).quiet (Keep.alloc (Keep.refl _ _) (.cells #[.int .i64 0, .int .i64 0, .int .u64 0, .int .u64 0, .int .u64 0] 33))
                    clear hg B4 h5 k5 c4
                    go_wp2
                    go_roundw
                    case rel => exact ⟨j + 1, S5, _, by omega, by go_num, gn4.tick, B5.more (by omega)⟩
                    case measure => simp [intOf]; omega
                  | false =>
                    rw [hbit] at eb
                    have hg : s4.get ((j : Int) + 1) = .tuple #[.agg #[.int .i64 j, .int .i64 (10 * j), .int .u64 j, .int .u64 2305843009213693952, .int .u64 j], .bool true] := gn4.get_yes j hjm (by omega) hbit
                    clear hbit
                    go_wp2_with fail
                    refine (v_get B4.r (by omega) ((j : Int) + 1) ⟨by omega, by omega⟩ _ hg).mono ?_
                    rintro e w5 ⟨rfl, S5, h5, k5⟩
                    have B5 := (B4.step h5 k5).quiet (Keep.alloc (Keep.refl _ _) (.cells #[.int .i64 j, .int .i64 (10 * j), .int .u64 j, .int .u64 2305843009213693952, .int .u64 j] 33))
                    clear hg B4 h5 k5 c4
                    go_wp2
                    go_roundw
                    case rel => exact ⟨j + 1, S5, _, by omega, by go_num, gn4.tick, B5.more (by omega)⟩
                    case measure => simp [intOf]; omega
                · obtain rfl : j = m := by omega
                  have ul := used_len B4.r.ok
                  have cu : s4.used = u := gn4.ct
                  have lu : (s4.links.length : Int) = u := by rw [← ul, cu]
                  go_wp2_with fail
                  refine (v_used B4.r (by omega) u cu).mono ?_
                  rintro e w5 ⟨rfl, S5, h5, k5⟩
                  clear B4 k5 ul cu
                  go_wp2_with fail
                  refine (v_links h5 (by omega) s4.links rfl).mono ?_
                  rintro e w6 ⟨lv, S6, rfl, o6, _, h6, k6⟩
                  obtain ⟨A, c6, hl, _, _⟩ : ∃ A c6, lv = .slice A s4.links.length c6 ∧ True ∧ True := by
                    obtain ⟨h1, h2⟩ := o6
                    rcases h2 with ⟨h3, h4⟩ | ⟨g, c, cur, hv, _⟩
                    · exact ⟨none, 0, by rw [h4]; exact h3, trivial, trivial⟩
                    · exact ⟨_, _, hv, trivial, trivial⟩
                  subst hl
                  clear o6 h5 k6
                  go_wp2_with fail
                  refine (awake6_any _).mono ?_
                  rintro r w7 ⟨rfl, b7⟩
                  go_wp2
                  go_ret
                  exact ⟨rfl, h6.b.trans (b7.mono h6.b.size)⟩
theorem own : ownKnob Try.prog.godebug = none := by kernel_rfl
theorem laidOut : laidOutB Try.prog = true := by kernel_rfl
set_option maxRecDepth 100000 in
theorem lifted (os : Os) (started : os.Started) (H : Type) (enc : TypeId × Value → H) :
    ReturnsInHanded {} Try.checked os 3 .any (Rows.recRowsSpec.pre6 enc Try.prog Try.f3 Rows.recRowsRow.domain false) (Rows.recRowsSpec.post enc Try.prog Try.f3 false true false false) := by
  refine returnsInHanded_of_change (C := Try.checked) own started (by kernel_rfl) Try.func3
    (ChangeSpec.witness6 (enc := enc) (C := Try.checked) false ⟨#[], #[.int .i64 0, .int .u64 0], []⟩ 8 (by kernel_rfl) (by kernel_rfl) (by kernel_rfl) (by kernel_rfl)) ?_
  intro W base args ds gs before hval0 hW hcnd _
  have hval : ∀ (j : Nat) t v, Try.f3.params[j]? = some t → args[j]? = some v → Value.okWide Try.prog W .any base t v := hval0
  have hW' := hW
  obtain ⟨p, q, hA0, hV, rfl, hfz, hnd⟩ := hW
  have hA : DataW.TrodAll enc Try.prog W 0 (fun _ => true) true Try.f3.params.toList args.toList ds p := hA0
  rw [Try.params3] at hA hval
  obtain ⟨v0, vs0, d0, ds0, p0, q0, hargs, rfl, rfl, h0, r0⟩ := trodAll_cons hA
  obtain ⟨v1, vs1, d1, ds1, p1, q1, rfl, rfl, rfl, h1, r1⟩ := trodAll_cons r0
  obtain ⟨rfl, rfl, rfl⟩ := trodAll_nil r1
  obtain rfl : args = #[v0, v1] := by cases args; simp_all
  obtain ⟨rfl, rfl⟩ := trodVars_none hV
  obtain ⟨a0, rfl, rfl, rfl, w0⟩ := open_int Try.underlying3 (hval 0 3 v0 rfl rfl) h0
  obtain ⟨a1, rfl, rfl, rfl, w1⟩ := open_int Try.underlying22 (hval 1 22 v1 rfl rfl) h1
  clear hA0 hval0
  refine (walk a0 a1 W w0 w1).mono fun e W' ⟨he, bel⟩ => ?_
  subst he
  exact ⟨_, rfl, _, _, _, [], _, [], hW', trodAll_mk1 (shut_bool Try.underlying4 _), (trodAll_cons_mk (shut_int Try.underlying3 w0) (trodAll_cons_mk (shut_int Try.underlying22 w1) trodAll_mk0)), rfl, bel.frame _, fun h => by cases h⟩
theorem over : Rows.recRowsRow.holds Try.pinned (OpenSpec.ofChange Rows.recRowsSpec) :=
  OpenClaim.holds_of_wide 3 Try.f3 rfl rfl rfl rfl rfl rfl rfl ⟨rfl, rfl, rfl, rfl, rfl⟩ rfl rfl rfl rfl rfl (by kernel_rfl) Try.func3 (by kernel_rfl)
    (of_decide_eq_true (by kernel_rfl)) (by unfold Func.isWrapper; first | (rw [if_pos (by decide +kernel)]; kernel_rfl) | (rw [if_neg (by decide +kernel)]; exact ⟨rfl, rfl⟩))
    (fun os started H enc _ => lifted os started H enc)
theorem proved : Rows.RecRowsSaid := over
#print axioms proved
end Go.Proofs.Ythmohehmpleciaa.recRows
