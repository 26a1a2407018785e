/- Proved here: vinculumlaw5.TableOldest returns true and leaves its arguments as they were, for every slice of words and every two words; no further condition. -/
import Derived.Test.YtodmpmnjkfnogaaBits
import Derived.Test.YtodmpmnjkfnogaaRow
import Derived.Test.YtodmpmnjkfnogaaSameN
import Derived.Test.YtodmpmnjkfnogaaTabL
import Derived.Test.YtodmpmnjkfnogaaTb2
import Derived.ChangeOld
import Derived.Deep.CutRange
import Derived.Deep.LoopGhost
namespace Go.Proofs.Ytodmpmnjkfnogaa.tableOldest
open Go.ChangeShapes Go.WideShapes Go.ChangeAt Go.RowKit
set_option linter.unusedVariables false

def Rel (W : World) (n p : Nat) (now : Int) (k : Nat) (low v i : Value) (wr : World) : Prop :=
  ∃ S s, k ≤ n ∧ i = .int .i64 k ∧ s.most = 40 ∧ s.l.length = k ∧ low = .int .u64 (s.old now) ∧ TabV W wr p S s v s.live
def Rel2 (W : World) (p : Nat) (v : Value) (zs : List Int) (k : Nat) (i : Value) (wr : World) : Prop :=
  ∃ S s, k ≤ zs.length ∧ i = .int .i64 k ∧ s.live = zs.drop k ∧ TabV W wr p S s v zs
theorem mk (s : TS) (b : Int) (hm : s.most = 40) (hl : s.l.length ≤ 29) (hb : b ≤ 1099511627775) : s.make 1 b = ((s.l.length : Int) + 1, 0, { s with l := s.l ++ [⟨1, 1, b, 0⟩] }) := by
  unfold TS.make
  rw [if_neg (by omega), if_neg (by omega)]
theorem gone (s : TS) (x : Tx) (hx : x.st = 1) : ({ s with l := s.l ++ [x] } : TS).turn ((s.l.length : Int) + 1) 4 = (0, ({ s with l := s.l ++ [x] } : TS).put s.l.length { x with st := 4 }) := by
  have e : ((s.l.length : Int) + 1 - 1).toNat = s.l.length := by omega
  unfold TS.turn
  rw [if_neg (by simp [TS.out]; omega), e, TS.tx_push, if_pos rfl, hx]
  rfl
theorem over2 (s : TS) (a : Int) (r : List Int) (h : s.live = a :: r) : ∃ s1 s2, s.turn a 4 = (0, s1) ∧ s1.turn a 5 = (0, s2) ∧ s2.live = r ∧ 1 ≤ a ∧ a ≤ s.l.length := by
  have hm : a ∈ s.liveTo s.l.length := by have : a ∈ s.live := by rw [h]; simp
                                          exact this
  have hb := liveTo_mem s s.l.length a hm
  have hl := live_st s s.l.length a hm
  obtain ⟨i, ei⟩ : ∃ i : Nat, a = (i : Int) + 1 := ⟨(a - 1).toNat, by omega⟩
  have et : (a - 1).toNat = i := by omega
  have hi : i < s.l.length := by omega
  rw [et] at hl
  have hs : (s.tx i).st = 1 ∨ (s.tx i).st = 2 := by simpa [Tx.lives] using hl
  have c4 : canI (s.tx i).st 4 = true := by rcases hs with h | h <;> rw [h] <;> rfl
  have no : ¬ s.out a := by unfold TS.out; omega
  refine ⟨s.put i { s.tx i with st := 4 }, s.put i { s.tx i with st := 5 }, ?_, ?_, live_tail s a r h i hi ei _ rfl, hb.1, hb.2⟩
  · unfold TS.turn
    rw [if_neg no, et, if_pos c4]
  · have no2 : ¬ (s.put i { s.tx i with st := 4 }).out a := by unfold TS.out; rw [TS.put_len]; omega
    unfold TS.turn
    rw [if_neg no2, et, TS.tx_put s i i _ hi, if_pos rfl, if_pos (show canI 4 5 = true from rfl)]
    simp [TS.put]
set_option maxRecDepth 100000 in
set_option maxHeartbeats 8000000 in
theorem walk (a0 : Option Addr) (len0 cap0 : Nat) (z0 : List Int) (a1 a2 : Int) (w : World) (w0 : IsRow .u64 w a0 len0 cap0 z0) (w1 : (Lit.int .u64 a1).wf = true) (w2 : (Lit.int .u64 a2).wf = true) :
    Calls Try.prog 4 #[.slice a0 len0 cap0, .int .u64 a1, .int .u64 a2] w fun e w' => e = .returned (.bool true) ∧ Below w.heap.size w w' := by
  obtain ⟨l1, l2, l3, lc, lw⟩ := id w0
  have hu := w0.u64
  subst l1
  obtain ⟨p0, p1⟩ := bounds_u64 w1
  obtain ⟨q0, q1⟩ := bounds_u64 w2
  obtain ⟨n, hn⟩ : ∃ n : Nat, (if (30 : Int) < (z0.length : Int) then (30 : Int) else (z0.length : Int)) = (n : Int) := ⟨(if (30 : Int) < (z0.length : Int) then (30 : Int) else (z0.length : Int)).toNat, by split <;> omega⟩
  have n30 : n ≤ 30 := by split at hn <;> omega
  have nz : n ≤ z0.length := by split at hn <;> omega
  go_enter Try.func4, Try.ntmps4
  go_wp2_with fail
  refine (c_new 40 _ (by omega) (by omega)).mono ?_
  rintro e w1 ⟨p, S1', rfl, h1⟩
  go_wp2
  go_loopw [10, 11, 12] (fun low v i wr => ∃ k : Nat, Rel w n p a2 k low v i wr) (fun _ _ i _ => n - (intOf i).toNat)
  case atStart => exact ⟨0, S1', TS.new 40, Nat.zero_le _, rfl, rfl, rfl, rfl, h1, World.ownsRow_nil _ _ _ _, by simp [Value.ownBlock]⟩
  case round =>
    obtain ⟨k, S, s, kl, rfl, sm, sl, rfl, h⟩ := hrel
    clear h1
    by_cases hlt : k < n
    · obtain ⟨b0, off, rfl, hb, hc⟩ := lc (by omega)
      have hc := (h.t.b.cell (p := ⟨b0, off + k, none⟩) hb).trans (hc k (by omega))
      have hy := hu k
      obtain ⟨y, ey⟩ : ∃ y, z0.getD k 0 = y := ⟨_, rfl⟩
      rw [ey] at hc hy
      have hm := u64_mask40 y hy.1 hy.2
      obtain ⟨b, eb⟩ : ∃ b, y % 1099511627776 = b := ⟨_, rfl⟩
      have b1 : 0 ≤ b := by omega
      have b2 : b ≤ 1099511627775 := by omega
      rw [eb] at hm
      clear ey eb lc lw hu
      have mk' := mk s b sm (by omega) b2
      have lp := live_push s ⟨1, 1, b, 0⟩
      have op := old_push s ⟨1, 1, b, 0⟩ a2
      rw [if_pos (show Tx.lives ⟨1, 1, b, 0⟩ = true from rfl)] at lp op
      have gn := gone s ⟨1, 1, b, 0⟩ rfl
      have lg := live_gone s ⟨1, 1, b, 0⟩ ⟨1, 4, b, 0⟩ rfl
      have og := old_gone s ⟨1, 1, b, 0⟩ ⟨1, 4, b, 0⟩ a2 rfl
      rw [sl] at mk' lp gn lg og
      obtain ⟨s1, es1⟩ : ∃ s1, ({ s with l := s.l ++ [⟨1, 1, b, 0⟩] } : TS) = s1 := ⟨_, rfl⟩
      rw [es1] at mk' lp op gn lg og
      obtain ⟨s2, es2⟩ : ∃ s2, s1.put k ⟨1, 4, b, 0⟩ = s2 := ⟨_, rfl⟩
      have gn : s1.turn ((k : Int) + 1) 4 = (0, s2) := by rw [← es2]; exact gn
      rw [es2] at lg og
      have m1 : s1.most = 40 := by rw [← es1]; exact sm
      have n1 : s1.l.length = k + 1 := by rw [← es1]; simp [sl]
      have m2 : s2.most = 40 := by rw [← es2]; exact m1
      have n2 : s2.l.length = k + 1 := by rw [← es2, TS.put_len]; exact n1
      have LP := Lib.hid lp
      have OP := Lib.hid op
      have LG := Lib.hid lg
      have OG := Lib.hid og
      have M1 := Lib.hid m1
      have M2 := Lib.hid m2
      have N1 := Lib.hid n1
      have N2 := Lib.hid n2
      obtain ⟨L, eL⟩ : ∃ L, s.old a2 = L := ⟨_, rfl⟩
      rw [eL] at OP ⊢
      have EL := Lib.hid eL
      clear lp op lg og m1 m2 n1 n2 es1 es2 eL
      have wk : IntKind.i64.wrap ((k : Int) + 1) = (k : Int) + 1 := IntWalk.i64_in _ (by omega)
      cases hov : (bits .and .u64 (a1 / 2 ^ k) 1 == 1) with
      | true =>
        go_wp2_with fail
        refine (c_make h.t 1 b b1 _ 0 s1 mk').mono ?_
        rintro e w3 ⟨rfl, S3, h3, k3⟩
        have h := h.step h3 k3
        clear h3 k3
        go_wp2_with fail
        refine (c_turn h.t _ 4 (by omega) 0 s2 gn).mono ?_
        rintro e w4 ⟨rfl, S4, h4, k4⟩
        have h := h.step h4 k4
        clear h4 k4
        go_wp2
        go_roundw
        case rel => exact ⟨k + 1, S4, s2, by omega, by go_num, M2.out, N2.out, by rw [OG.out, EL.out], by rw [LG.out]; exact h⟩
        case measure => simp [intOf]; omega
      | false =>
        have om := Int.lt_or_le b L
        obtain ⟨L2, eL2⟩ : ∃ L2, min L b = L2 := ⟨_, rfl⟩
        have L2e : (if b < L then b else L) = L2 := by rw [← eL2]; split <;> omega
        have EL2 := Lib.hid eL2
        clear eL2 om
        go_wp2_with fail
        refine (c_make h.t 1 b b1 _ 0 s1 mk').mono ?_
        rintro e w3 ⟨rfl, S3, h3, k3⟩
        have h := h.step h3 k3
        clear h3 k3
        go_wp2_with (with_reducible refine wp_stop 67 rfl ?_)
        intro _
        refine wp_pushN rfl (.tmp 64) (.tmp 66) rfl w.heap.size h.t.b.size u11 s.live rfl h.ow ((k : Int) + 1) rfl (by have := live_len s; omega) ?_
        intro g c w4 o4 k4 hg
        have h := h.push o4 k4 hg
        clear o4 k4 hg
        go_wp2
        go_roundw
        case rel => exact ⟨k + 1, S3, s1, by omega, by go_num, M1.out, N1.out, by rw [OP.out, EL2.out], by rw [LP.out]; exact h⟩
        case measure => simp [intOf]; omega
    · obtain rfl : k = n := by omega
      clear lc lw hu hn
      have ll := live_len s
      obtain ⟨A, c, rfl, hA0, hA1⟩ := OwnN.out h.ow
      go_wp2_with fail
      refine (c_old h.t a2 q0 q1 _ rfl).mono ?_
      rintro e w3 ⟨rfl, S3, h3, k3⟩
      have h := h.step h3 k3
      clear h3 k3
      go_wp2_with fail
      refine (c_live h.t _ rfl).mono ?_
      rintro e w4 ⟨v4, S4, rfl, o4, _, h4, k4⟩
      have h := h.step h4 k4
      clear h4 k4
      go_wp2_with fail
      refine (sameN_own o4 h.ow (by omega)).mono ?_
      rintro e w5 ⟨rfl, d, rfl⟩
      have h := h.quiet (drewN_keep _ _ d)
      clear o4
      go_wp2
      clear hlt ll
      obtain ⟨zs, ez⟩ : ∃ zs, s.live = zs := ⟨_, rfl⟩
      rw [ez] at hA0 h ⊢
      have zl : zs.length ≤ 65535 := by rw [← ez]; exact Nat.le_trans (live_len s) h.t.ok.n1
      go_loopw [16] (fun i wr => ∃ k : Nat, Rel2 w p (.slice A zs.length c) zs k i wr) (fun i _ => zs.length - (intOf i).toNat)
      case atStart => exact ⟨0, S4, s, Nat.zero_le _, rfl, ez, h⟩
      case round =>
        obtain ⟨j, S, s', jl, rfl, hd, h'⟩ := hrel
        clear h ez
        by_cases hlt : j < zs.length
        · cases A with
          | none => exact absurd (hA0 rfl) (by intro e; subst e; simp at hlt)
          | some ad =>
            obtain ⟨ga, rfl⟩ := hA1 _ rfl
            have cj := OwnN.cell h'.ow j hlt
            have hd' : s'.live = zs.getD j 0 :: zs.drop (j + 1) := by
              rw [hd, List.drop_eq_getElem_cons hlt]
              simp [List.getD_eq_getElem?_getD, hlt]
            obtain ⟨a, ea⟩ : ∃ a, zs.getD j 0 = a := ⟨_, rfl⟩
            rw [ea] at cj hd'
            obtain ⟨s1, s2, t1, t2, hr, a0, a1'⟩ := over2 s' a _ hd'
            have sn := h'.t.ok.n1
            have HR := Lib.hid hr
            have EA := Lib.hid ea
            have ow := h'.ow
            clear ea hd hd' hr
            go_wp2_with fail
            refine (c_turn h'.t a 4 (by omega) 0 s1 t1).mono ?_
            rintro e w6 ⟨rfl, S6, h6, k6⟩
            have h' := h'.step h6 k6
            have cj := OwnN.cell h'.ow j hlt
            rw [EA.out] at cj
            clear h6 k6
            go_wp2_with fail
            refine (c_turn h'.t a 5 (by omega) 0 s2 t2).mono ?_
            rintro e w7 ⟨rfl, S7, h7, k7⟩
            have h' := h'.step h7 k7
            clear h7 k7
            go_wp2
            go_roundw
            case rel => exact ⟨j + 1, S7, s2, by omega, by go_num, HR.out, h'⟩
            case measure => simp [intOf]; omega
        · obtain rfl : j = zs.length := by omega
          rw [List.drop_length] at hd
          clear hA0 hA1
          go_wp2_with fail
          refine (c_old h'.t a2 q0 q1 _ (old_nil s' a2 hd)).mono ?_
          rintro e w6 ⟨rfl, S6, h6, k6⟩
          have h' := h'.step h6 k6
          clear h6 k6
          go_wp2_with fail
          refine (c_live h'.t _ hd).mono ?_
          rintro e w7 ⟨v7, S7, rfl, o7, _, h7, k7⟩
          obtain ⟨A7, c7, rfl, _, _⟩ := OwnN.out o7
          have h' := h'.step h7 k7
          clear h7 k7
          go_wp2_with fail
          refine (awake5_any _).mono ?_
          rintro e w8 ⟨rfl, b8⟩
          go_wp2
          go_ret
          exact ⟨rfl, h'.t.b.trans (b8.mono h'.t.b.size)⟩
theorem own : ownKnob Try.prog.godebug = none := by kernel_rfl
theorem laidOut : laidOutB Try.prog = true := by kernel_rfl
set_option maxRecDepth 100000 in
theorem lifted (os : Os) (started : os.Started) (H : Type) (enc : TypeId × Value → H) :
    ReturnsInHanded {} Try.checked os 4 .any (Rows.tableOldestSpec.pre6 enc Try.prog Try.f4 Rows.tableOldestRow.domain false) (Rows.tableOldestSpec.post enc Try.prog Try.f4 false true false false) := by
  refine returnsInHanded_of_change (C := Try.checked) own started (by kernel_rfl) Try.func4
    (ChangeSpec.witness6 (enc := enc) (C := Try.checked) false ⟨#[], #[.slice none 0 0, .int .u64 0, .int .u64 0], []⟩ 8 (by kernel_rfl) (by kernel_rfl) (by kernel_rfl) (by kernel_rfl)) ?_
  intro W base args ds gs before hval0 hW hcnd _
  have hval : ∀ (j : Nat) t v, Try.f4.params[j]? = some t → args[j]? = some v → Value.okWide Try.prog W .any base t v := hval0
  have hW' := hW
  obtain ⟨p, q, hA0, hV, rfl, hfz, hnd⟩ := hW
  have hA : DataW.TrodAll enc Try.prog W 0 (fun _ => true) true Try.f4.params.toList args.toList ds p := hA0
  rw [Try.params4] at hA hval
  obtain ⟨v0, vs0, d0, ds0, p0, q0, hargs, rfl, rfl, h0, r0⟩ := trodAll_cons hA
  obtain ⟨v1, vs1, d1, ds1, p1, q1, rfl, rfl, rfl, h1, r1⟩ := trodAll_cons r0
  obtain ⟨v2, vs2, d2, ds2, p2, q2, rfl, rfl, rfl, h2, r2⟩ := trodAll_cons r1
  obtain ⟨rfl, rfl, rfl⟩ := trodAll_nil r2
  obtain rfl : args = #[v0, v1, v2] := by cases args; simp_all
  obtain ⟨rfl, rfl⟩ := trodVars_none hV
  obtain ⟨a0, len0, cap0, rfl⟩ := okWide_slice Try.underlying37 (hval 0 37 v0 rfl rfl)
  have k0 := h0
  have lt0 : ∀ x ∈ p0, x.block < W.heap.size := by obtain ⟨m, hm⟩ := k0; exact DataW.trod_lt m _ _ _ hm
  obtain ⟨z0, w0⟩ : ∃ zs, IsRow .u64 W a0 len0 cap0 zs := is_row Try.underlying37 Try.underlying22 (by kernel_rfl) h0
  obtain ⟨a1, rfl, rfl, rfl, w1⟩ := open_int Try.underlying22 (hval 1 22 v1 rfl rfl) h1
  obtain ⟨a2, rfl, rfl, rfl, w2⟩ := open_int Try.underlying22 (hval 2 22 v2 rfl rfl) h2
  clear hA0 hval0
  refine (walk a0 len0 cap0 z0 a1 a2 W w0 w1 w2).mono fun e W' ⟨he, bel⟩ => ?_
  subst he
  exact ⟨_, rfl, _, _, _, [], _, [], hW', trodAll_mk1 (shut_bool Try.underlying4 _), (trodAll_cons_mk (Below.trod laidOut (by kernel_rfl) (of_decide_eq_true (by kernel_rfl)) k0 bel lt0) (trodAll_cons_mk (shut_int Try.underlying22 w1) (trodAll_cons_mk (shut_int Try.underlying22 w2) trodAll_mk0))), rfl, bel.frame _, fun h => by cases h⟩
theorem over : Rows.tableOldestRow.holds Try.pinned (OpenSpec.ofChange Rows.tableOldestSpec) :=
  OpenClaim.holds_of_wide 4 Try.f4 rfl rfl rfl rfl rfl rfl rfl ⟨rfl, rfl, rfl, rfl, rfl⟩ rfl rfl rfl rfl rfl (by kernel_rfl) Try.func4 (by kernel_rfl)
    (of_decide_eq_true (by kernel_rfl)) (by unfold Func.isWrapper; first | (rw [if_pos (by decide +kernel)]; kernel_rfl) | (rw [if_neg (by decide +kernel)]; exact ⟨rfl, rfl⟩))
    (fun os started H enc _ => lifted os started H enc)
theorem proved : Rows.TableOldestSaid := over
#print axioms proved
end Go.Proofs.Ytodmpmnjkfnogaa.tableOldest
