/- Proved here: vinculumlaw5.TableOnce returns true and leaves its argument as it was, for every slice of ints; no further condition. -/
import Derived.Test.YtodmpmnjkfnogaaBits
import Derived.Test.YtodmpmnjkfnogaaRow
import Derived.Test.YtodmpmnjkfnogaaSameN
import Derived.Test.YtodmpmnjkfnogaaTabL
import Derived.ChangeOld
namespace Go.Proofs.Ytodmpmnjkfnogaa.tableOnce
open Go.ChangeShapes Go.WideShapes Go.ChangeAt Go.RowKit
set_option linter.unusedVariables false

/-- The one transaction that there is, in its state. -/
def S1 (st : Int) : TS := ⟨1, [⟨1, st, 5, 0⟩]⟩
theorem mk : (TS.new 1).make 1 5 = (1, 0, S1 1) := rfl
theorem mk2 (st : Int) : (S1 st).make 1 6 = (0, 65, S1 st) := rfl
theorem tn (st t : Int) : (S1 st).turn 1 t = if canI st t = true then (0, S1 t) else (7, S1 st) := rfl
theorem gt (st : Int) : (S1 st).get 1 = .tuple #[txV ⟨1, st, 5, 0⟩, .bool true] := rfl
/-- How often it has ended, and been done, in that state. -/
def en (st : Int) : Int := if st ≤ 2 then 0 else 1
def dn (st : Int) : Int := if st = 5 then 1 else 0
def Rel (W : World) (zs : List Int) (p : Nat) (k : Nat) (ends done state i : Value) (wr : World) : Prop :=
  ∃ S st, k ≤ zs.length ∧ k ≤ 100 ∧ 1 ≤ st ∧ st ≤ 5 ∧ i = .int .i64 k ∧ ends = .int .i64 (en st) ∧ done = .int .i64 (dn st) ∧ state = .int .i64 st ∧ Tab W wr p S (S1 st)
theorem i64_mask7 (n : Int) : bits .and .i64 n 7 = n % 8 := i64_mask3 n
theorem live1 (st : Int) : (S1 st).live = if st = 1 ∨ st = 2 then [1] else [] := by
  by_cases h : st = 1 ∨ st = 2
  · rw [if_pos h]
    show (if Tx.lives ⟨1, st, 5, 0⟩ = true then [] ++ [((0 : Nat) : Int) + 1] else []) = [1]
    rw [if_pos (by simpa [Tx.lives] using h)]; rfl
  · rw [if_neg h]
    show (if Tx.lives ⟨1, st, 5, 0⟩ = true then [] ++ [((0 : Nat) : Int) + 1] else []) = []
    rw [if_neg (by simpa [Tx.lives] using h)]
set_option maxRecDepth 100000 in
set_option maxHeartbeats 8000000 in
theorem walk (a0 : Option Addr) (len0 cap0 : Nat) (z0 : List Int) (w : World) (w0 : IsRow .i64 w a0 len0 cap0 z0) :
    Calls Try.prog 7 #[.slice a0 len0 cap0] w fun e w' => e = .returned (.bool true) ∧ Below w.heap.size w w' := by
  obtain ⟨l1, l2, l3, lc, lw⟩ := id w0
  subst l1
  go_enter Try.func7, Try.ntmps7
  go_wp2_with fail
  refine (c_new 1 _ (by omega) (by omega)).mono ?_
  rintro e w1 ⟨p, S1', rfl, h1⟩
  go_wp2_with fail
  refine (c_make h1 1 5 (by omega) 1 0 _ mk).mono ?_
  rintro e w2 ⟨rfl, S2, h2, k2⟩
  clear h1
  go_wp2
  go_loopw [7, 8, 9, 10] (fun ends done state i wr => ∃ k : Nat, Rel w z0 p k ends done state i wr) (fun _ _ _ i _ => z0.length - (intOf i).toNat)
  case atStart => exact ⟨0, S2, 1, Nat.zero_le _, by omega, by omega, by omega, rfl, rfl, rfl, rfl, h2⟩
  case round =>
    obtain ⟨k, S, st, kl, k100, st0, st1, rfl, rfl, rfl, rfl, h⟩ := hrel
    clear h2
    by_cases hlt : k < z0.length ∧ k < 100
    · obtain ⟨hl, h100⟩ := hlt
      obtain ⟨b, off, rfl, hb, hc⟩ := lc (by omega)
      have hc := (h.b.cell (p := ⟨b, off + k, none⟩) hb).trans (hc k hl)
      obtain ⟨y, ey⟩ : ∃ y, z0.getD k 0 = y := ⟨_, rfl⟩
      rw [ey] at hc
      have hm := i64_mask7 y
      obtain ⟨m, em⟩ : ∃ m, y % 8 = m := ⟨_, rfl⟩
      rw [em] at hm
      obtain ⟨t, et⟩ : ∃ t, m - 1 = t := ⟨_, rfl⟩
      have wt : IntKind.i64.wrap (m - 1) = t := by rw [IntWalk.i64_in _ (by omega)]; exact et
      have t0 : -1 ≤ t := by omega
      have t1 : t ≤ 6 := by omega
      clear ey em et lc lw
      have tt := tn st t
      have cc := can_any st t
      cases hcan : canI st t with
      | false =>
        rw [hcan, if_neg (by simp)] at tt
        rw [hcan] at cc
        obtain ⟨E, eE⟩ : ∃ E, en st = E := ⟨_, rfl⟩
        obtain ⟨D, eD⟩ : ∃ D, dn st = D := ⟨_, rfl⟩
        rw [eE, eD]
        have EE := Lib.hid eE
        have DD := Lib.hid eD
        clear eE eD hcan
        go_wp2_with fail
        refine (c_turn h 1 t (by omega) 7 _ tt).mono ?_
        rintro e w3 ⟨rfl, S3, h3, k3⟩
        clear h
        go_wp2_with fail
        refine (cc _).mono ?_
        rintro e w4 ⟨rfl, rfl⟩
        go_wp2
        go_roundw
        case rel => exact ⟨k + 1, S3, st, by omega, by omega, st0, st1, by go_num, by rw [EE.out], by rw [DD.out], rfl, h3⟩
        case measure => simp [intOf]; omega
      | true =>
        rw [hcan, if_pos rfl] at tt
        rw [hcan] at cc
        have a : (st = 1 ∧ (t = 2 ∨ t = 4)) ∨ (st = 2 ∧ (t = 3 ∨ t = 4)) ∨ ((st = 3 ∨ st = 4) ∧ t = 5) := by
          have h := hcan
          unfold canI at h
          split at h
          · simp at h; omega
          · split at h
            · simp at h; omega
            · split at h
              · simp at h; omega
              · cases h
        clear hcan
        rcases a with ⟨rfl, rfl | rfl⟩ | ⟨rfl, rfl | rfl⟩ | ⟨rfl | rfl, rfl⟩
        all_goals
          go_wp2_with fail
          refine (c_turn h 1 _ (by omega) 0 _ tt).mono ?_
          rintro e w3 ⟨rfl, S3, h3, k3⟩
          clear h
          go_wp2_with fail
          refine (cc _).mono ?_
          rintro e w4 ⟨rfl, rfl⟩
          simp only [en, dn]
          go_wp2
          go_roundw
          case rel => exact ⟨k + 1, S3, _, by omega, by omega, by omega, by omega, by go_num, by first | rfl | go_num, by first | rfl | go_num, rfl, h3⟩
          case measure => simp [intOf]; omega
    · have hz : k = z0.length ∨ (k = 100 ∧ 100 < z0.length) := by omega
      clear lc lw hlt
      have e0 : 0 ≤ en st ∧ en st ≤ 1 ∧ 0 ≤ dn st ∧ dn st ≤ en st := by unfold en dn; split <;> split <;> omega
      have eL : (st = 1 ∨ st = 2) ↔ en st = 0 := by unfold en; split <;> omega
      have lv := live1 st
      obtain ⟨E, eE⟩ : ∃ E, en st = E := ⟨_, rfl⟩
      obtain ⟨D, eD⟩ : ∃ D, dn st = D := ⟨_, rfl⟩
      rw [eE] at e0 eL ⊢
      rw [eD] at e0 ⊢
      clear eE eD
      obtain ⟨x0, x1, x2, x3⟩ := e0
      rcases hz with hz | ⟨hz, hz2⟩ <;> by_cases hL : st = 1 ∨ st = 2
      all_goals
        first
          | (have := eL.1 hL; subst this; rw [if_pos hL] at lv)
          | (have : E = 1 := by have : ¬ E = 0 := (fun h => hL (eL.2 h)); omega
             subst this; rw [if_neg hL] at lv)
        subst hz
        clear eL hL
        go_wp2_with fail
        refine (c_get h 1 (by omega) _ (gt st)).mono ?_
        rintro e w3 ⟨rfl, S3, h3, k3⟩
        unfold txV
        have h4 := h3.quiet (Keep.alloc (Keep.refl (fun _ => False) _) (txO ⟨1, st, 5, 0⟩))
        have nx : ¬ S3 w3.heap.size := fun hx => absurd (h3.h.lt _ hx) (Nat.lt_irrefl _)
        have cx : (w3.alloc (txO ⟨1, st, 5, 0⟩)).cell? ⟨w3.heap.size, 1, none⟩ = some (.int .i64 st) := by simp
        clear h h3
        go_wp2_with fail
        refine (c_make h4 1 6 (by omega) 0 65 _ (mk2 st)).mono ?_
        rintro e w5 ⟨rfl, S5, h5, k5⟩
        have cx := k5.1.cell cx nx
        go_wp2_with fail
        refine (c_live h5 _ lv).mono ?_
        rintro e w6 ⟨v, S6, rfl, ov, _, h6, _⟩
        obtain ⟨A, c, rfl, _⟩ := OwnN.out ov
        go_wp2_with fail
        refine (awake5_any _).mono ?_
        rintro e w7 ⟨rfl, b7⟩
        go_wp2
        go_ret
        exact ⟨rfl, h6.b.trans (b7.mono h6.b.size)⟩
theorem own : ownKnob Try.prog.godebug = none := by kernel_rfl
theorem laidOut : laidOutB Try.prog = true := by kernel_rfl
set_option maxRecDepth 100000 in
theorem lifted (os : Os) (started : os.Started) (H : Type) (enc : TypeId × Value → H) :
    ReturnsInHanded {} Try.checked os 7 .any (Rows.tableOnceSpec.pre6 enc Try.prog Try.f7 Rows.tableOnceRow.domain false) (Rows.tableOnceSpec.post enc Try.prog Try.f7 false true false false) := by
  refine returnsInHanded_of_change (C := Try.checked) own started (by kernel_rfl) Try.func7
    (ChangeSpec.witness6 (enc := enc) (C := Try.checked) false ⟨#[], #[.slice none 0 0], []⟩ 8 (by kernel_rfl) (by kernel_rfl) (by kernel_rfl) (by kernel_rfl)) ?_
  intro W base args ds gs before hval0 hW hcnd _
  have hval : ∀ (j : Nat) t v, Try.f7.params[j]? = some t → args[j]? = some v → Value.okWide Try.prog W .any base t v := hval0
  have hW' := hW
  obtain ⟨p, q, hA0, hV, rfl, hfz, hnd⟩ := hW
  have hA : DataW.TrodAll enc Try.prog W 0 (fun _ => true) true Try.f7.params.toList args.toList ds p := hA0
  rw [Try.params7] at hA hval
  obtain ⟨v0, vs0, d0, ds0, p0, q0, hargs, rfl, rfl, h0, r0⟩ := trodAll_cons hA
  obtain ⟨rfl, rfl, rfl⟩ := trodAll_nil r0
  obtain rfl : args = #[v0] := by cases args; simp_all
  obtain ⟨rfl, rfl⟩ := trodVars_none hV
  obtain ⟨a0, len0, cap0, rfl⟩ := okWide_slice Try.underlying38 (hval 0 38 v0 rfl rfl)
  have k0 := h0
  have lt0 : ∀ x ∈ p0, x.block < W.heap.size := by obtain ⟨m, hm⟩ := k0; exact DataW.trod_lt m _ _ _ hm
  obtain ⟨z0, w0⟩ : ∃ zs, IsRow .i64 W a0 len0 cap0 zs := is_row Try.underlying38 Try.underlying3 (by kernel_rfl) h0
  clear hA0 hval0
  refine (walk a0 len0 cap0 z0 W w0).mono fun e W' ⟨he, bel⟩ => ?_
  subst he
  exact ⟨_, rfl, _, _, _, [], _, [], hW', trodAll_mk1 (shut_bool Try.underlying4 _), (trodAll_cons_mk (Below.trod laidOut (by kernel_rfl) (of_decide_eq_true (by kernel_rfl)) k0 bel lt0) trodAll_mk0), rfl, bel.frame _, fun h => by cases h⟩
theorem over : Rows.tableOnceRow.holds Try.pinned (OpenSpec.ofChange Rows.tableOnceSpec) :=
  OpenClaim.holds_of_wide 7 Try.f7 rfl rfl rfl rfl rfl rfl rfl ⟨rfl, rfl, rfl, rfl, rfl⟩ rfl rfl rfl rfl rfl (by kernel_rfl) Try.func7 (by kernel_rfl)
    (of_decide_eq_true (by kernel_rfl)) (by unfold Func.isWrapper; first | (rw [if_pos (by decide +kernel)]; kernel_rfl) | (rw [if_neg (by decide +kernel)]; exact ⟨rfl, rfl⟩))
    (fun os started H enc _ => lifted os started H enc)
theorem proved : Rows.TableOnceSaid := over
#print axioms proved
end Go.Proofs.Ytodmpmnjkfnogaa.tableOnce
