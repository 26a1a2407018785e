/- Proved here: vinculumlaw15.JudgeFirst returns true and leaves its arguments as they were, for any slice of ints and any word; no further condition. -/
import Derived.Test.YtndpifkpgoeogaaJfC
namespace Go.Proofs.Ytndpifkpgoeogaa.judgeFirst
open Go.ChangeShapes Go.WideShapes Go.ChangeAt Go.RowKit
set_option linter.unusedVariables false
theorem row_on {w W : World} {A : Option Addr} {n c : Nat} {z : List Int} (h : IsRow .i64 w A n c z) (b : Below w.heap.size w W) : IsRow .i64 W A n c z :=
  ⟨h.len, h.cap, h.max, fun h0 => by
    obtain ⟨bk, off, e, hb, hc⟩ := h.cell h0
    exact ⟨bk, off, e, Nat.lt_of_lt_of_le hb b.size, fun j hj => (b.cell (p := ⟨bk, off + j, none⟩) hb).trans (hc j hj)⟩, h.wf⟩
set_option maxRecDepth 1000000 in
set_option maxHeartbeats 16000000 in
theorem walk (a1 : Option Addr) (len1 cap1 : Nat) (z : List Int) (c0 : Int) (w : World) (w0 : IsRow .i64 w a1 len1 cap1 z) (w1 : (Lit.int .u64 c0).wf = true) :
    Calls Try.prog 3 #[.slice a1 len1 cap1, .int .u64 c0] w fun e w' => e = .returned (.bool true) ∧ Below w.heap.size w w' := by
  obtain ⟨C, rfl⟩ : ∃ n : Nat, c0 = (n : Int) := ⟨c0.toNat, by have := bounds_u64 w1; omega⟩
  have hC : C ≤ 18446744073709551615 := by have := bounds_u64 w1; omega
  clear w1
  have kA := (Keep.refl (fun _ => False) w).alloc (.cells #[.int .u64 (C : Int)] 23)
  have bA := kA.below (Nat.le_refl _) (by simp)
  have cC : (w.alloc (.cells #[.int .u64 (C : Int)] 23)).cell? ⟨w.heap.size, 0, none⟩ = some (.int .u64 C) := by simp
  have lC : w.heap.size < (w.alloc (.cells #[.int .u64 (C : Int)] 23)).heap.size := by simp
  obtain ⟨W, eW⟩ : ∃ W, w.alloc (.cells #[.int .u64 (C : Int)] 23) = W := ⟨_, rfl⟩
  obtain ⟨cb, eb⟩ : ∃ cb, w.heap.size = cb := ⟨_, rfl⟩
  rw [eW] at kA bA cC lC
  rw [eb] at cC lC
  have BA := Lib.hid bA
  have EB := Lib.hid eb
  have wr := row_on w0 bA
  clear w0 kA bA
  go_enter Try.func3, Try.ntmps3
  go_wp2_with fail
  refine (rd_made (Below.refl _ W)).mono ?_
  rintro e y1 ⟨t, S1, rfl, h1, _, _⟩
  have kO := (Keep.refl (fun _ => False) y1).alloc (.cells #[.slice none 0 0] 22)
  have A : O15 W (y1.alloc (.cells #[.slice none 0 0] 22)) t S1 (setF []) y1.heap.size (.slice none 0 0) [] :=
    ⟨h1.quiet kO, by simp, by simp, World.ownsRow_nil _ _ _ _, fun x => by have := h1.lt _ x; omega, by simp [Value.ownBlock], h1.b.size⟩
  obtain ⟨ob, eo⟩ : ∃ ob, y1.heap.size = ob := ⟨_, rfl⟩
  rw [eo] at A
  obtain ⟨y2, e2⟩ : ∃ y2, y1.alloc (.cells #[.slice none 0 0] 22) = y2 := ⟨_, rfl⟩
  rw [e2] at A
  clear h1 kO
  go_upto_block 0 with fail
  clear eo e2 eW eb
  rename_i K5 hK5
  go_cut [] from 23 to 57 (fun wx => RO W t ob wx)
  case first =>
    rename_i J6 K6 hJ6 hK6
    exact ordLoop hJ6 hK6 wr A
  case rest =>
    obtain ⟨S, O, v, B, hO⟩ := hcut
    refine hK5 _ _ ?_
    clear hK5 A
    have Z : Z3 W t cb ob wc.heap.size C v O 0 (wc.alloc (.cells #[.int .i64 ((0 : Nat) : Int)] 3)) := by
      have k := (Keep.refl (fun _ => False) wc).alloc (.cells #[.int .i64 ((0 : Nat) : Int)] 3)
      have cw := (B.r.b.cell (p := ⟨cb, 0, none⟩) lC).trans cC
      have lw := Nat.lt_of_lt_of_le lC B.r.b.size
      have D := B.quiet k
      refine ⟨⟨S, D, ⟨k.cell cw id, D.c, by simp, judgeFirst.OwnN.lower0 D.o, fun x => by have := B.r.g _ x; omega, D.dS, fun x => by have := B.r.lt _ x; omega, fun g hg => (D.dv g hg).1⟩⟩, by simp, B.r.b.size, fun e => by have := B.lt; omega, fun e => by have := (OwnN.lt B.o e).2; omega, fun e => by omega⟩
    obtain ⟨ib, ei⟩ : ∃ ib, wc.heap.size = ib := ⟨_, rfl⟩
    rw [ei] at Z
    clear B
    go_upto_block 2 with fail
    obtain ⟨wD, eD⟩ : ∃ wD, wc.alloc (.cells #[.int .i64 ((0 : Nat) : Int)] 3) = wD := ⟨_, rfl⟩
    rw [eD] at Z
    have eD2 : wc.alloc (.cells #[.int .i64 0] 3) = wD := eD
    rw [eD2]
    clear eD eD2 ei
    rename_i K7 hK7
    go_cut [] from 58 to 120 (fun wx => Below W.heap.size W wx)
    case first =>
      rename_i JX KX hJX hKX
      exact loop2 hJX hKX Z hO hC
    case rest =>
      have hb : Below W.heap.size W wc := hcut
      refine hK7 _ _ ?_
      clear hK7 Z
      go_wp2_with fail
      refine (awake15_any _).mono ?_
      rintro e y9 ⟨rfl, b9⟩
      go_wp2
      go_ret
      have b0 := BA.out
      have b1 : Below W.heap.size W y9 := hb.trans (b9.mono hb.size)
      exact ⟨rfl, b0.trans (b1.mono b0.size)⟩
theorem own : ownKnob Try.prog.godebug = none := by kernel_rfl
theorem laidOut : laidOutB Try.prog = true := by kernel_rfl
set_option maxRecDepth 100000 in
theorem lifted (os : Os) (started : os.Started) (H : Type) (enc : TypeId × Value → H) :
    ReturnsInHanded {} Try.checked os 3 .any (Rows.judgeFirstSpec.pre6 enc Try.prog Try.f3 Rows.judgeFirstRow.domain false) (Rows.judgeFirstSpec.post enc Try.prog Try.f3 false true false false) := by
  refine returnsInHanded_of_change (C := Try.checked) own started (by kernel_rfl) Try.func3
    (ChangeSpec.witness6 (enc := enc) (C := Try.checked) false ⟨#[], #[.slice none 0 0, .int .u64 0], []⟩ 8 (by kernel_rfl) (by kernel_rfl) (by kernel_rfl) (by kernel_rfl)) ?_
  intro W base args ds gs before hval0 hW hcnd _
  have hval : ∀ (j : Nat) t v, Try.f3.params[j]? = some t → args[j]? = some v → Value.okWide Try.prog W .any base t v := hval0
  have hW' := hW
  obtain ⟨p, q, hA0, hV, rfl, hfz, hnd⟩ := hW
  have hA : DataW.TrodAll enc Try.prog W 0 (fun _ => true) true Try.f3.params.toList args.toList ds p := hA0
  rw [Try.params3] at hA hval
  obtain ⟨v0, vs0, d0, ds0, p0, q0, hargs, rfl, rfl, h0, r0⟩ := trodAll_cons hA
  obtain ⟨v1, vs1, d1, ds1, p1, q1, rfl, rfl, rfl, h1, r1⟩ := trodAll_cons r0
  obtain ⟨rfl, rfl, rfl⟩ := trodAll_nil r1
  obtain rfl : args = #[v0, v1] := by cases args; simp_all
  obtain ⟨rfl, rfl⟩ := trodVars_none hV
  obtain ⟨a0, len0, cap0, rfl⟩ := okWide_slice Try.underlying22 (hval 0 22 v0 rfl rfl)
  have k0 := h0
  have lt0 : ∀ x ∈ p0, x.block < W.heap.size := by obtain ⟨m, hm⟩ := k0; exact DataW.trod_lt m _ _ _ hm
  obtain ⟨z0, w0⟩ : ∃ zs, IsRow .i64 W a0 len0 cap0 zs := is_row Try.underlying22 Try.underlying3 (by kernel_rfl) h0
  obtain ⟨a1, rfl, rfl, rfl, w1⟩ := open_int Try.underlying23 (hval 1 23 v1 rfl rfl) h1
  clear hA0 hval0
  refine (walk a0 len0 cap0 z0 a1 W w0 w1).mono fun e W' ⟨he, bel⟩ => ?_
  subst he
  exact ⟨_, rfl, _, _, _, [], _, [], hW', trodAll_mk1 (shut_bool Try.underlying4 _), (trodAll_cons_mk (Below.trod laidOut (by kernel_rfl) (of_decide_eq_true (by kernel_rfl)) k0 bel lt0) (trodAll_cons_mk (shut_int Try.underlying23 w1) trodAll_mk0)), rfl, bel.frame _, fun h => by cases h⟩
theorem over : Rows.judgeFirstRow.holds Try.pinned (OpenSpec.ofChange Rows.judgeFirstSpec) :=
  OpenClaim.holds_of_wide 3 Try.f3 rfl rfl rfl rfl rfl rfl rfl ⟨rfl, rfl, rfl, rfl, rfl⟩ rfl rfl rfl rfl rfl (by kernel_rfl) Try.func3 (by kernel_rfl)
    (of_decide_eq_true (by kernel_rfl)) (by unfold Func.isWrapper; first | (rw [if_pos (by decide +kernel)]; kernel_rfl) | (rw [if_neg (by decide +kernel)]; exact ⟨rfl, rfl⟩))
    (fun os started H enc _ => lifted os started H enc)
theorem proved : Rows.JudgeFirstSaid := over
end Go.Proofs.Ytndpifkpgoeogaa.judgeFirst
