/- Proved here: vinculumlaw15.JudgeWeaker returns true and leaves its arguments as they were, for any reads, any slice of words and either bool; no further condition. -/
import Derived.Test.YtndpifkpgoeogaaJwA
namespace Go.Proofs.Ytndpifkpgoeogaa.judgeWeaker
open Go.ChangeShapes Go.WideShapes Go.ChangeAt Go.RowKit
set_option linter.unusedVariables false
theorem row_lies {w : World} {A : Option Addr} {n c : Nat} {z : List Int} (h : IsRow .u64 w A n c z) : Lies w (.slice A z.length c) z := by
  have hl := h.len
  refine ⟨A, c, rfl, by rw [hl]; exact h.cap, fun h0 => ?_⟩
  obtain ⟨b, off, e, hb, hc⟩ := h.cell (by omega)
  exact ⟨b, off, e, hb, fun j hj => hc j (by omega)⟩
theorem ops_on {w W : World} {A : Option Addr} {n c : Nat} {f : Nat → OpI} (h : IsOps w A n c f) (b : Below w.heap.size w W) : IsOps W A n c f :=
  ⟨h.cap, h.max, fun h0 => by
    obtain ⟨bk, off, e, hb, hc⟩ := h.cell h0
    exact ⟨bk, off, e, Nat.lt_of_lt_of_le hb b.size, fun j hj => by
      obtain ⟨c0, c1, c2, c3, c4⟩ := hc j hj
      exact ⟨(b.cell (p := ⟨bk, off + j * 5, none⟩) hb).trans c0, (b.cell (p := ⟨bk, off + j * 5 + 1, none⟩) hb).trans c1, (b.cell (p := ⟨bk, off + j * 5 + 2, none⟩) hb).trans c2, (b.cell (p := ⟨bk, off + j * 5 + 3, none⟩) hb).trans c3, (b.cell (p := ⟨bk, off + j * 5 + 4, none⟩) hb).trans c4⟩⟩, h.ok, fun j hj => Lies.below b (h.lies j hj)⟩
theorem own_r0 {w : World} {B : Nat} {v : Value} {zs : List OpI} (o : OwnR B w v zs) : OwnR 0 w v zs := by
  obtain ⟨h1, h2⟩ := o
  refine ⟨h1, ?_⟩
  rcases h2 with h2 | ⟨g, c, cur, hv, hg, r⟩
  · exact .inl h2
  · exact .inr ⟨g, c, cur, hv, Nat.zero_le _, r⟩
theorem all_lv1 (s : RdS) (N : Int → Int) (SP : Int → Int → List Int) : allJ 1 s N SP = (true, -1) := by
  unfold allJ
  rw [if_neg (by omega)]
  rfl
set_option maxRecDepth 1000000 in
set_option maxHeartbeats 16000000 in
theorem walk (a1 : Option Addr) (len1 cap1 : Nat) (f : Nat → OpI) (a2 : Option Addr) (n2 c2 : Nat) (z2 : List Int) (same : Bool) (w : World) (w0 : IsOps w a1 len1 cap1 f) (w1 : IsRow .u64 w a2 n2 c2 z2) :
    Calls Try.prog 8 #[.slice a1 len1 cap1, .slice a2 n2 c2, .bool same] w fun e w' => e = .returned (.bool true) ∧ Below w.heap.size w w' := by
  have un : ∀ j, j < z2.length → U64 (z2.getD j 0) := fun j hj => by
    have := w1.wf (z2.getD j 0) (by rw [List.getD_eq_getElem?_getD, List.getElem?_eq_getElem hj]; exact List.getElem_mem hj)
    exact bounds_u64 this
  have hl : z2.length ≤ 9223372036854775807 := by have := w1.len; have := w1.cap; have := w1.max; omega
  have L := row_lies w1
  obtain rfl : n2 = z2.length := w1.len.symm
  clear w1
  have kA := ((Keep.refl (fun _ => False) w).alloc (.cells #[.slice a2 z2.length c2] 33)).alloc (.cells #[.bool same] 4)
  have bA := kA.below (Nat.le_refl _) (by simp)
  have cN : ((w.alloc (.cells #[.slice a2 z2.length c2] 33)).alloc (.cells #[.bool same] 4)).cell? ⟨w.heap.size, 0, none⟩ = some (.slice a2 z2.length c2) := by simp
  have cS : ((w.alloc (.cells #[.slice a2 z2.length c2] 33)).alloc (.cells #[.bool same] 4)).cell? ⟨w.heap.size + 1, 0, none⟩ = some (.bool same) := by simp
  have lS : w.heap.size + 1 < ((w.alloc (.cells #[.slice a2 z2.length c2] 33)).alloc (.cells #[.bool same] 4)).heap.size := by simp
  obtain ⟨W, eW⟩ : ∃ W, (w.alloc (.cells #[.slice a2 z2.length c2] 33)).alloc (.cells #[.bool same] 4) = W := ⟨_, rfl⟩
  obtain ⟨nb, eb⟩ : ∃ nb, w.heap.size = nb := ⟨_, rfl⟩
  rw [eW] at kA bA cN cS lS
  rw [eb] at cN cS lS
  have BA := Lib.hid bA
  have LW := Lies.below bA L
  have OW := ops_on w0 bA
  clear w0 kA L
  go_enter Try.func8, Try.ntmps8
  go_wp2_with fail
  refine (made15.made_any (W := W) OW (Below.refl _ _)).mono ?_
  rintro e y1 ⟨t, v1, v2, S, s, ks, ss, rfl, A, I⟩
  clear eW eb bA
  obtain ⟨A1, c1, rfl, hA0, hA1⟩ := OwnR.shape A.a1
  obtain ⟨A2, c2', rfl, _, _⟩ := OwnR.shape A.a2
  have kT := ((Keep.refl (fun _ => False) y1).alloc (.cells #[.pointer (some ⟨t, 0, none⟩)] 24)).alloc (.cells #[.slice A1 ks.length c1] 44)
  have A' := A.quiet kT
  have ky : Keep (fun _ => False) y1 _ := kT
  have sz : y1.heap.size < ((y1.alloc (.cells #[.pointer (some ⟨t, 0, none⟩)] 24)).alloc (.cells #[.slice A1 ks.length c1] 44)).heap.size := by simp; omega
  have cT : ((y1.alloc (.cells #[.pointer (some ⟨t, 0, none⟩)] 24)).alloc (.cells #[.slice A1 ks.length c1] 44)).cell? ⟨y1.heap.size, 0, none⟩ = some (.pointer (some ⟨t, 0, none⟩)) := by simp
  have cK : ((y1.alloc (.cells #[.pointer (some ⟨t, 0, none⟩)] 24)).alloc (.cells #[.slice A1 ks.length c1] 44)).cell? ⟨y1.heap.size + 1, 0, none⟩ = some (.slice A1 ks.length c1) := by simp
  have lN := lt_of_cell (a := ⟨nb, 0, none⟩) cN
  have q : QW nb (nb + 1) (y1.heap.size + 1) y1.heap.size t (.slice a2 z2.length c2) same (.slice A1 ks.length c1) ks ((y1.alloc (.cells #[.pointer (some ⟨t, 0, none⟩)] 24)).alloc (.cells #[.slice A1 ks.length c1] 44)) S :=
    ⟨ky.cell ((A.r.b.cell (p := ⟨nb, 0, none⟩) lN).trans cN) id, ky.cell ((A.r.b.cell (p := ⟨nb + 1, 0, none⟩) lS).trans cS) id, cK, cT, own_r0 A'.a1, fun x => by have := A.r.g _ x; simp at lN; omega, fun x => by have := A.r.g _ x; omega, fun x => by have := A.r.lt _ x; omega, fun x => by have := A.r.lt _ x; omega, A'.d1⟩
  have hN := isNowW (W := W) (t := t) (s := s) (nb := nb) (sb := nb + 1) (kb' := y1.heap.size + 1) (tb := y1.heap.size) (v1 := .slice A1 ks.length c1) (same := same) LW (fun x hx => (I.kb x hx).2.2) (by have := I.ln; omega) un hl
  have hS := isSpnW (W := W) (t := t) (s := s) (nb := nb) (sb := nb + 1) (kb' := y1.heap.size + 1) (tb := y1.heap.size) (vn := .slice a2 z2.length c2) (v1 := .slice A1 ks.length c1) (same := same) (ks := ks) (by rw [I.e3, List.length_map]; have := I.ln; omega) (fun x hx => by
    rw [I.e3] at hx
    obtain ⟨y, hy, rfl⟩ := List.mem_map.1 hx
    have := (I.sb y hy).2.2.2.1
    exact Nat.le_trans this (by omega))
  obtain ⟨b2, k2, E2⟩ : ∃ b k, allJ 2 s (nowW ks z2 same) (spW s.scans) = (b, k) := ⟨_, _, rfl⟩
  obtain ⟨b3, k3, E3⟩ : ∃ b k, allJ 3 s (nowW ks z2 same) (spW s.scans) = (b, k) := ⟨_, _, rfl⟩
  have HB := Lib.hid (show b3 = true → b2 = true from fun e => by
    subst e
    have := all_weaker (s := s) (N := nowW ks z2 same) (SP := spW s.scans) (by rw [E3])
    rw [E2] at this
    exact this)
  have AR := Lib.hid A'.r
  clear A A' I LW OW kT ky sz cT cK cN cS lS lN un hl hA0 hA1
  go_wp2_with fail
  refine (jall_any AR.out q QW.stay hN hS 1 _ _ (all_lv1 _ _ _)).mono ?_
  rintro e y2 ⟨rfl, S2, C2, k2'⟩
  have q := q.turn k2'
  have cT := q.cT
  clear k2' AR
  go_wp2_with fail
  refine (jall_any C2 q QW.stay hN hS 2 _ _ E2).mono ?_
  rintro e y3 ⟨rfl, S3, C3, k3'⟩
  have q := q.turn k3'
  clear cT
  have cT := q.cT
  clear k3' C2
  go_wp2_with fail
  refine (jall_any C3 q QW.stay hN hS 3 _ _ E3).mono ?_
  rintro e y4 ⟨rfl, S4, C4, _⟩
  have B4 := Lib.hid C4.b
  have hB := HB.out
  clear C3 C4 q cT hN hS E2 E3 HB
  have fin : ∀ y9, Below y4.heap.size y4 y9 → Below w.heap.size w y9 := fun y9 b9 => by
    have b0 := BA.out
    have b1 : Below W.heap.size W y9 := B4.out.trans (b9.mono B4.out.size)
    exact b0.trans (b1.mono b0.size)
  have FIN := Lib.hid fin
  clear fin
  cases b3 with
  | true =>
    obtain rfl : b2 = true := hB rfl
    clear hB
    go_wp2_with fail
    refine (awake15_any _).mono ?_
    rintro e y9 ⟨rfl, b9⟩
    go_wp2
    go_ret
    exact ⟨rfl, FIN.out _ b9⟩
  | false =>
    clear hB
    cases b2 with
    | true =>
      go_wp2_with fail
      refine (awake15_any _).mono ?_
      rintro e y9 ⟨rfl, b9⟩
      go_wp2
      go_ret
      exact ⟨rfl, FIN.out _ b9⟩
    | false =>
      go_wp2_with fail
      refine (awake15_any _).mono ?_
      rintro e y9 ⟨rfl, b9⟩
      go_wp2
      go_ret
      exact ⟨rfl, FIN.out _ b9⟩
theorem own : ownKnob Try.prog.godebug = none := by kernel_rfl
theorem laidOut : laidOutB Try.prog = true := by kernel_rfl
set_option maxRecDepth 100000 in
theorem lifted (os : Os) (started : os.Started) (H : Type) (enc : TypeId × Value → H) :
    ReturnsInHanded {} Try.checked os 8 .any (Rows.judgeWeakerSpec.pre6 enc Try.prog Try.f8 Rows.judgeWeakerRow.domain false) (Rows.judgeWeakerSpec.post enc Try.prog Try.f8 false true false false) := by
  refine returnsInHanded_of_change (C := Try.checked) own started (by kernel_rfl) Try.func8
    (ChangeSpec.witness6 (enc := enc) (C := Try.checked) false ⟨#[], #[.slice none 0 0, .slice none 0 0, .bool false], []⟩ 8 (by kernel_rfl) (by kernel_rfl) (by kernel_rfl) (by kernel_rfl)) ?_
  intro W base args ds gs before hval0 hW hcnd _
  have hval : ∀ (j : Nat) t v, Try.f8.params[j]? = some t → args[j]? = some v → Value.okWide Try.prog W .any base t v := hval0
  have hW' := hW
  obtain ⟨p, q, hA0, hV, rfl, hfz, hnd⟩ := hW
  have hA : DataW.TrodAll enc Try.prog W 0 (fun _ => true) true Try.f8.params.toList args.toList ds p := hA0
  rw [Try.params8] at hA hval
  obtain ⟨v0, vs0, d0, ds0, p0, q0, hargs, rfl, rfl, h0, r0⟩ := trodAll_cons hA
  obtain ⟨v1, vs1, d1, ds1, p1, q1, rfl, rfl, rfl, h1, r1⟩ := trodAll_cons r0
  obtain ⟨v2, vs2, d2, ds2, p2, q2, rfl, rfl, rfl, h2, r2⟩ := trodAll_cons r1
  obtain ⟨rfl, rfl, rfl⟩ := trodAll_nil r2
  obtain rfl : args = #[v0, v1, v2] := by cases args; simp_all
  obtain ⟨rfl, rfl⟩ := trodVars_none hV
  obtain ⟨a0, len0, cap0, rfl⟩ := okWide_slice Try.underlying44 (hval 0 44 v0 rfl rfl)
  have k0 := h0
  have lt0 : ∀ x ∈ p0, x.block < W.heap.size := by obtain ⟨m, hm⟩ := k0; exact DataW.trod_lt m _ _ _ hm
  obtain ⟨z0, w0⟩ : ∃ f, IsOps W a0 len0 cap0 f := is_ops h0
  obtain ⟨a1, len1, cap1, rfl⟩ := okWide_slice Try.underlying33 (hval 1 33 v1 rfl rfl)
  have k1 := h1
  have lt1 : ∀ x ∈ p1, x.block < W.heap.size := by obtain ⟨m, hm⟩ := k1; exact DataW.trod_lt m _ _ _ hm
  obtain ⟨z1, w1⟩ : ∃ zs, IsRow .u64 W a1 len1 cap1 zs := is_row Try.underlying33 Try.underlying23 (by kernel_rfl) h1
  obtain ⟨a2, rfl, rfl, rfl⟩ := open_bool Try.underlying4 (hval 2 4 v2 rfl rfl) h2
  clear hA0 hval0
  refine (walk a0 len0 cap0 z0 a1 len1 cap1 z1 a2 W w0 w1).mono fun e W' ⟨he, bel⟩ => ?_
  subst he
  exact ⟨_, rfl, _, _, _, [], _, [], hW', trodAll_mk1 (shut_bool Try.underlying4 _), (trodAll_cons_mk (Below.trod laidOut (by kernel_rfl) (of_decide_eq_true (by kernel_rfl)) k0 bel lt0) (trodAll_cons_mk (Below.trod laidOut (by kernel_rfl) (of_decide_eq_true (by kernel_rfl)) k1 bel lt1) (trodAll_cons_mk (shut_bool Try.underlying4 _) trodAll_mk0))), rfl, bel.frame _, fun h => by cases h⟩
theorem over : Rows.judgeWeakerRow.holds Try.pinned (OpenSpec.ofChange Rows.judgeWeakerSpec) :=
  OpenClaim.holds_of_wide 8 Try.f8 rfl rfl rfl rfl rfl rfl rfl ⟨rfl, rfl, rfl, rfl, rfl⟩ rfl rfl rfl rfl rfl (by kernel_rfl) Try.func8 (by kernel_rfl)
    (of_decide_eq_true (by kernel_rfl)) (by unfold Func.isWrapper; first | (rw [if_pos (by decide +kernel)]; kernel_rfl) | (rw [if_neg (by decide +kernel)]; exact ⟨rfl, rfl⟩))
    (fun os started H enc _ => lifted os started H enc)
theorem proved : Rows.JudgeWeakerSaid := over
end Go.Proofs.Ytndpifkpgoeogaa.judgeWeaker
