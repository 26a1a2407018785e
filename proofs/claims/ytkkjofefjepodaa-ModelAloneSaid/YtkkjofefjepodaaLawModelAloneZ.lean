/- Proved here: vinculumlaw19.ModelAlone returns true and leaves its arguments as they were, for any int and any slice of Ops; no further condition. -/
import Derived.Test.YtkkjofefjepodaaLawModelAloneZac
import Derived.Test.YtkkjofefjepodaaLawModelAloneZad
namespace Go.Proofs.Ytkkjofefjepodaa.modelAlone
open Go.ChangeShapes Go.WideShapes Go.ChangeAt Go.RowKit
set_option linter.unusedVariables false
set_option linter.unusedSimpArgs false
theorem cl_keep {w w' : World} {S : Nat → Prop} {b i : Nat} {o : OpI} (h : ClAt w b i o) (k : Keep S w w') (hn : ¬ S b) : ClAt w' b i o := ⟨k.cell h.c0 hn, k.cell h.c1 hn, k.cell h.c2 hn, k.cell h.c3 hn⟩
/-- Between two calls. -/
structure Btw (W w : World) (m : Nat) (S : Nat → Prop) (x : MoI) (B1 B2 : Nat) (th : Nat → Bool) (vl : Nat → Int) (l : Int) (n : Nat) : Prop where
 md : Md W w m S x
 al : Al l n th vl x
 b1 : Bits64 w B1 th
 b2 : Ints64 w B2 vl
 or : B1 < B2 ∧ W.heap.size ≤ B1 ∧ B2 < w.heap.size
 ns : ¬ S B1 ∧ ¬ S B2
def Rel (W : World) (m B1 B2 : Nat) (l : Int) (n1 k : Nat) (nv iv : Value) (wr : World) : Prop := ∃ (S : Nat → Prop) (x : MoI) (th : Nat → Bool) (vl : Nat → Int) (n : Nat), k ≤ n1 ∧ k ≤ 30 ∧ iv = .int .i64 k ∧ nv = .int .i64 n ∧ n ≤ 12 ∧ Btw W wr m S x B1 B2 th vl l n
section
variable {W w w' : World} {m B1 B2 N : Nat} {S S' : Nat → Prop} {x y : MoI} {th : Nat → Bool} {vl : Nat → Int} {l : Int} {n : Nat}
theorem Btw.quiet (h : Btw W w m S x B1 B2 th vl l n) (k : Keep (fun _ => False) w w') : Btw W w' m S x B1 B2 th vl l n :=
 ⟨h.md.quiet k, h.al, h.b1.keep k id, h.b2.keep k id, ⟨h.or.1, h.or.2.1, Nat.lt_of_lt_of_le h.or.2.2 k.size⟩, h.ns⟩
theorem Btw.step (h : Btw W w m S x B1 B2 th vl l n) (M : Md W w' m S' y) (k : VKeep S S' w w') : Md W w' m S' y ∧ Bits64 w' B1 th ∧ Ints64 w' B2 vl ∧ ¬ S' B1 ∧ ¬ S' B2 ∧ B2 < w'.heap.size := by
 have d := h.or
 refine ⟨M, h.b1.keep k.1 h.ns.1, h.b2.keep k.1 h.ns.2, fun e => ?_, fun e => ?_, Nat.lt_of_lt_of_le d.2.2 k.1.size⟩
 ·rcases k.2 _ e with c | c
  ·exact h.ns.1 c
  ·omega
 ·rcases k.2 _ e with c | c
  ·exact h.ns.2 c
  ·omega
end
theorem rs_box (w : World) (a b c d : Int) (v : Value) : ∃ W, w.alloc (.cells #[.int .i64 a, .int .i64 b, v, .int .i64 c, .int .i64 d] 30) = W ∧ ResAt W w.heap.size (.int .i64 a) (.int .i64 b) v (.int .i64 c) (.int .i64 d) ∧ Keep (fun _ => False) w W :=
 ⟨_, rfl, ⟨by simp, by simp, by simp, by simp, by simp, fun i => by simp⟩, (Keep.refl _ _).alloc _⟩
set_option maxRecDepth 100000 in
set_option maxHeartbeats 16000000 in
theorem walk (a0 : Int) (a1 : Option Addr) (n1 c1 : Nat) (z1 : Nat → OpI) (w : World) (w0 : (Lit.int .i64 a0).wf = true) (w1 : IsCl w a1 n1 c1 z1) :
    Calls Try.prog 16 #[.int .i64 a0, .slice a1 n1 c1] w fun e w' => e = .returned (.bool true) ∧ Below w.heap.size w w' := by
  have x1 := w1.max
  have lc1 := w1.cell
  have lo1 := w1.ok
  obtain ⟨q0, b, hq1, hq2, hq3, l0, l2, q00, q01, lw, lw1⟩ := lev a0
  obtain ⟨y0, g1, g2, g3, g4⟩ := al_new (b + 1) (by omega)
  have G1 := Lib.hid g1
  have G2 := Lib.hid g2
  have G3 := Lib.hid g3
  have G4 := Lib.hid g4
  clear w0 w1 g1 g2 g3 g4
  go_enter Try.func16, Try.ntmps16
  go_wp2_with fail
  refine (md_new w 200 50 (i64_n (by omega)) ⟨by omega, by omega⟩ rfl).mono ?_
  rintro e w1 ⟨m, S1, rfl, M1⟩
  go_wp2_with fail; refine (md_begin (M1.quiet (by repeat (first | exact Keep.refl _ _ | refine Keep.alloc ?_ _))) 3 (b + 1) (i64_n (by omega)) (i64_n (by omega)) 1 0 y0 G2.out G1.out G3.out).mono ?_; rintro e w2 ⟨rfl, S2, M2, k2⟩; clear k2 M1
  go_upto_region 12 with fail
  obtain ⟨wa, hW⟩ : ∃ wa, wa = (w2.alloc (.cells (Array.replicate 64 (.bool false)) 88)).alloc (.cells (Array.replicate 64 (.int .i64 0)) 89) := ⟨_, rfl⟩
  change Code.wp _ _ _ _ ((w2.alloc (.cells (Array.replicate 64 (.bool false)) 88)).alloc (.cells (Array.replicate 64 (.int .i64 0)) 89))
  rw [← hW]
  have B0 : Btw w wa m S2 y0 w2.heap.size (w2.heap.size + 1) (fun _ => false) (fun _ => 0) (b + 1) 0 := by
    have i1 := ints_new (w2.alloc (.cells (Array.replicate 64 (.bool false)) 88)) 89
    have k1 : Keep (fun _ => False) w2 (w2.alloc (.cells (Array.replicate 64 (.bool false)) 88)) := (Keep.refl _ _).alloc _
    have k2 : Keep (fun _ => False) (w2.alloc (.cells (Array.replicate 64 (.bool false)) 88)) wa := by rw [hW]; exact (Keep.refl _ _).alloc _
    rw [World.size_alloc] at i1
    refine ⟨M2.quiet (k1.trans k2), G4.out, (bits_new w2 _).keep k2 id, by rw [hW]; exact i1, ⟨by omega, M2.b.size, by rw [hW, World.size_alloc, World.size_alloc]; omega⟩, fun e => absurd (M2.lt _ e) (Nat.lt_irrefl _), fun e => by have := M2.lt _ e; omega⟩
  obtain ⟨A1, eA1⟩ : ∃ A1, w2.heap.size = A1 := ⟨_, rfl⟩
  rw [eA1] at B0 ⊢
  obtain ⟨A2, eA2⟩ : ∃ A2, A1 + 1 = A2 := ⟨_, rfl⟩
  rw [eA2] at B0 ⊢
  clear hW M2 eA1 eA2
  go_loopg [11, 12] 30 (fun mm nv iv wr => ∃ k : Nat, mm + k = 30 ∧ Rel w m A1 A2 (b + 1) n1 k nv iv wr)
  case atStart => exact ⟨0, by omega, S2, y0, _, _, 0, by omega, by omega, rfl, rfl, by omega, B0⟩
  case round =>
    obtain ⟨k, hgk, S, x, th, vl, n, k0, k30, rfl, rfl, n12, B⟩ := hrel
    clear B0 G4
    by_cases hlt : k < n1 ∧ k < 30
    · obtain ⟨hl, h30⟩ := hlt
      obtain ⟨bb, off, rfl, hbl, hc⟩ := lc1 (by omega)
      have ob := lo1 k hl
      have oc := cl_keep (hc k hl) (Keep.of_below (Below.mono B.md.b (Nat.le_refl _)) (fun _ => False)) id
      obtain ⟨o, eo⟩ : ∃ o, z1 k = o := ⟨_, rfl⟩
      rw [eo] at ob oc
      clear eo hc lc1 lo1
      obtain ⟨oc0, oc1, oc2, oc3⟩ := oc
      have wk : IntKind.i64.wrap ((k : Int) + 1) = (k : Int) + 1 := IntWalk.i64_in _ (by omega)
      have wn : IntKind.i64.wrap ((n : Int) + 1) = (n : Int) + 1 := IntWalk.i64_in _ (by omega)
      have dk : decide ((k : Int) < 30) = true := decide_eq_true (by omega)
      go_upto_region 15 with fail
      obtain ⟨V, eV, B3, kV⟩ := op_box wr o
      have hNW : A2 < wr.heap.size := B.or.2.2
      have hN : ¬ S wr.heap.size := fun e => absurd (B.md.lt _ e) (Nat.lt_irrefl _)
      have hNV : wr.heap.size < V.heap.size := by rw [← eV, World.size_alloc]; omega
      obtain ⟨N3, eN⟩ : ∃ N, wr.heap.size = N := ⟨_, rfl⟩
      rw [eV, eN]
      rw [eN] at B3 hNW hN hNV
      have BV := B.quiet kV
      clear eV eN kV B oc0 oc1 oc2 oc3
      obtain ⟨o0, o1, o2, o3⟩ := id B3
      obtain ⟨b0, b1, b2, b3⟩ := ob
      by_cases h6 : 6 ≤ o.kind
      · have d6 : decide (6 ≤ o.kind) = true := decide_eq_true h6
        go_wp2_with fail
        go_roundg (30 - (k + 1))
        case measure => omega
        case rel => exact ⟨k + 1, by omega, S, x, th, vl, n, by omega, by omega, by go_num, rfl, n12, BV⟩
      · have d6 : decide (6 ≤ o.kind) = false := decide_eq_false h6
        obtain ⟨ok, hok⟩ : ∃ ok, okI o = ok := ⟨_, rfl⟩
        cases ok with
        | false =>
          obtain ⟨g1, g2, g3⟩ := BV.al.bad hok
          have G1 := Lib.hid g1
          have G2 := Lib.hid g2
          have G3 := Lib.hid g3
          clear g1 g2 g3
          go_wp2_with fail; refine (md_res BV.md 3 o.kind o.key o.hi o.val (i64_n (by omega)) (i64_n b0) (i64_n b1) (i64_n b2) (i64_n b3) 9 0 0 [] 0 0 x G1.out G2.out G3.out).mono ?_; rintro e w4 ⟨C4, q4, c4, S4, rfl, o4, n4, M4, k4⟩; obtain ⟨p0, p1, p2, p3, p4, p5⟩ := BV.step M4 k4; have B34 := B3.keep k4.1 hN; obtain ⟨o40, o41, o42, o43⟩ := id B34; have l4 : N3 < w4.heap.size := lt_of_cell (a := ⟨N3, 0, none⟩) o40; have l4' : N3 ≠ w4.heap.size := Nat.ne_of_lt l4
          go_wp2_with fail; obtain ⟨w5, e5, R5, k5⟩ := rs_box w4 0 0 0 0 (.slice C4 q4 c4); rw [e5]; have B35 := B34.keep k5 id; refine (ropok_any o false hok w5).mono ?_; rintro e w6 ⟨rfl, k6⟩; clear e5
          go_wp2_with fail
          go_roundg (30 - (k + 1))
          case measure => omega
          case rel => exact ⟨k + 1, by omega, S4, x, th, vl, n, by omega, by omega, by go_num, rfl, n12, ⟨M4.quiet (k5.trans k6), BV.al, p1.keep (k5.trans k6) id, p2.keep (k5.trans k6) id, ⟨BV.or.1, BV.or.2.1, Nat.lt_of_lt_of_le p5 (k5.trans k6).size⟩, p3, p4⟩⟩
        | true =>
          by_cases hn : n = 12
          · subst hn
            obtain ⟨g1, g2, g3⟩ := BV.al.many hok (by omega)
            have G1 := Lib.hid g1
            have G2 := Lib.hid g2
            have G3 := Lib.hid g3
            clear g1 g2 g3
            go_wp2_with fail; refine (md_res BV.md 3 o.kind o.key o.hi o.val (i64_n (by omega)) (i64_n b0) (i64_n b1) (i64_n b2) (i64_n b3) 65 0 0 [] 0 0 x G1.out G2.out G3.out).mono ?_; rintro e w4 ⟨C4, q4, c4, S4, rfl, o4, n4, M4, k4⟩; obtain ⟨p0, p1, p2, p3, p4, p5⟩ := BV.step M4 k4; have B34 := B3.keep k4.1 hN; obtain ⟨o40, o41, o42, o43⟩ := id B34; have l4 : N3 < w4.heap.size := lt_of_cell (a := ⟨N3, 0, none⟩) o40; have l4' : N3 ≠ w4.heap.size := Nat.ne_of_lt l4
            go_wp2_with fail; obtain ⟨w5, e5, R5, k5⟩ := rs_box w4 0 0 0 0 (.slice C4 q4 c4); rw [e5]; have B35 := B34.keep k5 id; refine (ropok_any o true hok w5).mono ?_; rintro e w6 ⟨rfl, k6⟩; clear e5
            go_wp2_with fail
            go_roundg (30 - (k + 1))
            case measure => omega
            case rel => exact ⟨k + 1, by omega, S4, x, th, vl, 12, by omega, by omega, by go_num, by first | rfl | go_num, by omega, ⟨M4.quiet (k5.trans k6), BV.al, p1.keep (k5.trans k6) id, p2.keep (k5.trans k6) id, ⟨BV.or.1, BV.or.2.1, Nat.lt_of_lt_of_le p5 (k5.trans k6).size⟩, p3, p4⟩⟩
          · have dn : ((n : Int) == 12) = false := by simpa using (show ¬ ((n : Int) = 12) by omega)
            obtain ⟨ve, vv, ps, y, th', vl', g1, g2, g3, g4, g5⟩ := al_do BV.al (by omega) hok (by omega)
            have G1 := Lib.hid g1
            have G2 := Lib.hid g2
            have G3 := Lib.hid g3
            have G4 := Lib.hid g4
            have G5 := Lib.hid g5
            clear g1 g2 g3 g4 g5
            go_wp2_with fail; refine (md_res BV.md 3 o.kind o.key o.hi o.val (i64_n (by omega)) (i64_n b0) (i64_n b1) (i64_n b2) (i64_n b3) 0 ve vv ps 0 0 y G1.out G2.out G3.out).mono ?_; rintro e w4 ⟨C4, q4, c4, S4, rfl, o4, n4, M4, k4⟩; obtain ⟨p0, p1, p2, p3, p4, p5⟩ := BV.step M4 k4; have B34 := B3.keep k4.1 hN; obtain ⟨o40, o41, o42, o43⟩ := id B34; have l4 : N3 < w4.heap.size := lt_of_cell (a := ⟨N3, 0, none⟩) o40; have l4' : N3 ≠ w4.heap.size := Nat.ne_of_lt l4
            go_wp2_with fail; obtain ⟨w5, e5, R5, k5⟩ := rs_box w4 ve vv 0 0 (.slice C4 q4 c4); rw [e5]; have B35 := B34.keep k5 id; refine (ropok_any o true hok w5).mono ?_; rintro e w6 ⟨rfl, k6⟩; clear e5
            have B36 := B35.keep k6 id
            obtain ⟨o60, o61, o62, o63⟩ := id B36
            have l6 : N3 < w6.heap.size := lt_of_cell (a := ⟨N3, 0, none⟩) o60
            have l6' : N3 ≠ w6.heap.size := Nat.ne_of_lt l6
            have R6 := R5.keep k6 id
            have n4' : ¬ S4 w4.heap.size := fun e => absurd (M4.lt _ e) (Nat.lt_irrefl _)
            have uo : ∀ g, (Value.slice C4 q4 c4).ownBlock = some g → N3 < g ∧ g < w4.heap.size := fun g hg => ⟨Nat.lt_of_lt_of_le hNV (n4 g hg).1, o4.lt hg⟩
            have s5 : w4.heap.size < w5.heap.size := lt_of_cell (a := ⟨w4.heap.size, 0, none⟩) R5.r0
            obtain ⟨N4, eN4⟩ : ∃ N, w4.heap.size = N := ⟨_, rfl⟩
            rw [eN4] at R6 n4' uo s5 ⊢
            clear R5
            go_upto_block 2 with fail
            obtain ⟨V6, eV6, R66, kV6⟩ := res_box w6
            rw [eV6]
            have s6 : w6.heap.size < V6.heap.size := lt_of_cell (a := ⟨w6.heap.size, 0, none⟩) R66.r0
            have z6 := k6.size
            have n6' : ¬ S4 w6.heap.size := fun e => by have := M4.lt _ e; have := k5.size; omega
            have ns3 : ¬ S4 N3 := fun e => by rcases k4.2 _ e with c | c; exact hN c; omega
            have SW : SwA w V6 m S4 y A1 A2 N3 N4 w6.heap.size th vl o ⟨ve, vv, ps, 0, 0⟩ (.slice C4 q4 c4) 0 0 (.slice none 0 0) :=
              ⟨M4.quiet ((k5.trans k6).trans kV6), p1.keep ((k5.trans k6).trans kV6) id, p2.keep ((k5.trans k6).trans kV6) id, B36.keep kV6 id, R6.keep kV6 id, R66, o4.keep ((k5.trans k6).trans kV6) (fun _ _ => id), ⟨BV.or.1, hNW, by omega, by omega, BV.or.2.1, s6⟩, uo, p3, p4, ns3, n4', n6'⟩
            obtain ⟨N6, eN6⟩ : ∃ N, w6.heap.size = N := ⟨_, rfl⟩
            rw [eN6] at SW ⊢
            clear eV6 R66 kV6 B36 B35 B34 R6 M4 o60 o61 o62 o63 o40 o41 o42 o43 o4 n4 k4 k5 k6 p0 p1 p2 p3 p4 p5 BV eN6 eN4 B3 o0 o1 o2 o3 s5 s6 z6 n6' ns3 n4' uo l4 l4' l6 l6'
            go_cut [17] from 80 to 152 (fun v wx => MidA w m A1 A2 N3 N4 N6 (b + 1) (n + 1) wx)
            case first =>
              rename_i J7 K7 hJ7 hK7
              rcases G5.out with ⟨kk, k64, ho, hr, rfl, rfl⟩ | ⟨kd, kk, v, hkd, k64, ho, hr, rfl, rfl⟩ | ⟨lo, hi, hlo, hhi, ho, hr, rfl, rfl⟩
              · subst ho
                rw [hr] at SW
                exact modelAlone.b1 hJ7 hK7 (Lib.hid fun c a d v w h => by cases d <;> exact h) k64 SW G4.out
              · subst ho
                rw [hr] at SW
                rcases hkd with rfl | rfl | rfl
                · exact modelAlone.b2 hJ7 hK7 (Lib.hid fun c a d v w h => by cases d <;> exact h) k64 SW G4.out
                · exact modelAlone.b3 hJ7 hK7 (Lib.hid fun c a d v w h => by cases d <;> exact h) k64 SW G4.out
                · exact modelAlone.b4 hJ7 hK7 (Lib.hid fun c a d v w h => by cases d <;> exact h) k64 SW G4.out
              · subst ho
                rw [hr] at SW
                exact modelAlone.b5 hJ7 hK7 (Lib.hid fun c a d v w h => by cases d <;> exact h) hlo hhi SW G4.out
            case rest =>
            obtain ⟨S5, y5, th5, vl5, o5, r5, u5, v5, H5, ov5, A5, z1, z2, z3⟩ := hcut
            clear SW G1 G2 G3 G4 G5
            obtain ⟨re, rv, rp, ro, rs⟩ := r5
            dsimp only at z1 z2 z3 ov5 H5
            subst z1 z2
            have C5 := same_res (r := ⟨re, rv, rp, 0, 0⟩) H5.ou ov5 (by show rp.length ≤ 100000; omega)
            unfold reV at C5
            dsimp only at C5
            obtain ⟨t0, t1, t2, t3, t4, _⟩ := H5.b4
            obtain ⟨t5, t6, t7, t8, t9, _⟩ := H5.b6
            dsimp only at t0 t1 t2 t3 t4
            go_wp2_with fail
            refine C5.mono ?_
            rintro e w9 ⟨rfl, k9⟩
            go_wp2_with fail
            go_roundg (30 - (k + 1))
            case measure => omega
            case rel => exact ⟨k + 1, by omega, S5, y5, th5, vl5, n + 1, by omega, by omega, by go_num, by first | rfl | go_num, by omega, ⟨H5.md.quiet k9, A5, H5.b1.keep k9 id, H5.b2.keep k9 id, ⟨H5.or.1, H5.or.2.2.2.2.1, by have := H5.or; have := k9.size; omega⟩, H5.ns.1, H5.ns.2.1⟩⟩
    · obtain ⟨y, g1, g2, g3⟩ := al_commit B.al
      have G1 := Lib.hid g1
      have G2 := Lib.hid g2
      have G3 := Lib.hid g3
      have M2 := B.md
      clear g1 g2 g3 B lc1 lo1
      rcases (by omega : k = n1 ∨ (k < n1 ∧ k = 30)) with rfl | ⟨h1, rfl⟩
      · go_wp2_with fail; refine (md_res (M2.quiet (by repeat (first | exact Keep.refl _ _ | refine Keep.alloc ?_ _))) 3 6 0 0 0 (i64_n (by omega)) (i64_n (by omega)) (i64_n (by omega)) (i64_n (by omega)) (i64_n (by omega)) 0 0 0 [] 3 0 y G1.out G2.out G3.out).mono ?_; rintro e w3 ⟨A3, q3, c3, S3, rfl, o3, n3, M3, k3⟩; clear o3 n3 k3 M2
        go_wp2_with fail
        refine (awake19_any _).mono ?_
        rintro e wz ⟨rfl, bz⟩
        go_wp2
        go_ret
        exact ⟨rfl, M3.fin bz⟩
      · go_wp2_with fail; refine (md_res (M2.quiet (by repeat (first | exact Keep.refl _ _ | refine Keep.alloc ?_ _))) 3 6 0 0 0 (i64_n (by omega)) (i64_n (by omega)) (i64_n (by omega)) (i64_n (by omega)) (i64_n (by omega)) 0 0 0 [] 3 0 y G1.out G2.out G3.out).mono ?_; rintro e w3 ⟨A3, q3, c3, S3, rfl, o3, n3, M3, k3⟩; clear o3 n3 k3 M2
        go_wp2_with fail
        refine (awake19_any _).mono ?_
        rintro e wz ⟨rfl, bz⟩
        go_wp2
        go_ret
        exact ⟨rfl, M3.fin bz⟩
theorem own : ownKnob Try.prog.godebug = none := by kernel_rfl
theorem laidOut : laidOutB Try.prog = true := by kernel_rfl
set_option maxRecDepth 100000 in
theorem lifted (os : Os) (started : os.Started) (H : Type) (enc : TypeId × Value → H) :
  ReturnsInHanded {} Try.checked os 16 .any (Rows.modelAloneSpec.pre6 enc Try.prog Try.f16 Rows.modelAloneRow.domain false) (Rows.modelAloneSpec.post enc Try.prog Try.f16 false true false false) := by
 refine returnsInHanded_of_change (C := Try.checked) own started (by kernel_rfl) Try.func16
  (ChangeSpec.witness6 (enc := enc) (C := Try.checked) false ⟨#[], #[.int .i64 0, .slice none 0 0], []⟩ 8 (by kernel_rfl) (by kernel_rfl) (by kernel_rfl) (by kernel_rfl)) ?_
 intro W base args ds gs before hval0 hW hcnd _
 have hval : ∀ (j : Nat) t v, Try.f16.params[j]? = some t → args[j]? = some v → Value.okWide Try.prog W .any base t v := hval0
 have hW' := hW
 obtain ⟨p, q, hA0, hV, rfl, hfz, hnd⟩ := hW
 have hA : DataW.TrodAll enc Try.prog W 0 (fun _ => true) true Try.f16.params.toList args.toList ds p := hA0
 rw [Try.params16] at hA hval
 obtain ⟨v0, vs0, d0, ds0, p0, q0, hargs, rfl, rfl, h0, r0⟩ := trodAll_cons hA
 obtain ⟨v1, vs1, d1, ds1, p1, q1, rfl, rfl, rfl, h1, r1⟩ := trodAll_cons r0
 obtain ⟨rfl, rfl, rfl⟩ := trodAll_nil r1
 obtain rfl : args = #[v0, v1] := by cases args; simp_all
 obtain ⟨rfl, rfl⟩ := trodVars_none hV
 obtain ⟨a0, rfl, rfl, rfl, w0⟩ := open_int Try.underlying3 (hval 0 3 v0 rfl rfl) h0
 obtain ⟨a1, len1, cap1, rfl⟩ := okWide_slice Try.underlying26 (hval 1 26 v1 rfl rfl)
 have k1 := h1
 have lt1 : ∀ x ∈ p1, x.block < W.heap.size := by obtain ⟨m, hm⟩ := k1; exact DataW.trod_lt m _ _ _ hm
 obtain ⟨z1, w1⟩ : ∃ f, IsCl W a1 len1 cap1 f := is_cl h1
 clear hA0 hval0
 refine (walk a0 a1 len1 cap1 z1 W w0 w1).mono fun e W' ⟨he, bel⟩ => ?_
 subst he
 exact ⟨_, rfl, _, _, _, [], _, [], hW', trodAll_mk1 (shut_bool Try.underlying4 _), (trodAll_cons_mk (shut_int Try.underlying3 w0) (trodAll_cons_mk (Below.trod laidOut (by kernel_rfl) (of_decide_eq_true (by kernel_rfl)) k1 bel lt1) trodAll_mk0)), rfl, bel.frame _, fun h => by cases h⟩
theorem over : Rows.modelAloneRow.holds Try.pinned (OpenSpec.ofChange Rows.modelAloneSpec) :=
 OpenClaim.holds_of_wide 16 Try.f16 rfl rfl rfl rfl rfl rfl rfl ⟨rfl, rfl, rfl, rfl, rfl⟩ rfl rfl rfl rfl rfl (by kernel_rfl) Try.func16 (by kernel_rfl)
  (of_decide_eq_true (by kernel_rfl)) (by unfold Func.isWrapper; first | (rw [if_pos (by decide +kernel)]; kernel_rfl) | (rw [if_neg (by decide +kernel)]; exact ⟨rfl, rfl⟩))
  (fun os started H enc _ => lifted os started H enc)
theorem proved : Rows.ModelAloneSaid := over
end Go.Proofs.Ytkkjofefjepodaa.modelAlone
