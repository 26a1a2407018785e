/- vinculumref20's Repeatable. Condition: Deals that are not too many. -/
import Derived.Test.YtalkfnblnlcklaaModelBaseDZaj
namespace Go.Proofs.Ytalkfnblnlcklaa
open Go.ChangeShapes Go.WideShapes Go.ChangeAt Go.RowKit
set_option linter.unusedVariables false
set_option linter.unusedSimpArgs false
def inF (z : Int) : List Value := [.int .i64 z]
theorem inF_len (z : Int) : (inF z).length = 1 := rfl
theorem inF_one : ∀ p : Int, ∀ u ∈ inF p, u.oneCell' = true := by
 intro p q hq
 simp only [inF, List.mem_cons, List.not_mem_nil, or_false] at hq
 rcases hq with rfl
 rfl
theorem info_in : (Try.prog.info? 3).map (fun i => (i.zero, i.size, i.bytes)) = some (some (.int .i64 0), 1, 8) := by kernel_rfl
abbrev OwnI (B : Nat) (w : World) (v : Value) (zs : List Int) : Prop := OwnB 1 inF 3 B w v zs
/-- A Call in a box. -/
def B9 (w : World) (N : Nat) (z : OpI × ReI) (u : Value) : Prop := w.cell? ⟨N, 0, none⟩ = some (.int .i64 z.1.kind) ∧ w.cell? ⟨N, 1, none⟩ = some (.int .i64 z.1.key) ∧ w.cell? ⟨N, 2, none⟩ = some (.int .i64 z.1.hi) ∧ w.cell? ⟨N, 3, none⟩ = some (.int .i64 z.1.val) ∧ w.cell? ⟨N, 4, none⟩ = some (.int .i64 z.2.e) ∧ w.cell? ⟨N, 5, none⟩ = some (.int .i64 z.2.val) ∧ w.cell? ⟨N, 6, none⟩ = some u ∧ w.cell? ⟨N, 7, none⟩ = some (.int .i64 z.2.over) ∧ w.cell? ⟨N, 8, none⟩ = some (.int .i64 z.2.reason)
theorem cl_box (w : World) (z : OpI × ReI) (u : Value) : ∃ W, w.alloc (.cells #[.int .i64 z.1.kind, .int .i64 z.1.key, .int .i64 z.1.hi, .int .i64 z.1.val, .int .i64 z.2.e, .int .i64 z.2.val, u, .int .i64 z.2.over, .int .i64 z.2.reason] 70) = W ∧ B9 W w.heap.size z u ∧ Keep (fun _ => False) w W :=
 ⟨_, rfl, ⟨by simp, by simp, by simp, by simp, by simp, by simp, by simp, by simp, by simp⟩, (Keep.refl _ _).alloc _⟩
def ReK (cs : List (OpI × ReI)) (V : List (Int × Int)) (R : Bool) (W : World) (u i : Value) (wr : World) : Prop := ∃ (j : Nat) (wl : List Int), j ≤ cs.length ∧ i = .int .i64 j ∧ wl.length ≤ j ∧ OwnI W.heap.size wr u wl ∧ Keep (fun _ => False) W wr ∧ repGo V wl (cs.drop j) = R
def OwK (wl : List Int) (key : Int) (W : World) (o i : Value) (wr : World) : Prop := ∃ (j d : Nat), j ≤ wl.length ∧ i = .int .i64 j ∧ o = .bool (decide (key ∈ wl.take j)) ∧ wr = W.drewN d
section
variable {w w' : World} {v : Value} {ds : List DlI}
theorem OwnI.form {B : Nat} {u : Value} {zs : List Int} (o : OwnI B w u zs) : ∃ A c, u = .slice A zs.length c ∧ (0 < zs.length → ∃ g, A = some ⟨g, 0, none⟩ ∧ ∀ (j : Nat) (z : Int), zs[j]? = some z → w.cell? ⟨g, j, none⟩ = some (.int .i64 z)) := by
 have L := OwnB.lies inF_len o
 rcases OwnM.form o.ownM with ⟨rfl, rfl⟩ | ⟨g, c, rfl, hg, hc, hm⟩
 ·exact ⟨none, 0, rfl, fun h => absurd h (Nat.lt_irrefl _)⟩
 ·refine ⟨_, c, rfl, fun h0 => ⟨g, rfl, fun j z hz => ?_⟩⟩
  obtain ⟨A, c', e, _, _, _, h4⟩ := L
  cases e
  obtain ⟨b, off, e, _, h5⟩ := h4 h0
  cases e
  have := h5 j z hz 0 _ rfl
  simpa using this
set_option maxRecDepth 100000 in
set_option maxHeartbeats 8000000 in
theorem repeat_any (h : DealsIn w v ds) (hb : DlB ds) (hu : DlU ds) (i0 : Int) (R : Bool) (hR : repP ds i0 = R) :
    Calls Try.prog 22 #[v, .int .i64 i0] w fun e w' => e = .returned (.bool R) ∧ Keep (fun _ => False) w w' := by
  have DN := done_any h hb.n i0 _ rfl
  obtain ⟨A, c, rfl, hc, hm, hf⟩ := h.form
  unfold repP at hR
  cases hd : doneP ds i0 with
  | none =>
    rw [hd] at hR DN
    obtain rfl : false = R := hR
    have m1 : kI none = -1 := rfl
    rw [m1] at DN
    clear h hb hu hf hd
    go_enter Try.func22, Try.ntmps22
    go_wp2_with fail
    refine DN.mono ?_
    rintro e w1 ⟨rfl, hw⟩
    rw [hw]
    clear hw DN
    go_wp2
    go_ret
    exact ⟨rfl, Keep.refl _ _⟩
  | some k =>
    obtain ⟨x, hx, hxi, hx3⟩ := done_lt hd
    rw [hd] at hR DN
    dsimp only at hR
    rw [hx] at hR
    dsimp only at hR
    have kl := (List.getElem?_eq_some_iff.1 hx).1
    have xb := hu.b x (List.mem_of_getElem? hx)
    obtain ⟨hp, ehp⟩ : ∃ r, holdsP ds k x.start = r := ⟨_, rfl⟩
    have HO := rholdsP_any h hb k kl x.start ⟨xb.1, xb.2.1⟩ hp ehp
    rw [ehp] at hR
    have BF := fun w1 => before_any x.stop ⟨xb.2.2.1, xb.2.2.2⟩ w1
    have ol : x.ops.length ≤ (ds.map fun d => d.ops.length).sum := mem_sum (List.mem_map.2 ⟨x, List.mem_of_getElem? hx, rfl⟩)
    have hbo := hb.o
    obtain ⟨V, eV⟩ : ∃ V, stateP ds (beforeI x.stop) k = V := ⟨_, rfl⟩
    have vl := state_len ds (beforeI x.stop) k
    have ST := fun w1 (k1 : Keep (fun _ => False) w w1) => state_any (h.keep k1) hb (beforeI x.stop) k (by unfold beforeI; split <;> omega) V eV
    rw [eV] at hR vl
    obtain ⟨b, off, rfl, hcc⟩ := hf (by omega)
    obtain ⟨A2, c2, L2, d0, d1, d2, d3, d4, d5⟩ := hcc k x hx
    obtain ⟨n, en⟩ : ∃ n, ds.length = n := ⟨_, rfl⟩
    rw [en] at kl hc DN HO ST ⊢
    have kz : (k : Int) < n := by omega
    have m1 : kI (some k) = (k : Int) := rfl
    rw [m1] at DN
    have iz : ((k : Int) < 0) = False := by simp
    obtain ⟨sb, hsb⟩ : ∃ s, x.start = s := ⟨_, rfl⟩
    obtain ⟨se, hse⟩ : ∃ s, x.stop = s := ⟨_, rfl⟩
    rw [hse] at BF d4 ST
    rw [hsb] at HO d3
    obtain ⟨be, hbe⟩ : ∃ s, beforeI se = s := ⟨_, rfl⟩
    rw [hbe] at BF ST
    obtain ⟨cs, hcs⟩ : ∃ l, x.ops = l := ⟨_, rfl⟩
    rw [hcs] at d5 L2 hR ol
    obtain ⟨m, hm2⟩ : ∃ m, cs.length = m := ⟨_, rfl⟩
    obtain ⟨A3, c3, e3, h31, h32, hF⟩ := L2.form
    cases e3
    rw [hm2] at d5 ol h31 hF
    have mb : m ≤ 24000 ∧ V.length ≤ 24000 := by omega
    have HF := Lib.hid hF
    have HM := Lib.hid hm2
    have HR := Lib.hid hR
    have STT := Lib.hid ST
    have BFF := Lib.hid BF
    clear h hb hu hf hd hcc L2 d0 d1 d2 hR hx xb en hse hbe hsb ehp eV hcs hF hm2 ST BF vl ol hbo
    go_enter Try.func22, Try.ntmps22
    go_wp2_with fail
    refine DN.mono ?_
    rintro e w1 ⟨rfl, hw⟩
    rw [hw]
    clear hw DN
    go_wp2_with fail
    refine HO.mono ?_
    rintro e w1 ⟨rfl, k1⟩
    clear HO
    have c4 := k1.cell d4 id
    have c5 := k1.cell d5 id
    have K1 := Lib.hid k1
    clear d3 d4 d5 k1
    cases hp with
    | false =>
      obtain rfl : false = R := HR.out
      go_wp2
      go_ret
      exact ⟨rfl, K1.out⟩
    | true =>
      have HG := Lib.hid (show repGo V [] cs = R from HR.out)
      go_wp2_with fail
      refine (BFF.out w1).mono ?_
      rintro e w1' ⟨rfl, hw⟩
      rw [hw]
      clear hw
      go_wp2_with fail
      refine (STT.out w1 K1.out).mono ?_
      rintro e W ⟨u6, rfl, l6, k6⟩
      have c6 := k6.cell c5 id
      have L6 := Lib.hid l6
      have KW := Lib.hid (K1.out.trans k6)
      clear l6 k6 c4 c5
      go_wp2
      go_loopw [7, 8] (ReK cs V R W) (fun _ i _ => m - (intOf i).toNat)
      case atStart => exact ⟨0, [], Nat.zero_le _, rfl, Nat.le_refl _, OwnB.nil, Keep.refl _ _, HG.out⟩
      case round =>
        obtain ⟨q, wl, hq, rfl, wll, ow, kq, hg⟩ := hrel
        rw [HM.out] at hq
        have e6 := kq.cell c6 id
        by_cases hqm : q < m
        · obtain ⟨z, hz⟩ : ∃ z, cs[q]? = some z := ⟨_, List.getElem?_eq_getElem (by rw [HM.out]; exact hqm)⟩
          obtain ⟨b3, off3, rfl, hcz⟩ := HF.out (by omega)
          obtain ⟨A4, c4, L4, p0, p1, p2, p3, p4, p5, p6, p7, p8⟩ := hcz q z hz
          have wq : IntKind.i64.wrap ((q : Int) + 1) = (q : Int) + 1 := IntWalk.i64_in _ (by omega)
          have KC := K1.out
          have dq : cs.drop q = z :: cs.drop (q + 1) := by
            obtain ⟨hl, e⟩ := List.getElem?_eq_some_iff.1 hz
            rw [List.drop_eq_getElem_cons hl, e]
          rw [dq] at hg
          unfold repGo at hg
          have KQ := Lib.hid (KW.out.trans kq)
          have r0 := KQ.out.cell p0 id
          have r1 := KQ.out.cell p1 id
          have r2 := KQ.out.cell p2 id
          have r3 := KQ.out.cell p3 id
          have r4 := KQ.out.cell p4 id
          have r5 := KQ.out.cell p5 id
          have r6 := KQ.out.cell p6 id
          have r7 := KQ.out.cell p7 id
          have r8 := KQ.out.cell p8 id
          have FD := fun w1 (k : Keep (fun _ => False) W w1) => rfindP_any (L6.out.keep k) (by omega) z.1.key
          have WA := fun r hr w1 => writes_any z (A := A4) (q := z.2.pairs.length) (q' := c4) r hr w1
          obtain ⟨Au, cu, eu, hfu⟩ := OwnI.form ow
          unfold clV at WA
          obtain ⟨lp, hlp⟩ : ∃ l, z.2.pairs.length = l := ⟨_, rfl⟩
          rw [hlp] at WA r6
          obtain ⟨⟨yk, yy, yh, yv⟩, ⟨re, rv, rp, ro, rr⟩⟩ := z
          dsimp only at FD WA r0 r1 r2 r3 r4 r5 r6 r7 r8 hg
          subst eu
          have OW := Lib.hid ow
          have KQW := Lib.hid kq
          have HG2 := Lib.hid hg
          have HFU := Lib.hid hfu
          have FD := Lib.hid FD
          have WA := Lib.hid WA
          clear hz hcz L4 p0 p1 p2 p3 p4 p5 p6 p7 p8 dq hg ow kq hfu hlp KC
          obtain ⟨l, hl⟩ : ∃ l, wl.length = l := ⟨_, rfl⟩
          have HL := Lib.hid hl
          rw [hl] at wll ⊢
          clear hl
          have l20 : l ≤ 24000 := by omega
          go_upto_region 10 with fail
          obtain ⟨Vw, eVw, B0, kV⟩ := cl_box wr ⟨⟨yk, yy, yh, yv⟩, ⟨re, rv, rp, ro, rr⟩⟩ (.slice A4 lp c4)
          dsimp only at eVw
          obtain ⟨N, eN⟩ : ∃ N, wr.heap.size = N := ⟨_, rfl⟩
          rw [eVw, eN]
          rw [eN] at B0
          obtain ⟨b0, b1, b2, b3', b4, b5, b6, b7, b8⟩ := B0
          dsimp only at b0 b1 b2 b3' b4 b5 b6 b7 b8
          have KV := Lib.hid kV
          have C6 := Lib.hid (kV.cell e6 id)
          clear eVw eN kV r0 r1 r2 r3 r4 r5 r6 r7 r8 e6
          go_wp2
          go_loopw [10, 11] (OwK wl yy Vw) (fun _ i _ => l - (intOf i).toNat)
          case atStart => exact ⟨0, 0, Nat.zero_le _, rfl, by simp, rfl⟩
          case round =>
            obtain ⟨t, d, ht, rfl, rfl, rfl⟩ := hrel
            rw [HL.out] at ht
            by_cases htl : t < l
            · obtain ⟨y, hy⟩ : ∃ y, wl[t]? = some y := ⟨_, List.getElem?_eq_getElem (by rw [HL.out]; exact htl)⟩
              obtain ⟨g, rfl, hcu⟩ := HFU.out (by rw [HL.out]; omega)
              have cy := KV.out.cell (hcu t y hy) id
              have wt : IntKind.i64.wrap ((t : Int) + 1) = (t : Int) + 1 := IntWalk.i64_in _ (by omega)
              have TS := Lib.hid (show decide (yy ∈ wl.take (t + 1)) = (decide (yy ∈ wl.take t) || decide (y = yy)) by
                rw [List.take_add_one, hy]
                simp only [Option.toList_some, List.mem_append, List.mem_singleton, eq_comm (a := y)]
                exact Bool.decide_or _ _)
              obtain ⟨o, ho⟩ : ∃ r, decide (yy ∈ wl.take t) = r := ⟨_, rfl⟩
              rw [ho] at TS ⊢
              clear hy hcu ho
              cases o with
              | true =>
                go_wp2_with fail
                go_quiet (fail)
                go_wp2
                first | exact ⟨⟨t + 1, d + nq, by rw [HL.out]; omega, by go_num, by rw [TS.out]; rfl, rfl⟩, by simp [intOf]; omega⟩ | (refine ⟨?rel2, ?meas2⟩; (case meas2 => (simp [intOf]; omega)); (case rel2 => ((repeat apply Exists.intro); exact ⟨⟨t + 1, d + nq, by rw [HL.out]; omega, by go_num, by rw [TS.out]; rfl, rfl⟩, rfl⟩)))
              | false =>
                by_cases ey : y = yy
                · subst ey
                  have ee : (y == y) = true := by simp
                  go_wp2_with fail
                  go_quiet (fail)
                  go_wp2
                  first | exact ⟨⟨t + 1, d + nq, by rw [HL.out]; omega, by go_num, by rw [TS.out]; simp, rfl⟩, by simp [intOf]; omega⟩ | (refine ⟨?rel2, ?meas2⟩; (case meas2 => (simp [intOf]; omega)); (case rel2 => ((repeat apply Exists.intro); exact ⟨⟨t + 1, d + nq, by rw [HL.out]; omega, by go_num, by rw [TS.out]; simp, rfl⟩, rfl⟩)))
                · have ee : (y == yy) = false := by simpa using ey
                  have TS2 := Lib.hid (TS.out.trans (show (false || decide (y = yy)) = false by rw [decide_eq_false ey]; rfl))
                  clear ey
                  go_wp2_with fail
                  go_quiet (fail)
                  go_wp2
                  first | exact ⟨⟨t + 1, d + nq, by rw [HL.out]; omega, by go_num, by rw [TS2.out], rfl⟩, by simp [intOf]; omega⟩ | (refine ⟨?rel2, ?meas2⟩; (case meas2 => (simp [intOf]; omega)); (case rel2 => ((repeat apply Exists.intro); exact ⟨⟨t + 1, d + nq, by rw [HL.out]; omega, by go_num, by rw [TS2.out], rfl⟩, rfl⟩)))
            · obtain rfl : t = l := by omega
              rw [show wl.take t = wl by rw [← HL.out, List.take_length]]
              obtain ⟨W2, eW2⟩ : ∃ W2, Vw.drewN d = W2 := ⟨_, rfl⟩
              have kd : Keep (fun _ => False) Vw W2 := by rw [← eW2]; exact drewN_keep _ _ d
              rw [eW2]
              have b0 := kd.cell b0 id
              have b1 := kd.cell b1 id
              have b2 := kd.cell b2 id
              have b3' := kd.cell b3' id
              have b4 := kd.cell b4 id
              have b5 := kd.cell b5 id
              have b6 := kd.cell b6 id
              have b7 := kd.cell b7 id
              have b8 := kd.cell b8 id
              have c6 := kd.cell C6.out id
              have KVW := KV.out.trans kd
              have o2 := OwnB.keep OW.out KVW (fun _ _ => id)
              rw [HL.out] at o2
              have OW2 := Lib.hid o2
              have KW2 := Lib.hid (KQW.out.trans KVW)
              clear eW2 kd KVW o2
              obtain ⟨o, ho⟩ : ∃ r, decide (yy ∈ wl) = r := ⟨_, rfl⟩
              rw [ho]
              obtain ⟨wz, hwz⟩ : ∃ r, writesI (⟨yk, yy, yh, yv⟩, ⟨re, rv, rp, ro, rr⟩) = r := ⟨_, rfl⟩
              have WZ := Lib.hid (WA.out wz hwz)
              have HG3 := HG2.out
              rw [hwz] at HG3
              by_cases hk : yk = 1
              · subst hk
                obtain rfl : false = wz := by rw [← hwz]; unfold writesI; simp
                rw [if_neg (by simp : ¬ false = true)] at HG3
                by_cases he : re = 0
                · subst he
                  cases o with
                  | true =>
                    have NX := Lib.hid (show repGo V wl (cs.drop (q + 1)) = R by rw [if_neg (fun c => c.2.2.1 (of_decide_eq_true ho))] at HG3; exact HG3)
                    clear HG3 ho hwz
                    go_wp2_with fail; refine (WZ.out _).mono ?_; rintro e9 w9 ⟨rfl, k9⟩; clear b0 b1 b2 b3' b4 b5 b6 b7 b8; go_wp2; first | exact ⟨⟨q + 1, wl, by rw [HM.out]; omega, by go_num, by rw [HL.out]; omega, OwnB.keep OW2.out k9 (fun _ _ => id), KW2.out.trans k9, NX.out⟩, by simp [intOf]; omega⟩ | (refine ⟨?rel2, ?meas2⟩; (case meas2 => (simp [intOf]; omega)); (case rel2 => ((repeat apply Exists.intro); exact ⟨⟨q + 1, wl, by rw [HM.out]; omega, by go_num, by rw [HL.out]; omega, OwnB.keep OW2.out k9 (fun _ _ => id), KW2.out.trans k9, NX.out⟩, rfl⟩)))
                  | false =>
                    obtain ⟨f, hf⟩ : ∃ f, findP V yy = f := ⟨_, rfl⟩
                    have FDI := FD.out W2 KW2.out f hf
                    rw [hf] at HG3
                    cases f with
                    | none =>
                      obtain rfl : false = R := by rw [if_pos ⟨rfl, rfl, of_decide_eq_false ho, by simp⟩] at HG3; exact HG3
                      simp only [Option.getD_none, Option.isSome_none] at FDI
                      clear HG3 ho hwz hf
                      go_wp2_with fail; refine FDI.mono ?_; rintro e9 w9 ⟨rfl, hw⟩; rw [hw]; clear hw FDI
                      go_wp2
                      go_ret
                      exact ⟨rfl, KW.out.trans KW2.out⟩
                    | some v0 =>
                      simp only [Option.getD_some, Option.isSome_some] at FDI
                      by_cases hv : v0 = rv
                      · subst hv
                        have NX := Lib.hid (show repGo V wl (cs.drop (q + 1)) = R by rw [if_neg (fun c => c.2.2.2 rfl)] at HG3; exact HG3)
                        have n0 : (v0 != v0) = false := by simp
                        clear HG3 ho hwz hf
                        go_wp2_with fail; refine FDI.mono ?_; rintro e9 w9 ⟨rfl, hw⟩; rw [hw]; clear hw FDI
                        go_wp2_with fail; refine (WZ.out _).mono ?_; rintro e9 w9 ⟨rfl, k9⟩; clear b0 b1 b2 b3' b4 b5 b6 b7 b8; go_wp2; first | exact ⟨⟨q + 1, wl, by rw [HM.out]; omega, by go_num, by rw [HL.out]; omega, OwnB.keep OW2.out k9 (fun _ _ => id), KW2.out.trans k9, NX.out⟩, by simp [intOf]; omega⟩ | (refine ⟨?rel2, ?meas2⟩; (case meas2 => (simp [intOf]; omega)); (case rel2 => ((repeat apply Exists.intro); exact ⟨⟨q + 1, wl, by rw [HM.out]; omega, by go_num, by rw [HL.out]; omega, OwnB.keep OW2.out k9 (fun _ _ => id), KW2.out.trans k9, NX.out⟩, rfl⟩)))
                      · obtain rfl : false = R := by rw [if_pos ⟨rfl, rfl, of_decide_eq_false ho, fun c => hv (Option.some.inj c)⟩] at HG3; exact HG3
                        have n0 : (v0 != rv) = true := by simpa using hv
                        clear HG3 ho hwz hf hv
                        go_wp2_with fail; refine FDI.mono ?_; rintro e9 w9 ⟨rfl, hw⟩; rw [hw]; clear hw FDI
                        go_wp2
                        go_ret
                        exact ⟨rfl, KW.out.trans KW2.out⟩
                · have NX := Lib.hid (show repGo V wl (cs.drop (q + 1)) = R by rw [if_neg (fun c => he c.2.1)] at HG3; exact HG3)
                  have n0 : (re == 0) = false := by simpa using he
                  clear HG3 ho hwz he
                  go_wp2_with fail; refine (WZ.out _).mono ?_; rintro e9 w9 ⟨rfl, k9⟩; clear b0 b1 b2 b3' b4 b5 b6 b7 b8; go_wp2; first | exact ⟨⟨q + 1, wl, by rw [HM.out]; omega, by go_num, by rw [HL.out]; omega, OwnB.keep OW2.out k9 (fun _ _ => id), KW2.out.trans k9, NX.out⟩, by simp [intOf]; omega⟩ | (refine ⟨?rel2, ?meas2⟩; (case meas2 => (simp [intOf]; omega)); (case rel2 => ((repeat apply Exists.intro); exact ⟨⟨q + 1, wl, by rw [HM.out]; omega, by go_num, by rw [HL.out]; omega, OwnB.keep OW2.out k9 (fun _ _ => id), KW2.out.trans k9, NX.out⟩, rfl⟩)))
              · rw [if_neg (fun c => hk c.1)] at HG3
                have n0 : (yk == 1) = false := by simpa using hk
                cases wz with
                | false =>
                  have NX := Lib.hid (show repGo V wl (cs.drop (q + 1)) = R by rw [if_neg (by simp)] at HG3; exact HG3)
                  clear HG3 ho hwz hk
                  go_wp2_with fail; refine (WZ.out _).mono ?_; rintro e9 w9 ⟨rfl, k9⟩; clear b0 b1 b2 b3' b4 b5 b6 b7 b8; go_wp2; first | exact ⟨⟨q + 1, wl, by rw [HM.out]; omega, by go_num, by rw [HL.out]; omega, OwnB.keep OW2.out k9 (fun _ _ => id), KW2.out.trans k9, NX.out⟩, by simp [intOf]; omega⟩ | (refine ⟨?rel2, ?meas2⟩; (case meas2 => (simp [intOf]; omega)); (case rel2 => ((repeat apply Exists.intro); exact ⟨⟨q + 1, wl, by rw [HM.out]; omega, by go_num, by rw [HL.out]; omega, OwnB.keep OW2.out k9 (fun _ _ => id), KW2.out.trans k9, NX.out⟩, rfl⟩)))
                | true =>
                  have NX := Lib.hid (show repGo V (wl ++ [yy]) (cs.drop (q + 1)) = R by rw [if_pos rfl] at HG3; exact HG3)
                  clear HG3 ho hwz hk
                  go_wp2_with fail; refine (WZ.out _).mono ?_; rintro e9 w9 ⟨rfl, k9⟩
                  have e1 := k9.cell b1 id
                  clear b0 b1 b2 b3' b4 b5 b6 b7 b8
                  have O9 := Lib.hid (OwnB.keep OW2.out k9 (fun _ _ => id))
                  have K9 := Lib.hid (KW2.out.trans k9)
                  go_wp2_with (with_reducible refine wp_stop 112 rfl ?_)
                  intro _
                  refine wp_appM Try.underlying96 info_in rfl (by decide) (by decide) inF_len (fun x _ => inF_one x) rfl (.tmp 107) (.tmp 111) rfl (B := W.heap.size) (by have := K9.out.size; simp; omega) rfl (OwnB.keep O9.out ((Keep.refl (fun _ => False) w9).alloc _) (fun _ _ => id)) rfl (Lies.one inF_len (by decide) w9 yy _) (by simp [HL.out]; omega) ?_
                  intro v10 w10 o10 k10
                  have kw10 : Keep (fun _ => False) W w10 := Keep.older (K9.out.trans ((Keep.refl (fun _ => False) w9).alloc _)) k10 (fun j hj => (OwnB.lt O9.out hj).1)
                  have O10 := Lib.hid o10
                  have K10 := Lib.hid kw10
                  clear o10 k10 kw10
                  go_wp2
                  first | exact ⟨⟨q + 1, wl ++ [yy], by rw [HM.out]; omega, by go_num, by rw [List.length_append, HL.out]; simp; omega, O10.out, K10.out, NX.out⟩, by simp [intOf]; omega⟩ | (refine ⟨?rel2, ?meas2⟩; (case meas2 => (simp [intOf]; omega)); (case rel2 => ((repeat apply Exists.intro); exact ⟨⟨q + 1, wl ++ [yy], by rw [HM.out]; omega, by go_num, by rw [List.length_append, HL.out]; simp; omega, O10.out, K10.out, NX.out⟩, rfl⟩)))
        · obtain rfl : q = m := by omega
          rw [show cs.drop q = [] by rw [← HM.out, List.drop_length]] at hg
          obtain rfl : true = R := hg
          have KQ := Lib.hid (KW.out.trans kq)
          clear ow kq
          go_wp2
          go_ret
          exact ⟨rfl, KQ.out⟩
end
end Go.Proofs.Ytalkfnblnlcklaa
