/- Several texts, one behind the other: AxT, AxR, AxH. -/
import Derived.Test.YtalkfnblnlcklaaModelBaseDZae
import Derived.Deep.QuietTactic
import Derived.BigQuiet
import Derived.OwnWalk
/- vinculumref20's state and State: what is there at a time. Condition: Deals that are not too many. -/
namespace Go.Proofs.Ytalkfnblnlcklaa
open Go.ChangeShapes Go.WideShapes Go.ChangeAt Go.RowKit
set_option linter.unusedVariables false
set_option linter.unusedSimpArgs false
abbrev OBo (w : World) (v : Value) (tk : List Bool) : Prop := Own Value.bool 4 w v tk
theorem infoBo : (Try.prog.info? 4).map (fun i => (i.zero, i.size, i.bytes)) = some (some (.bool false), 1, 1) := by kernel_rfl
theorem madeBo {w : World} {base g n : Nat} (h : w.ownsRow base 4 1 (.slice (some ⟨g, 0, none⟩) n n) n (madeCells #[.bool false] n).toList) : OBo w (.slice (some ⟨g, 0, none⟩) n n) (List.replicate n false) := by
 have e : (madeCells #[.bool false] n).toList = List.replicate n (.bool false) := toList_madeCells_one _ _
 rw [e] at h
 exact Own.of_base h (by simp) (by simp)
def sumU (ds : List DlI) (tk : List Bool) : Nat := ((ds.zip tk).map fun p => if p.2 = true then 0 else p.1.ops.length).sum
theorem sumU_mark {ds : List DlI} {tk : List Bool} {k : Nat} (hk : tk[k]? = some false) (hd : k < ds.length) : sumU ds (tk.set k true) + (opsP ds k).length = sumU ds tk := by
  induction ds generalizing tk k with
  | nil => cases hd
  | cons d ds ih =>
    cases tk with
    | nil => cases hk
    | cons b tk =>
      cases k with
      | zero =>
        simp at hk
        subst hk
        simp [sumU, opsP]
        omega
      | succ k =>
        have := ih (tk := tk) (k := k) (by simpa using hk) (by simpa using hd)
        have e : opsP (d :: ds) (k + 1) = opsP ds k := by unfold opsP; rw [List.getElem?_cons_succ]
        rw [e]
        unfold sumU at this ⊢
        simp only [List.set_cons_succ, List.zip_cons_cons, List.map_cons, List.sum_cons]
        omega
theorem sumU_new (ds : List DlI) : sumU ds (List.replicate ds.length false) = (ds.map fun d => d.ops.length).sum := by
  induction ds with
  | nil => rfl
  | cons d ds ih =>
    unfold sumU at ih ⊢
    simp only [List.length_cons, List.replicate_succ, List.zip_cons_cons, List.map_cons, List.sum_cons]
    rw [ih]
    rfl
theorem stL_len (ds : List DlI) (t but : Int) (f : Nat) (tk : List Bool) (out : List (Int × Int)) (hl : tk.length = ds.length) : (stL ds t but f tk out).length ≤ out.length + sumU ds tk := by
  induction f generalizing tk out with
  | zero => exact Nat.le_add_right _ _
  | succ f ih =>
    cases h : pickP ds t but tk ds.length with
    | none => rw [stL_none h (by omega)]; omega
    | some k =>
      obtain ⟨_, a, b⟩ := pick_some h
      have e : tk[k]? = some false := by
        rw [List.getD_eq_getElem?_getD, List.getElem?_eq_getElem (by omega)] at b
        rw [List.getElem?_eq_getElem (by omega)]
        exact congrArg some b
      have s := sumU_mark e a
      rw [stL_some h]
      have := ih (tk.set k true) ((opsP ds k).foldl laidP out) (by rw [List.length_set]; exact hl)
      have := fold_len (opsP ds k) out
      omega
theorem state_len (ds : List DlI) (t but : Int) : (stateP ds t but).length ≤ (ds.map fun d => d.ops.length).sum := by
 have := stL_len ds t but (ds.length + 1) (List.replicate ds.length false) [] (by simp)
 rw [sumU_new] at this
 unfold stateP
 simpa using this
def kI : Option Nat → Int
 | none => -1
 | some k => k
/-- While the next one is looked for. -/
def PkK (ds : List DlI) (t but : Int) (tk : List Bool) (wA : World) (k i : Value) (wr : World) : Prop := ∃ j d : Nat, j ≤ ds.length ∧ i = .int .i64 j ∧ k = .int .i64 (kI (pickP ds t but tk j)) ∧ wr = wA.drewN d
/-- While one's calls are laid over. -/
def LdK (cs : List (OpI × ReI)) (out : List (Int × Int)) (B : Nat) (wB : World) (o i : Value) (wr : World) : Prop := ∃ j : Nat, j ≤ cs.length ∧ i = .int .i64 j ∧ OPr B wr o ((cs.take j).foldl laidP out) ∧ Keep (fun _ => False) wB wr
/-- Between two transactions. -/
def StK (ds : List DlI) (t but : Int) (R : List (Int × Int)) (w : World) (g n f : Nat) (o : Value) (wr : World) : Prop :=
 ∃ (tk : List Bool) (out : List (Int × Int)), tk.length = n ∧ OBo wr (.slice (some ⟨g, 0, none⟩) n n) tk ∧ w.heap.size ≤ g ∧ g < wr.heap.size ∧ OPr (g + 1) wr o out ∧ Keep (fun _ => False) w wr ∧ tk.count false < f ∧ stL ds t but f tk out = R ∧ out.length + sumU ds tk ≤ 40000
section
variable {w w' : World} {v : Value} {ds : List DlI}
set_option maxRecDepth 100000 in
set_option maxHeartbeats 8000000 in
theorem state_any (h : DealsIn w v ds) (hb : DlB ds) (t but : Int) (ht : 0 ≤ t ∧ t ≤ 18446744073709551615) (R : List (Int × Int)) (hR : stateP ds t but = R) :
    Calls Try.prog 27 #[v, .int .u64 t, .int .i64 but] w (SeenPr w R) := by
  obtain ⟨A, c, rfl, hc, hm, hf⟩ := h.form
  obtain ⟨n, hn⟩ : ∃ n, ds.length = n := ⟨_, rfl⟩
  have nb := hb.n
  have sb := hb.o
  rw [← sumU_new] at sb
  rw [hn] at hc hf h nb sb ⊢
  unfold stateP at hR
  rw [hn] at hR
  have HH := Lib.hid h
  have HF := Lib.hid hf
  have HN := Lib.hid hn
  have HB := Lib.hid hb
  have HR := Lib.hid hR
  have SB := Lib.hid sb
  clear h hf hn hb hR sb
  obtain ⟨i0, hi, hz0, hz1, hz2⟩ := info_parts infoBo
  unfold SeenPr
  go_enter Try.func27, Try.ntmps27
  go_wp2_with (with_reducible refine wpList_make_full _ rfl (.tmp 13) (.tmp 13) 102 rfl w.heap.size 4 i0 (.bool false) 1 Try.underlying102 hi hz0 hz1 .i64 .i64 (n : Int) (n : Int) n rfl rfl rfl rfl (by rw [hz2]; omega) (by unfold maxLen; omega) (Nat.le_refl _) ?_)
  intro x1 o1 gr1
  have o1 := madeBo o1
  have k1 : Keep (fun _ => False) w x1 := ⟨gr1.os, gr1.tape, gr1.output, gr1.size, fun k hk _ => gr1.block k hk (by simp)⟩
  have S1 := Lib.hid (show StK ds t but R w w.heap.size n (n + 1) (.slice none 0 0) x1 from ⟨_, [], by simp, o1, Nat.le_refl _, Own.lt o1 rfl, OwnB.nil, k1, by simp, HR.out, by have := SB.out; show 0 + _ ≤ 40000; omega⟩)
  obtain ⟨g, eg⟩ : ∃ g, w.heap.size = g := ⟨_, rfl⟩
  rw [eg] at S1 ⊢
  clear o1 gr1 k1 hi hz0 hz1 hz2 eg
  go_wp2
  go_loopg [7] (n + 1) (fun f o wr => StK ds t but R w g n f o wr)
  case atStart => exact S1.out
  case round =>
    obtain ⟨tk, out, tl, ob, gw, gl, lo, kW, cf, hst, bd⟩ := hrel
    clear S1
    obtain ⟨W, eW⟩ : ∃ W, wr = W := ⟨_, rfl⟩
    rw [eW] at ob gl lo kW ⊢
    clear eW
    have OB := Lib.hid ob
    have LO := Lib.hid lo
    have KW := Lib.hid kW
    have CF := Lib.hid cf
    have HS := Lib.hid hst
    have BD := Lib.hid bd
    have TL := Lib.hid tl
    have fz := fun i => Own.free ob i
    clear ob lo kW cf hst bd tl
    go_wp2
    go_loopw [9, 10] (PkK ds t but tk W) (fun _ i _ => n - (intOf i).toNat)
    case atStart => exact ⟨0, 0, Nat.zero_le _, rfl, rfl, rfl⟩
    case round =>
      obtain ⟨j, d, hj, rfl, rfl, rfl⟩ := hrel
      rw [HN.out] at hj
      by_cases hlt : j < n
      · obtain ⟨x, hx⟩ : ∃ x, ds[j]? = some x := ⟨_, List.getElem?_eq_getElem (by rw [HN.out]; exact hlt)⟩
        obtain ⟨b, off, rfl, hcc⟩ := HF.out (by omega)
        obtain ⟨A2, c2, L2, d0, d1, d2, d3, d4, d5⟩ := hcc j x hx
        have wj : IntKind.i64.wrap ((j : Int) + 1) = (j : Int) + 1 := IntWalk.i64_in _ (by unfold maxLen at hm; omega)
        have e2 := KW.out.cell d2 id
        have e4 := KW.out.cell d4 id
        have tb : W.cell? ⟨g, j, none⟩ = some (.bool (tk.getD j false)) := by
          have hjt : j < tk.length := by rw [TL.out]; exact hlt
          rw [Own.cell OB.out j hjt, List.getD_eq_getElem?_getD, List.getElem?_eq_getElem hjt]
          rfl
        obtain ⟨K, hK⟩ : ∃ K, pickP ds t but tk j = K := ⟨_, rfl⟩
        have step : ∀ r, candP ds t but tk K j = r → pickP ds t but tk (j + 1) = if r = true then some j else K := fun r hr => by
          show (if candP ds t but tk (pickP ds t but tk j) j = true then some j else pickP ds t but tk j) = _
          rw [hK, hr]
        have ST := Lib.hid step
        have hcand := cand_at (t := t) (but := but) (tk := tk) (K := K) hx
        have HKK := Lib.hid hK
        have HCC := Lib.hid hcc
        rw [hK]
        obtain ⟨xi, xl, xs, xb, xe, xo⟩ := x
        dsimp only at e2 e4 hcand
        have HC := Lib.hid hcand
        clear hx L2 d0 d1 d2 d3 d4 d5 step hcand hcc hK
        have no : candP ds t but tk K j = false → ∀ nq, PkK ds t but tk W (.int .i64 (kI K)) (.int .i64 ((j : Int) + 1)) (W.drewN nq) := fun h nq => ⟨j + 1, nq, by rw [HN.out]; omega, by go_num, by rw [ST.out _ h]; rfl, rfl⟩
        have NO := Lib.hid no
        clear no
        by_cases s3 : xs = 3
        · subst s3
          by_cases sb : (j : Int) = but
          · have nb2 : ((j : Int) != but) = false := by simpa using sb
            (have hc := Lib.hid (HC.out.trans (show _ = false by simp [sb]))); clear sb; go_wp2_with fail; go_quiet (fail); go_wp2; (first | exact ⟨NO.out hc.out _, by simp [intOf]; omega⟩ | (refine ⟨?rel2, ?meas2⟩; (case meas2 => (simp [intOf]; omega)); (case rel2 => exact NO.out hc.out _)))
          · have nb2 : ((j : Int) != but) = true := by simpa using sb
            obtain ⟨tb2, htb⟩ : ∃ b, tk.getD j false = b := ⟨_, rfl⟩
            rw [htb] at tb
            have HT := Lib.hid htb
            clear htb
            cases tb2 with
            | true => (have hc := Lib.hid (HC.out.trans (show _ = false by (rw [HT.out]; simp)))); skip; go_wp2_with fail; go_quiet (fail); go_wp2; (first | exact ⟨NO.out hc.out _, by simp [intOf]; omega⟩ | (refine ⟨?rel2, ?meas2⟩; (case meas2 => (simp [intOf]; omega)); (case rel2 => exact NO.out hc.out _)))
            | false =>
              by_cases sl : xe ≤ t
              · have dl : decide (xe ≤ t) = true := decide_eq_true sl
                cases K with
                | none =>
                  have YES := Lib.hid (ST.out true (by rw [HC.out, HT.out]; simp [sb, sl, betP]))
                  have m1 : kI none = -1 := rfl
                  rw [m1]
                  go_wp2_with fail
                  go_quiet (fail)
                  go_wp2
                  first | exact ⟨⟨j + 1, d + nq, by rw [HN.out]; omega, by go_num, by rw [YES.out]; rfl, rfl⟩, by simp [intOf]; omega⟩ | (refine ⟨?rel2, ?meas2⟩; (case meas2 => (simp [intOf]; omega)); (case rel2 => ((repeat apply Exists.intro); exact ⟨⟨j + 1, d + nq, by rw [HN.out]; omega, by go_num, by rw [YES.out]; rfl, rfl⟩, rfl⟩)))
                | some i =>
                  obtain ⟨il, _, _⟩ := pick_some HKK.out
                  obtain ⟨y, hy⟩ : ∃ y, ds[i]? = some y := ⟨_, List.getElem?_eq_getElem (by rw [HN.out]; omega)⟩
                  obtain ⟨_, _, _, _, _, _, _, d4, _⟩ := HCC.out i y hy
                  have y4 := KW.out.cell d4 id
                  have hbt := bet_some (s := xe) hy
                  obtain ⟨yi, yl, ys, yb, ye, yo⟩ := y
                  dsimp only at y4 hbt
                  have HBT := Lib.hid hbt
                  have m1 : kI (some i) = (i : Int) := rfl
                  have iz : ((i : Int) < 0) = False := by simp
                  rw [m1]
                  clear hy d4 hbt
                  by_cases se : xe < ye
                  · have de : decide (xe < ye) = true := decide_eq_true se
                    have YES := Lib.hid (ST.out true (by rw [HC.out, HT.out, HBT.out]; simp [sb, sl, se]))
                    go_wp2_with fail
                    go_quiet (fail)
                    go_wp2
                    first | exact ⟨⟨j + 1, d + nq, by rw [HN.out]; omega, by go_num, by rw [YES.out]; rfl, rfl⟩, by simp [intOf]; omega⟩ | (refine ⟨?rel2, ?meas2⟩; (case meas2 => (simp [intOf]; omega)); (case rel2 => ((repeat apply Exists.intro); exact ⟨⟨j + 1, d + nq, by rw [HN.out]; omega, by go_num, by rw [YES.out]; rfl, rfl⟩, rfl⟩)))
                  · have de : decide (xe < ye) = false := decide_eq_false se
                    (have hc := Lib.hid (HC.out.trans (show _ = false by (rw [HT.out, HBT.out]; simp [se])))); clear se; go_wp2_with fail; go_quiet (fail); go_wp2; (first | exact ⟨NO.out hc.out _, by simp [intOf]; omega⟩ | (refine ⟨?rel2, ?meas2⟩; (case meas2 => (simp [intOf]; omega)); (case rel2 => exact NO.out hc.out _)))
              · have dl : decide (xe ≤ t) = false := decide_eq_false sl
                (have hc := Lib.hid (HC.out.trans (show _ = false by simp [sl]))); clear sl; go_wp2_with fail; go_quiet (fail); go_wp2; (first | exact ⟨NO.out hc.out _, by simp [intOf]; omega⟩ | (refine ⟨?rel2, ?meas2⟩; (case meas2 => (simp [intOf]; omega)); (case rel2 => exact NO.out hc.out _)))
        · have n3 : (xs == 3) = false := by simpa using s3
          (have hc := Lib.hid (HC.out.trans (show _ = false by simp [s3]))); clear s3; go_wp2_with fail; go_quiet (fail); go_wp2; (first | exact ⟨NO.out hc.out _, by simp [intOf]; omega⟩ | (refine ⟨?rel2, ?meas2⟩; (case meas2 => (simp [intOf]; omega)); (case rel2 => exact NO.out hc.out _)))
      · obtain rfl : j = n := by omega
        obtain ⟨K, hK⟩ : ∃ K, pickP ds t but tk j = K := ⟨_, rfl⟩
        rw [hK]
        have hKn : pickP ds t but tk ds.length = K := by rw [HN.out]; exact hK
        have HK := Lib.hid hKn
        clear hK hKn
        cases K with
        | none =>
          have m1 : kI none = -1 := rfl
          have e := stL_none (f := gk) (out := out) HK.out (by have := CF.out; omega)
          have L9 := Lib.hid (show LPr (W.drewN d) u7 R by rw [← HS.out, e]; exact (OwnB.lies prI_len LO.out).keep (drewN_keep _ _ d))
          rw [m1]
          clear e
          go_wp2
          go_ret
          exact ⟨u7, rfl, L9.out, KW.out.trans (drewN_keep _ _ d)⟩
        | some i =>
          obtain ⟨_, il, it⟩ := pick_some HK.out
          obtain ⟨x, hx⟩ : ∃ x, ds[i]? = some x := ⟨_, List.getElem?_eq_getElem il⟩
          have hil : i < j := by rw [← HN.out]; exact il
          have itl : i < tk.length := by rw [TL.out]; exact hil
          have tk0 : tk[i]? = some false := by
            rw [List.getD_eq_getElem?_getD, List.getElem?_eq_getElem itl] at it
            rw [List.getElem?_eq_getElem itl]
            exact congrArg some it
          have ops : opsP ds i = x.ops := by unfold opsP; rw [hx]
          have hst := HS.out
          obtain ⟨f, rfl⟩ : ∃ f, gk = f + 1 := ⟨gk - 1, by have := CF.out; omega⟩
          rw [stL_some HK.out, ops] at hst
          have cm := count_mark tk0
          have su := sumU_mark tk0 il
          rw [ops] at su
          have cfo := CF.out
          have bdo := BD.out
          obtain ⟨b, off, rfl, hcc⟩ := HF.out (by omega)
          obtain ⟨A2, c2, L2, d0, d1, d2, d3, d4, d5⟩ := hcc i x hx
          have o2 := Own.set (OB.out.keep (drewN_keep (fun _ => False) W d) (fun _ _ => id)) i true
          have k2 := ((drewN_keep (fun g' => g' = g) W d).trans ((Keep.refl (fun g' => g' = g) (W.drewN d)).setCell (p := ⟨g, i, none⟩) rfl (.bool true)))
          obtain ⟨W2, eW2⟩ : ∃ W2, (W.drewN d).setCell ⟨g, i, none⟩ (.bool true) = W2 := ⟨_, rfl⟩
          have tb := Own.cell OB.out i itl
          rw [eW2] at o2 k2
          have kw2 : Keep (fun _ => False) w W2 := KW.out.older k2 (fun j hj => by rw [hj]; exact gw)
          have lo2 : OPr (g + 1) W2 u7 out := LO.out.keep k2 (fun g' hg' c => by have := (OwnB.lt LO.out hg').1; omega)
          have e5 := kw2.cell d5 id
          have L2' := L2.keep kw2
          have O2 := Lib.hid o2
          have KW2 := Lib.hid kw2
          have LO2 := Lib.hid lo2
          have HST := Lib.hid hst
          have g2 : g < W2.heap.size := Nat.lt_of_lt_of_le gl k2.size
          obtain ⟨A3, c3, e3, h31, h32, hF⟩ := L2'.form
          cases e3
          obtain ⟨m, hm2⟩ : ∃ m, x.ops.length = m := ⟨_, rfl⟩
          have HM := Lib.hid hm2
          have HFF := Lib.hid hF
          have mb : m ≤ 40000 := by omega
          rw [hm2] at e5 h31
          have m1 : kI (some i) = (i : Int) := rfl
          have iz : ((i : Int) < 0) = False := by simp
          rw [m1]
          clear hst o2 k2 kw2 lo2 hcc d0 d1 d2 d3 d4 d5 L2 L2' hF
          go_wp2
          go_loopw [7, 11] (LdK x.ops out (g + 1) W2) (fun _ i _ => m - (intOf i).toNat)
          case atStart => exact ⟨0, Nat.zero_le _, rfl, LO2.out, Keep.refl _ _⟩
          case round =>
            obtain ⟨q, hq, rfl, oq, kq⟩ := hrel
            rw [HM.out] at hq
            have e6 := kq.cell e5 id
            have fl := fold_len (x.ops.take q) out
            rw [List.length_take, HM.out] at fl
            have OQ := Lib.hid oq
            have KQ := Lib.hid kq
            clear oq kq
            by_cases hqm : q < m
            · obtain ⟨y, hy⟩ : ∃ y, x.ops[q]? = some y := ⟨_, List.getElem?_eq_getElem (by rw [HM.out]; exact hqm)⟩
              obtain ⟨b3, off3, rfl, hcc⟩ := HFF.out (by rw [HM.out]; omega)
              obtain ⟨A4, c4, L4, p0, p1, p2, p3, p4, p5, p6, p7, p8⟩ := hcc q y hy
              have fs : (x.ops.take (q + 1)).foldl laidP out = laidP ((x.ops.take q).foldl laidP out) y := by rw [List.take_add_one, hy, List.foldl_append]; rfl
              have r0 := KQ.out.cell p0 id
              have r1 := KQ.out.cell p1 id
              have r2 := KQ.out.cell p2 id
              have r3 := KQ.out.cell p3 id
              have r4 := KQ.out.cell p4 id
              have r5 := KQ.out.cell p5 id
              have r6 := KQ.out.cell p6 id
              have r7 := KQ.out.cell p7 id
              have r8 := KQ.out.cell p8 id
              have FS := Lib.hid fs
              obtain ⟨P, eP⟩ : ∃ P, (x.ops.take q).foldl laidP out = P := ⟨_, rfl⟩
              rw [eP] at FS OQ fl
              have LA := laid_any (OwnB.lies prI_len OQ.out) (by omega) y (A := A4) (q := y.2.pairs.length) (q' := c4)
              have wq : IntKind.i64.wrap ((q : Int) + 1) = (q : Int) + 1 := IntWalk.i64_in _ (by omega)
              unfold clV at LA
              obtain ⟨⟨yk, yy, yh, yv⟩, ⟨re, rv, rp, ro, rr⟩⟩ := y
              dsimp only at LA r0 r1 r2 r3 r4 r5 r6 r7 r8
              clear hy L4 p0 p1 p2 p3 p4 p5 p6 p7 p8 hcc fs eP
              go_wp2_with fail
              refine LA.mono ?_
              rintro e9 w9 ⟨u9, rfl, l9, o9, k9⟩
              have O9 := Lib.hid (o9 (g + 1) (by have := KQ.out.size; omega) OQ.out)
              have K9 := Lib.hid (KQ.out.trans k9)
              clear LA l9 o9 k9
              go_wp2
              first | exact ⟨⟨q + 1, by rw [HM.out]; omega, by go_num, by rw [FS.out]; exact O9.out, K9.out⟩, by simp [intOf]; omega⟩ | (refine ⟨?rel2, ?meas2⟩; (case meas2 => (simp [intOf]; omega)); (case rel2 => ((repeat apply Exists.intro); exact ⟨⟨q + 1, by rw [HM.out]; omega, by go_num, by rw [FS.out]; exact O9.out, K9.out⟩, rfl⟩)))
            · obtain rfl : q = m := by omega
              have oq := OQ.out
              rw [show x.ops.take q = x.ops by rw [← HM.out, List.take_length]] at oq
              have fin : StK ds t but R w g j f u7 wr := ⟨tk.set i true, x.ops.foldl laidP out, by rw [List.length_set]; exact TL.out, O2.out.keep KQ.out (fun _ _ => id), gw, Nat.lt_of_lt_of_le g2 KQ.out.size, oq, KW2.out.trans KQ.out, by omega, HST.out, by have := fold_len x.ops out; rw [HM.out] at this su; omega⟩
              have FIN := Lib.hid fin
              clear oq fin
              go_wp2
              go_roundg f
              case measure => omega
              case rel => exact FIN.out
set_option maxRecDepth 100000 in
theorem State_any (h : DealsIn w v ds) (hb : DlB ds) (t : Int) (ht : 0 ≤ t ∧ t ≤ 18446744073709551615) (R : List (Int × Int)) (hR : stateP ds t (-1) = R) :
  Calls Try.prog 15 #[v, .int .u64 t] w (SeenPr w R) := by
 have HS := state_any h hb t (-1) ht R hR
 unfold SeenPr at HS ⊢
 obtain ⟨A, c, rfl, _⟩ := h.form
 clear h hb hR
 go_enter Try.func15, Try.ntmps15
 go_wp2_with fail
 refine HS.mono ?_
 rintro e w1 ⟨u, rfl, l1, k1⟩
 go_wp2
 go_ret
 exact ⟨u, rfl, l1, k1⟩
end
end Go.Proofs.Ytalkfnblnlcklaa
/- vinculumref1's SamePairs of any two rows; vinculumref20's right: whether a call answered as a view says. Condition: at most 50,000 Pairs. -/
namespace Go.Proofs.Ytalkfnblnlcklaa
open Go.ChangeShapes Go.WideShapes Go.ChangeAt Go.RowKit
set_option linter.unusedVariables false
set_option linter.unusedSimpArgs false
section
variable {w w' : World} {v : Value} {l : List (Int × Int)}
theorem pr_ne (a b c d : Int) (w : World) : (binOp .neq 73 (.agg #[.int .i64 a, .int .i64 b]) (.agg #[.int .i64 c, .int .i64 d])).run Try.prog w = .ok (.bool (decide ((a, b) ≠ (c, d)))) w := by
 by_cases h1 : a = c
 ·by_cases h2 : b = d
  ·subst h1; subst h2; simp [go_sem]
  ·subst h1; simp [go_sem, h2]
 ·simp [go_sem, h1]
def SamK (l1 l2 : List (Int × Int)) (n : Nat) (w : World) (i : Value) (wr : World) : Prop := ∃ k d : Nat, k ≤ n ∧ i = .int .i64 k ∧ wr = w.drewN d ∧ ∀ j, j < k → l1[j]? = l2[j]?
set_option maxRecDepth 100000 in
theorem same_any {v1 v2 : Value} {l1 l2 : List (Int × Int)} (h1 : LPr w v1 l1) (h2 : LPr w v2 l2) (hl : l1.length ≤ 100000) (hl2 : l2.length ≤ 100000) (r : Bool) (hr : decide (l1 = l2) = r) :
  Calls Try.prog 12 #[v1, v2] w fun e w' => e = .returned (.bool r) ∧ ∃ d, w' = w.drewN d := by
 obtain ⟨A1, c1, rfl, hc1, hm1⟩ := h1.form
 obtain ⟨A2, c2, rfl, hc2, hm2⟩ := h2.form
 obtain ⟨n, hn⟩ : ∃ n, l1.length = n := ⟨_, rfl⟩
 obtain ⟨n2, hn2⟩ : ∃ n, l2.length = n := ⟨_, rfl⟩
 have e1 := h1.cells
 have e2 := h2.cells
 rw [hn] at hc1 hl e1 h1 ⊢
 rw [hn2] at hc2 hl2 e2 h2 ⊢
 have E1 := Lib.hid e1
 have E2 := Lib.hid e2
 have HN := Lib.hid hn
 have HN2 := Lib.hid hn2
 have HR := Lib.hid hr
 clear e1 e2 h1 h2 hn hn2 hr
 by_cases hne : n = n2
 ·subst hne
  go_enter Try.func12, Try.ntmps12
  go_wp2
  go_loopw [5] (SamK l1 l2 n w) (fun i _ => n - (intOf i).toNat)
  case atStart => exact ⟨0, 0, Nat.zero_le _, rfl, rfl, fun j hj => absurd hj (Nat.not_lt_zero _)⟩
  case round =>
   obtain ⟨k, d, hk, rfl, rfl, hs⟩ := hrel
   by_cases hlt : k < n
   ·obtain ⟨p, hp⟩ : ∃ p, l1[k]? = some p := ⟨_, List.getElem?_eq_getElem (by rw [HN.out]; exact hlt)⟩
    obtain ⟨q, hq⟩ : ∃ p, l2[k]? = some p := ⟨_, List.getElem?_eq_getElem (by rw [HN2.out]; exact hlt)⟩
    obtain ⟨b1, off1, rfl, _, cc1⟩ := E1.out (by omega)
    obtain ⟨b2, off2, rfl, _, cc2⟩ := E2.out (by omega)
    obtain ⟨c0, c1'⟩ := cc1 k p hp
    obtain ⟨g0, g1'⟩ := cc2 k q hq
    have wk : IntKind.i64.wrap ((k : Int) + 1) = (k : Int) + 1 := IntWalk.i64_in _ (by omega)
    by_cases hpq : p = q
    ·have hs' : ∀ j, j < k + 1 → l1[j]? = l2[j]? := fun j hj => by
      by_cases c : j = k
      ·rw [c, hp, hq, hpq]
      ·exact hs j (by omega)
     have HS := Lib.hid hs'
     subst hpq
     obtain ⟨pk, pv⟩ := p
     have PN : ∀ w, (binOp .neq 73 (.agg #[.int .i64 pk, .int .i64 pv]) (.agg #[.int .i64 pk, .int .i64 pv])).run Try.prog w = .ok (.bool false) w := fun w => by rw [pr_ne, decide_eq_false (by simp)]
     clear hp hq cc1 cc2 hs hs'
     go_wp2_with fail
     go_quiet (fail)
     go_wp2
     exact ⟨⟨k + 1, _, by omega, by go_num, rfl, HS.out⟩, by simp [intOf]; omega⟩
    ·have hf : r = false := by rw [← HR.out]; exact decide_eq_false fun c => hpq (by rw [c, hq] at hp; exact (Option.some.inj hp).symm)
     subst hf
     obtain ⟨pk, pv⟩ := p
     obtain ⟨qk, qv⟩ := q
     have PN : ∀ w, (binOp .neq 73 (.agg #[.int .i64 pk, .int .i64 pv]) (.agg #[.int .i64 qk, .int .i64 qv])).run Try.prog w = .ok (.bool true) w := fun w => by rw [pr_ne, decide_eq_true hpq]
     clear hp hq cc1 cc2 hs hpq
     go_wp2_with fail
     go_quiet (fail)
     go_wp2
     go_ret
     exact ⟨rfl, _, World.drewN_drewN ..⟩
   ·obtain rfl : k = n := by omega
    have hf : r = true := by
     rw [← HR.out]
     refine decide_eq_true (List.ext_getElem? fun j => ?_)
     by_cases c : j < k
     ·exact hs j c
     ·rw [List.getElem?_eq_none (by rw [HN.out]; omega), List.getElem?_eq_none (by rw [HN2.out]; omega)]
    subst hf
    clear hs
    go_wp2
    go_ret
    exact ⟨rfl, d, rfl⟩
 ·have hf : r = false := by
   rw [← HR.out]
   exact decide_eq_false fun c => hne (by rw [← HN.out, ← HN2.out, c])
  subst hf
  have dn : ((n : Int) != n2) = true := by simpa using (show ¬ (n : Int) = n2 by omega)
  go_enter Try.func12, Try.ntmps12
  go_wp2
  go_ret
  exact ⟨rfl, 0, rfl⟩
def FilK (l : List (Int × Int)) (lo hi : Int) (n B : Nat) (w : World) (o i : Value) (wr : World) : Prop := ∃ k : Nat, k ≤ n ∧ i = .int .i64 k ∧ OPr B wr o ((l.take k).filter (inR lo hi)) ∧ Keep (fun _ => False) w wr
theorem fil_succ {lo hi : Int} {k : Nat} {p : Int × Int} (hp : l[k]? = some p) : (l.take (k + 1)).filter (inR lo hi) = (l.take k).filter (inR lo hi) ++ if inR lo hi p = true then [p] else [] := by
 rw [List.take_add_one, hp, List.filter_append]
 simp only [Option.toList_some, List.filter_cons, List.filter_nil]
set_option maxRecDepth 100000 in
set_option maxHeartbeats 4000000 in
theorem right_any (h : LPr w v l) (hlen : l.length ≤ 50000) (c : OpI × ReI) {u : Value} (hu : LPr w u c.2.pairs) (hul : c.2.pairs.length ≤ 50000) (r : Bool) (hr : rightP c l = r) :
    Calls Try.prog 56 #[clV c u, v] w fun e w' => e = .returned (.bool r) ∧ Keep (fun _ => False) w w' := by
  obtain ⟨⟨kind, key, hi, val⟩, ⟨e, va, ps, ov, re⟩⟩ := c
  obtain ⟨Av, cv, rfl, hcv, hmv⟩ := h.form
  obtain ⟨Au, cu, rfl, _, _⟩ := hu.form
  dsimp only at hu hul ⊢
  obtain ⟨W, hW⟩ : ∃ W, w.alloc (.cells #[.int .i64 kind, .int .i64 key, .int .i64 hi, .int .i64 val, .int .i64 e, .int .i64 va, .slice Au ps.length cu, .int .i64 ov, .int .i64 re] 70) = W := ⟨_, rfl⟩
  obtain ⟨N, hN⟩ : ∃ N, w.heap.size = N := ⟨_, rfl⟩
  have kw : Keep (fun _ => False) w W := by rw [← hW]; exact (Keep.refl _ _).alloc _
  have b0 : W.cell? ⟨N, 0, none⟩ = some (.int .i64 kind) := by rw [← hW, ← hN]; simp
  have b1 : W.cell? ⟨N, 1, none⟩ = some (.int .i64 key) := by rw [← hW, ← hN]; simp
  have b2 : W.cell? ⟨N, 2, none⟩ = some (.int .i64 hi) := by rw [← hW, ← hN]; simp
  have b3 : W.cell? ⟨N, 3, none⟩ = some (.int .i64 val) := by rw [← hW, ← hN]; simp
  have b4 : W.cell? ⟨N, 4, none⟩ = some (.int .i64 e) := by rw [← hW, ← hN]; simp
  have b5 : W.cell? ⟨N, 5, none⟩ = some (.int .i64 va) := by rw [← hW, ← hN]; simp
  have b6 : W.cell? ⟨N, 6, none⟩ = some (.slice Au ps.length cu) := by rw [← hW, ← hN]; simp
  have H := Lib.hid (h.keep kw)
  have HU := Lib.hid (hu.keep kw)
  have KW := Lib.hid kw
  obtain ⟨f, hf⟩ : ∃ f, findP l key = f := ⟨_, rfl⟩
  have FD := rfindP_any H.out (by omega) key f hf
  unfold rightP at hr
  dsimp only at hr
  rw [hf] at hr
  clear h hu kw hf
  unfold clV
  dsimp only
  by_cases k1 : kind = 1
  · subst k1
    rw [if_pos rfl] at hr
    go_enter Try.func56, Try.ntmps56
    go_wp2_with fail; refine FD.mono ?_; rintro e2 w2 ⟨rfl, hw⟩; rw [hw]; clear FD hw
    cases f with
    | none => (by_cases h0 : e = 0); (· (subst h0; obtain rfl : _ = r := hr; go_wp2; go_ret; exact ⟨by simp [*], KW.out⟩)); (by_cases h1 : e = 11); (· (subst h1; obtain rfl : _ = r := hr; go_wp2; go_ret; exact ⟨by simp [*], KW.out⟩)); (have d0 : (e == 0) = false := by simpa using h0); (have d0' : (e != 0) = true := by simpa using h0); (have d1 : (e == 11) = false := by simpa using h1); (have d1' : (e != 11) = true := by simpa using h1); obtain rfl : _ = r := hr; go_wp2; go_ret; exact ⟨by simp [*], KW.out⟩
    | some x =>
      by_cases hx : va = x
      · have ex : (va == x) = true := by simpa using hx
        (by_cases h0 : e = 0); (· (subst h0; obtain rfl : _ = r := hr; go_wp2; go_ret; exact ⟨by simp [*], KW.out⟩)); (by_cases h1 : e = 11); (· (subst h1; obtain rfl : _ = r := hr; go_wp2; go_ret; exact ⟨by simp [*], KW.out⟩)); (have d0 : (e == 0) = false := by simpa using h0); (have d0' : (e != 0) = true := by simpa using h0); (have d1 : (e == 11) = false := by simpa using h1); (have d1' : (e != 11) = true := by simpa using h1); obtain rfl : _ = r := hr; go_wp2; go_ret; exact ⟨by simp [*], KW.out⟩
      · have ex : (va == x) = false := by simpa using hx
        (by_cases h0 : e = 0); (· (subst h0; obtain rfl : _ = r := hr; go_wp2; go_ret; exact ⟨by simp [*], KW.out⟩)); (by_cases h1 : e = 11); (· (subst h1; obtain rfl : _ = r := hr; go_wp2; go_ret; exact ⟨by simp [*], KW.out⟩)); (have d0 : (e == 0) = false := by simpa using h0); (have d0' : (e != 0) = true := by simpa using h0); (have d1 : (e == 11) = false := by simpa using h1); (have d1' : (e != 11) = true := by simpa using h1); obtain rfl : _ = r := hr; go_wp2; go_ret; exact ⟨by simp [*], KW.out⟩
  · rw [if_neg k1] at hr
    have n1 : (kind == 1) = false := by simpa using k1
    by_cases k2 : kind = 2
    · subst k2
      rw [if_pos rfl] at hr
      go_enter Try.func56, Try.ntmps56
      go_wp2_with fail; refine FD.mono ?_; rintro e2 w2 ⟨rfl, hw⟩; rw [hw]; clear FD hw
      cases f with
      | none => (by_cases h0 : e = 0); (· (subst h0; obtain rfl : _ = r := hr; go_wp2; go_ret; exact ⟨by simp [*], KW.out⟩)); (by_cases h1 : e = 12); (· (subst h1; obtain rfl : _ = r := hr; go_wp2; go_ret; exact ⟨by simp [*], KW.out⟩)); (have d0 : (e == 0) = false := by simpa using h0); (have d0' : (e != 0) = true := by simpa using h0); (have d1 : (e == 12) = false := by simpa using h1); (have d1' : (e != 12) = true := by simpa using h1); obtain rfl : _ = r := hr; go_wp2; go_ret; exact ⟨by simp [*], KW.out⟩
      | some x => (by_cases h0 : e = 0); (· (subst h0; obtain rfl : _ = r := hr; go_wp2; go_ret; exact ⟨by simp [*], KW.out⟩)); (by_cases h1 : e = 12); (· (subst h1; obtain rfl : _ = r := hr; go_wp2; go_ret; exact ⟨by simp [*], KW.out⟩)); (have d0 : (e == 0) = false := by simpa using h0); (have d0' : (e != 0) = true := by simpa using h0); (have d1 : (e == 12) = false := by simpa using h1); (have d1' : (e != 12) = true := by simpa using h1); obtain rfl : _ = r := hr; go_wp2; go_ret; exact ⟨by simp [*], KW.out⟩
    · rw [if_neg k2] at hr
      have n2 : (kind == 2) = false := by simpa using k2
      by_cases k3 : kind = 3
      · subst k3
        rw [if_pos (.inl rfl)] at hr
        go_enter Try.func56, Try.ntmps56
        go_wp2_with fail; refine FD.mono ?_; rintro e2 w2 ⟨rfl, hw⟩; rw [hw]; clear FD hw
        cases f with
        | none => (by_cases h0 : e = 0); (· (subst h0; obtain rfl : _ = r := hr; go_wp2; go_ret; exact ⟨by simp [*], KW.out⟩)); (by_cases h1 : e = 11); (· (subst h1; obtain rfl : _ = r := hr; go_wp2; go_ret; exact ⟨by simp [*], KW.out⟩)); (have d0 : (e == 0) = false := by simpa using h0); (have d0' : (e != 0) = true := by simpa using h0); (have d1 : (e == 11) = false := by simpa using h1); (have d1' : (e != 11) = true := by simpa using h1); obtain rfl : _ = r := hr; go_wp2; go_ret; exact ⟨by simp [*], KW.out⟩
        | some x => (by_cases h0 : e = 0); (· (subst h0; obtain rfl : _ = r := hr; go_wp2; go_ret; exact ⟨by simp [*], KW.out⟩)); (by_cases h1 : e = 11); (· (subst h1; obtain rfl : _ = r := hr; go_wp2; go_ret; exact ⟨by simp [*], KW.out⟩)); (have d0 : (e == 0) = false := by simpa using h0); (have d0' : (e != 0) = true := by simpa using h0); (have d1 : (e == 11) = false := by simpa using h1); (have d1' : (e != 11) = true := by simpa using h1); obtain rfl : _ = r := hr; go_wp2; go_ret; exact ⟨by simp [*], KW.out⟩
      · have n3 : (kind == 3) = false := by simpa using k3
        by_cases k4 : kind = 4
        · subst k4
          rw [if_pos (.inr rfl)] at hr
          go_enter Try.func56, Try.ntmps56
          go_wp2_with fail; refine FD.mono ?_; rintro e2 w2 ⟨rfl, hw⟩; rw [hw]; clear FD hw
          cases f with
          | none => (by_cases h0 : e = 0); (· (subst h0; obtain rfl : _ = r := hr; go_wp2; go_ret; exact ⟨by simp [*], KW.out⟩)); (by_cases h1 : e = 11); (· (subst h1; obtain rfl : _ = r := hr; go_wp2; go_ret; exact ⟨by simp [*], KW.out⟩)); (have d0 : (e == 0) = false := by simpa using h0); (have d0' : (e != 0) = true := by simpa using h0); (have d1 : (e == 11) = false := by simpa using h1); (have d1' : (e != 11) = true := by simpa using h1); obtain rfl : _ = r := hr; go_wp2; go_ret; exact ⟨by simp [*], KW.out⟩
          | some x => (by_cases h0 : e = 0); (· (subst h0; obtain rfl : _ = r := hr; go_wp2; go_ret; exact ⟨by simp [*], KW.out⟩)); (by_cases h1 : e = 11); (· (subst h1; obtain rfl : _ = r := hr; go_wp2; go_ret; exact ⟨by simp [*], KW.out⟩)); (have d0 : (e == 0) = false := by simpa using h0); (have d0' : (e != 0) = true := by simpa using h0); (have d1 : (e == 11) = false := by simpa using h1); (have d1' : (e != 11) = true := by simpa using h1); obtain rfl : _ = r := hr; go_wp2; go_ret; exact ⟨by simp [*], KW.out⟩
        · have n4 : (kind == 4) = false := by simpa using k4
          rw [if_neg (by omega)] at hr
          by_cases k5 : kind = 5
          · subst k5
            rw [if_pos rfl] at hr
            obtain ⟨n, hn⟩ : ∃ n, l.length = n := ⟨_, rfl⟩
            have cells := LPr.cells H.out
            rw [hn] at hcv hlen cells FD ⊢
            have CE := Lib.hid cells
            have HN := Lib.hid hn
            have HR := Lib.hid hr
            clear cells hn hr
            go_enter Try.func56, Try.ntmps56
            go_wp2_with fail; refine FD.mono ?_; rintro e2 w2 ⟨rfl, hw⟩; rw [hw]; clear FD hw
            go_wp2
            go_loopw [8, 9] (FilK l key hi n W.heap.size W) (fun _ i _ => n - (intOf i).toNat)
            case atStart => exact ⟨0, Nat.zero_le _, rfl, OwnB.nil, Keep.refl _ _⟩
            case round =>
              obtain ⟨k, hk, rfl, ow, kW⟩ := hrel
              by_cases hlt : k < n
              · obtain ⟨p, hp⟩ : ∃ p, l[k]? = some p := ⟨_, List.getElem?_eq_getElem (by rw [HN.out]; exact hlt)⟩
                obtain ⟨b, off, rfl, hb, hcc⟩ := CE.out (by omega)
                obtain ⟨d0, d1⟩ := hcc k p hp
                have wk : IntKind.i64.wrap ((k : Int) + 1) = (k : Int) + 1 := IntWalk.i64_in _ (by unfold maxLen at hmv; omega)
                have FS := fil_succ (lo := key) (hi := hi) hp
                have c1 := kW.cell b1 id
                have c2 := kW.cell b2 id
                have c3 := kW.cell d0 id
                have c4 := kW.cell d1 id
                obtain ⟨pk, pv⟩ := p
                dsimp only at c3 c4
                have FS' := Lib.hid FS
                have OW := Lib.hid ow
                have KWW := Lib.hid kW
                clear hp hcc d0 d1 FS ow kW
                by_cases h1 : key ≤ pk
                · have e1 : decide (key ≤ pk) = true := decide_eq_true h1
                  by_cases h2 : pk ≤ hi
                  · have e2 : decide (pk ≤ hi) = true := decide_eq_true h2
                    have FE := Lib.hid (show (l.take (k + 1)).filter (inR key hi) = (l.take k).filter (inR key hi) ++ [(pk, pv)] by rw [FS'.out, if_pos (by unfold inR; simp [h1, h2])])
                    have L1 : ((l.take k).filter (inR key hi)).length ≤ 50000 := Nat.le_trans (List.length_filter_le _ _) (by rw [List.length_take]; omega)
                    go_wp2_with fail
                    go_quiet (fail)
                    go_wp2_with (with_reducible refine wp_stop 117 rfl ?_)
                    intro _
                    have KD := drewN_keep (fun _ => False) wr nq
                    refine wp_appM Try.underlying44 info_pr rfl (by decide) (by decide) prI_len (fun x _ => pr_one x) rfl (.tmp 111) (.tmp 116) rfl (B := W.heap.size) (by have := KWW.out.size; simp; omega) rfl (OwnB.keep OW.out (KD.alloc _) (fun _ _ => id)) rfl (Lies.one prI_len (by decide) (wr.drewN nq) (pk, pv) _) (by simp; omega) ?_
                    intro v9 w9 o9 k9
                    have kw9 : Keep (fun _ => False) W w9 := Keep.older (KWW.out.trans (KD.alloc _)) k9 (fun j hj => (OwnB.lt OW.out hj).1)
                    have o9 : OPr W.heap.size w9 v9 ((l.take (k + 1)).filter (inR key hi)) := by rw [FE.out]; exact o9
                    have O9 := Lib.hid o9
                    have K9 := Lib.hid kw9
                    clear o9 k9 kw9 KD
                    go_wp2
                    first | exact ⟨⟨k + 1, by omega, by go_num, O9.out, K9.out⟩, by simp [intOf]; omega⟩ | (refine ⟨?rel2, ?meas2⟩; (case meas2 => (simp [intOf]; omega)); (case rel2 => ((repeat apply Exists.intro); exact ⟨⟨k + 1, by omega, by go_num, O9.out, K9.out⟩, rfl⟩)))
                  · have e2 : decide (pk ≤ hi) = false := decide_eq_false h2
                    have O9 := Lib.hid (show OPr W.heap.size wr u8 ((l.take (k + 1)).filter (inR key hi)) by rw [FS'.out, if_neg (by unfold inR; simp [h2]), List.append_nil]; exact OW.out)
                    go_wp2_with fail
                    go_quiet (fail)
                    go_wp2
                    first | exact ⟨⟨k + 1, by omega, by go_num, OwnB.keep O9.out (drewN_keep (fun _ => False) wr nq) (fun _ _ => id), KWW.out.trans (drewN_keep (fun _ => False) wr nq)⟩, by simp [intOf]; omega⟩ | (refine ⟨?rel2, ?meas2⟩; (case meas2 => (simp [intOf]; omega)); (case rel2 => ((repeat apply Exists.intro); exact ⟨⟨k + 1, by omega, by go_num, OwnB.keep O9.out (drewN_keep (fun _ => False) wr nq) (fun _ _ => id), KWW.out.trans (drewN_keep (fun _ => False) wr nq)⟩, rfl⟩)))
                · have e1 : decide (key ≤ pk) = false := decide_eq_false h1
                  have O9 := Lib.hid (show OPr W.heap.size wr u8 ((l.take (k + 1)).filter (inR key hi)) by rw [FS'.out, if_neg (by unfold inR; simp [h1]), List.append_nil]; exact OW.out)
                  go_wp2_with fail
                  go_quiet (fail)
                  go_wp2
                  first | exact ⟨⟨k + 1, by omega, by go_num, OwnB.keep O9.out (drewN_keep (fun _ => False) wr nq) (fun _ _ => id), KWW.out.trans (drewN_keep (fun _ => False) wr nq)⟩, by simp [intOf]; omega⟩ | (refine ⟨?rel2, ?meas2⟩; (case meas2 => (simp [intOf]; omega)); (case rel2 => ((repeat apply Exists.intro); exact ⟨⟨k + 1, by omega, by go_num, OwnB.keep O9.out (drewN_keep (fun _ => False) wr nq) (fun _ _ => id), KWW.out.trans (drewN_keep (fun _ => False) wr nq)⟩, rfl⟩)))
              · obtain rfl : k = n := by omega
                rw [show l.take k = l by rw [← HN.out, List.take_length]] at ow
                have c4 := kW.cell b4 id
                have c6 := kW.cell b6 id
                have LU := (HU.out.keep kW)
                by_cases h0 : e = 0
                · subst h0
                  have hr := HR.out
                  simp only [ne_eq, not_true_eq_false, decide_false, Bool.false_or] at hr
                  have SA := same_any LU (OwnB.lies prI_len ow) (by omega) (Nat.le_trans (List.length_filter_le _ _) (by rw [HN.out]; omega)) r hr
                  have KWW := Lib.hid kW
                  clear ow hr LU kW
                  go_wp2_with fail
                  refine SA.mono ?_
                  rintro e9 w9 ⟨rfl, d, rfl⟩
                  go_wp2
                  go_ret
                  exact ⟨rfl, KW.out.trans (KWW.out.trans (drewN_keep _ _ d))⟩
                · have d0' : (e != 0) = true := by simpa using h0
                  obtain rfl : true = r := by rw [← HR.out, decide_eq_true h0]; rfl
                  have KWW := Lib.hid kW
                  clear ow LU kW
                  go_wp2
                  go_ret
                  exact ⟨rfl, KW.out.trans KWW.out⟩
          · rw [if_neg k5] at hr
            have n5 : (kind == 5) = false := by simpa using k5
            obtain rfl : true = r := hr
            go_enter Try.func56, Try.ntmps56
            go_wp2_with fail; refine FD.mono ?_; rintro e2 w2 ⟨rfl, hw⟩; rw [hw]; clear FD hw
            go_wp2
            go_ret
            exact ⟨rfl, KW.out⟩
end
end Go.Proofs.Ytalkfnblnlcklaa
/- vinculumref20's holds, done, before, Snapshot, Serial, Replay. Condition: Deals that are not too many. -/
namespace Go.Proofs.Ytalkfnblnlcklaa
open Go.ChangeShapes Go.WideShapes Go.ChangeAt Go.RowKit
set_option linter.unusedVariables false
set_option linter.unusedSimpArgs false
/-- The numbers fit. -/
structure DlU (ds : List DlI) : Prop where
 b : ∀ d ∈ ds, 0 ≤ d.start ∧ d.start ≤ 18446744073709551615 ∧ 0 ≤ d.stop ∧ d.stop ≤ 18446744073709551615
def HoK (cs : List (OpI × ReI)) (v0 : List (Int × Int)) (R : Bool) (w : World) (u i : Value) (wr : World) : Prop := ∃ j : Nat, j ≤ cs.length ∧ i = .int .i64 j ∧ LPr wr u ((cs.take j).foldl laidP v0) ∧ Keep (fun _ => False) w wr ∧ holdsGo ((cs.take j).foldl laidP v0) (cs.drop j) = R
def NoK (ds : List DlI) (id : Int) (n : Nat) (w : World) (i : Value) (wr : World) : Prop := ∃ j : Nat, j ≤ n ∧ i = .int .i64 j ∧ w = wr ∧ ∀ (k : Nat) (x : DlI), k < j → ds[k]? = some x → x.id ≠ id
theorem mem_sum {l : List Nat} {a : Nat} (h : a ∈ l) : a ≤ l.sum := by
  induction l with
  | nil => cases h
  | cons b l ih =>
    rw [List.sum_cons]
    rcases List.mem_cons.1 h with c | c
    · omega
    · have := ih c; omega
section
variable {w w' : World} {v : Value} {ds : List DlI}
set_option maxRecDepth 100000 in
set_option maxHeartbeats 4000000 in
theorem rholdsP_any (h : DealsIn w v ds) (hb : DlB ds) (k : Nat) (hk : k < ds.length) (t : Int) (ht : 0 ≤ t ∧ t ≤ 18446744073709551615) (R : Bool) (hR : holdsP ds k t = R) :
    Calls Try.prog 40 #[v, .int .i64 k, .int .u64 t] w fun e w' => e = .returned (.bool R) ∧ Keep (fun _ => False) w w' := by
  obtain ⟨A, c, rfl, hc, hm, hf⟩ := h.form
  have ST := state_any h hb t k ht _ rfl
  have sl := state_len ds t k
  have sb := hb.o
  obtain ⟨x, hx⟩ : ∃ x, ds[k]? = some x := ⟨_, List.getElem?_eq_getElem hk⟩
  have ol : x.ops.length ≤ (ds.map fun d => d.ops.length).sum := mem_sum (List.mem_map.2 ⟨x, List.mem_of_getElem? hx, rfl⟩)
  have pl := hb.p x (List.mem_of_getElem? hx)
  obtain ⟨n, hn⟩ : ∃ n, ds.length = n := ⟨_, rfl⟩
  obtain ⟨b, off, rfl, hcc⟩ := hf (by omega)
  obtain ⟨A2, c2, L2, d0, d1, d2, d3, d4, d5⟩ := hcc k x hx
  unfold holdsP opsP at hR
  rw [hx] at hR
  dsimp only at hR
  obtain ⟨A3, c3, e3, h31, h32, hF⟩ := L2.form
  cases e3
  obtain ⟨m, hm2⟩ : ∃ m, x.ops.length = m := ⟨_, rfl⟩
  obtain ⟨S, hS⟩ : ∃ S, stateP ds t k = S := ⟨_, rfl⟩
  rw [hS] at sl hR ST
  rw [hm2] at d5 h31 ol
  rw [hn] at hc hk ST ⊢
  have kz : (k : Int) < n := by omega
  have HM := Lib.hid hm2
  have HFF := Lib.hid hF
  have HR := Lib.hid hR
  have PL := Lib.hid pl
  have D5 := Lib.hid d5
  have mb : m ≤ 24000 ∧ S.length ≤ 24000 := by omega
  unfold SeenPr at ST
  clear h hb hf hcc d0 d1 d2 d3 d4 d5 L2 hF hR hm2 hx hS sl sb ol pl hn
  go_enter Try.func40, Try.ntmps40
  go_wp2_with fail
  refine ST.mono ?_
  rintro e w1 ⟨u1, rfl, l1, k1⟩
  have L1 := Lib.hid l1
  have K1 := Lib.hid k1
  clear ST l1 k1
  go_wp2
  go_loopw [7, 8] (HoK x.ops S R w) (fun _ i _ => m - (intOf i).toNat)
  case atStart => exact ⟨0, Nat.zero_le _, rfl, L1.out, K1.out, HR.out⟩
  case round =>
    obtain ⟨q, hq, rfl, oq, kq, hh⟩ := hrel
    rw [HM.out] at hq
    have e6 := kq.cell D5.out id
    have fl := fold_len (x.ops.take q) S
    rw [List.length_take, HM.out] at fl
    have OQ := Lib.hid oq
    have KQ := Lib.hid kq
    clear oq kq
    by_cases hqm : q < m
    · obtain ⟨y, hy⟩ : ∃ y, x.ops[q]? = some y := ⟨_, List.getElem?_eq_getElem (by rw [HM.out]; exact hqm)⟩
      obtain ⟨b3, off3, rfl, hcc⟩ := HFF.out (by rw [HM.out]; omega)
      obtain ⟨A4, c4, L4, p0, p1, p2, p3, p4, p5, p6, p7, p8⟩ := hcc q y hy
      have fs : (x.ops.take (q + 1)).foldl laidP S = laidP ((x.ops.take q).foldl laidP S) y := by rw [List.take_add_one, hy, List.foldl_append]; rfl
      have dq : x.ops.drop q = y :: x.ops.drop (q + 1) := by
        obtain ⟨hl, e⟩ := List.getElem?_eq_some_iff.1 hy
        rw [List.drop_eq_getElem_cons hl, e]
      have r0 := KQ.out.cell p0 id
      have r1 := KQ.out.cell p1 id
      have r2 := KQ.out.cell p2 id
      have r3 := KQ.out.cell p3 id
      have r4 := KQ.out.cell p4 id
      have r5 := KQ.out.cell p5 id
      have r6 := KQ.out.cell p6 id
      have r7 := KQ.out.cell p7 id
      have r8 := KQ.out.cell p8 id
      have yl := PL.out y (List.mem_of_getElem? hy)
      obtain ⟨P, eP⟩ : ∃ P, (x.ops.take q).foldl laidP S = P := ⟨_, rfl⟩
      rw [dq, eP] at hh
      rw [eP] at OQ fl fs
      unfold holdsGo at hh
      have FS := Lib.hid fs
      obtain ⟨r, hr⟩ : ∃ r, rightP y P = r := ⟨_, rfl⟩
      rw [hr] at hh
      have RA := right_any OQ.out (by omega) y (L4.keep KQ.out) yl r hr
      have LA := Lib.hid fun w2 (k2 : Keep (fun _ => False) wr w2) => laid_any (OQ.out.keep k2) (by omega) y (A := A4) (q := y.2.pairs.length) (q' := c4)
      have HHH := Lib.hid hh
      have wq : IntKind.i64.wrap ((q : Int) + 1) = (q : Int) + 1 := IntWalk.i64_in _ (by omega)
      unfold clV at RA LA
      obtain ⟨⟨yk, yy, yh, yv⟩, ⟨re, rv, rp, ro, rr⟩⟩ := y
      dsimp only at RA LA r0 r1 r2 r3 r4 r5 r6 r7 r8
      clear hy L4 p0 p1 p2 p3 p4 p5 p6 p7 p8 hcc fs eP yl dq hr hh
      go_wp2_with fail
      refine RA.mono ?_
      rintro e2 w2 ⟨rfl, k2⟩
      have s0 := k2.cell r0 id
      have s1 := k2.cell r1 id
      have s2 := k2.cell r2 id
      have s3 := k2.cell r3 id
      have s4 := k2.cell r4 id
      have s5 := k2.cell r5 id
      have s6 := k2.cell r6 id
      have s7 := k2.cell r7 id
      have s8 := k2.cell r8 id
      have s9 := k2.cell e6 id
      have LB := LA.out w2 k2
      have K2 := Lib.hid (KQ.out.trans k2)
      clear RA LA r0 r1 r2 r3 r4 r5 r6 r7 r8 e6 k2
      cases r with
      | true =>
        go_wp2_with fail
        refine LB.mono ?_
        rintro e9 w9 ⟨u9, rfl, l9, o9, k9⟩
        have O9 := Lib.hid l9
        have K9 := Lib.hid (K2.out.trans k9)
        clear LB l9 o9 k9
        go_wp2
        first | exact ⟨⟨q + 1, by rw [HM.out]; omega, by go_num, by rw [FS.out]; exact O9.out, K9.out, by rw [FS.out]; exact HHH.out⟩, by simp [intOf]; omega⟩ | (refine ⟨?rel2, ?meas2⟩; (case meas2 => (simp [intOf]; omega)); (case rel2 => ((repeat apply Exists.intro); exact ⟨⟨q + 1, by rw [HM.out]; omega, by go_num, by rw [FS.out]; exact O9.out, K9.out, by rw [FS.out]; exact HHH.out⟩, rfl⟩)))
      | false =>
        obtain rfl : false = R := HHH.out
        clear LB
        go_wp2
        go_ret
        exact ⟨rfl, K2.out⟩
    · obtain rfl : q = m := by omega
      rw [show x.ops.drop q = [] by rw [← HM.out, List.drop_length]] at hh
      obtain rfl : true = R := hh
      go_wp2
      go_ret
      exact ⟨rfl, KQ.out⟩
theorem done_hit {id : Int} {j : Nat} {x : DlI} (hx : ds[j]? = some x) (e : x.id = id) (hb : ∀ (k : Nat) (y : DlI), k < j → ds[k]? = some y → y.id ≠ id) : doneP ds id = if x.state = 3 then some j else none := by
 have : ds.findIdx? (fun d => decide (d.id = id)) = some j := by
  obtain ⟨hl, ex⟩ := List.getElem?_eq_some_iff.1 hx
  rw [List.findIdx?_eq_some_iff_getElem]
  refine ⟨hl, by rw [ex]; exact decide_eq_true e, fun k hk => ?_⟩
  have := hb k _ hk (List.getElem?_eq_getElem (by omega))
  simp [this]
 unfold doneP
 rw [this]
 simp only [hx]
theorem done_miss {id : Int} (hb : ∀ (k : Nat) (y : DlI), ds[k]? = some y → y.id ≠ id) : doneP ds id = none := by
 have : ds.findIdx? (fun d => decide (d.id = id)) = none := List.findIdx?_eq_none_iff.2 fun y hy => by
  obtain ⟨k, hk⟩ := List.mem_iff_getElem?.1 hy
  have := hb k y hk
  simp [this]
 unfold doneP
 rw [this]
theorem done_lt {id : Int} {k : Nat} (h : doneP ds id = some k) : ∃ x, ds[k]? = some x ∧ x.id = id ∧ x.state = 3 := by
 unfold doneP at h
 split at h
 ·cases h
 ·next i hi =>
  split at h
  ·next d hd =>
   split at h
   ·next h3 =>
    cases h
    obtain ⟨lt, p, _⟩ := List.findIdx?_eq_some_iff_getElem.1 hi
    have : ds[k] = d := by have := List.getElem?_eq_getElem lt; rw [hd] at this; exact (Option.some.inj this).symm
    rw [this] at p
    exact ⟨d, hd, of_decide_eq_true p, h3⟩
   ·cases h
  ·cases h
set_option maxRecDepth 100000 in
theorem done_any (h : DealsIn w v ds) (hn : ds.length ≤ 20000) (id : Int) (r : Int) (hr : kI (doneP ds id) = r) :
  Calls Try.prog 39 #[v, .int .i64 id] w fun e w' => e = .returned (.int .i64 r) ∧ w' = w := by
 obtain ⟨A, c, rfl, hc, hm, hf⟩ := h.form
 obtain ⟨n, en⟩ : ∃ n, ds.length = n := ⟨_, rfl⟩
 rw [en] at hc hf hn ⊢
 have HF := Lib.hid hf
 have HN := Lib.hid en
 have HR := Lib.hid hr
 clear h hf en hr
 go_enter Try.func39, Try.ntmps39
 go_wp2
 go_loopw [5] (NoK ds id n w) (fun i _ => n - (intOf i).toNat)
 case atStart => exact ⟨0, Nat.zero_le _, rfl, rfl, fun k x hk => absurd hk (Nat.not_lt_zero _)⟩
 case round =>
  obtain ⟨j, hj, rfl, rfl, hb⟩ := hrel
  by_cases hlt : j < n
  ·obtain ⟨x, hx⟩ : ∃ x, ds[j]? = some x := ⟨_, List.getElem?_eq_getElem (by rw [HN.out]; exact hlt)⟩
   obtain ⟨b, off, rfl, hcc⟩ := HF.out (by omega)
   obtain ⟨A2, c2, L2, d0, d1, d2, d3, d4, d5⟩ := hcc j x hx
   have wj : IntKind.i64.wrap ((j : Int) + 1) = (j : Int) + 1 := IntWalk.i64_in _ (by omega)
   by_cases he : x.id = id
   ·have dh := done_hit hx he hb
    have hr := HR.out
    rw [dh] at hr
    obtain ⟨xi, xl, xs, xb, xe, xo⟩ := x
    dsimp only at he d0 d2 hr
    subst he
    have ee : (xi == xi) = true := by simp
    by_cases h3 : xs = 3
    ·subst h3
     rw [if_pos rfl] at hr
     obtain rfl : (j : Int) = r := hr
     clear hx hcc hb L2 d1 d3 d4 d5 dh
     go_wp2
     go_ret
     exact ⟨rfl, rfl⟩
    ·have n3 : (xs == 3) = false := by simpa using h3
     rw [if_neg h3] at hr
     obtain rfl : -1 = r := hr
     clear hx hcc hb L2 d1 d3 d4 d5 dh h3
     go_wp2
     go_ret
     exact ⟨rfl, rfl⟩
   ·have hb' : ∀ (k : Nat) (y : DlI), k < j + 1 → ds[k]? = some y → y.id ≠ id := fun k y hk hy => by
     by_cases q : k = j
     ·subst q; rw [hx] at hy; cases hy; exact he
     ·exact hb k y (by omega) hy
    have HB := Lib.hid hb'
    obtain ⟨xi, xl, xs, xb, xe, xo⟩ := x
    dsimp only at he d0 d2
    have ee : (xi == id) = false := by simpa using he
    clear hx hcc hb hb' L2 d1 d3 d4 d5 he
    go_wp2
    first | exact ⟨⟨j + 1, by omega, by go_num, rfl, HB.out⟩, by simp [intOf]; omega⟩ | (refine ⟨?rel2, ?meas2⟩; (case meas2 => (simp [intOf]; omega)); (case rel2 => ((repeat apply Exists.intro); exact ⟨⟨j + 1, by omega, by go_num, rfl, HB.out⟩, rfl⟩)))
  ·obtain rfl : j = n := by omega
   have dm := done_miss (ds := ds) (id := id) fun k y hk => hb k y (by have := (List.getElem?_eq_some_iff.1 hk).1; rw [HN.out] at this; exact this) hk
   have hr := HR.out
   rw [dm] at hr
   obtain rfl : -1 = r := hr
   clear hb dm
   go_wp2
   go_ret
   exact ⟨rfl, rfl⟩
theorem before_any (t : Int) (ht : 0 ≤ t ∧ t ≤ 18446744073709551615) (w : World) : Calls Try.prog 41 #[.int .u64 t] w fun e w' => e = .returned (.int .u64 (beforeI t)) ∧ w' = w := by
 unfold beforeI
 by_cases h0 : t = 0
 ·subst h0
  rw [if_pos rfl]
  go_enter Try.func41, Try.ntmps41
  go_wp2
  go_ret
  exact ⟨rfl, rfl⟩
 ·rw [if_neg h0]
  have e0 : (t == 0) = false := by simpa using h0
  have w1 : IntKind.u64.wrap (t - 1) = t - 1 := by rw [IntKind.wrap_u64]; omega
  go_enter Try.func41, Try.ntmps41
  go_wp2
  go_ret
  exact ⟨rfl, rfl⟩
set_option maxRecDepth 100000 in
set_option maxHeartbeats 1000000 in
theorem serial_any (h : DealsIn w v ds) (hb : DlB ds) (hu : DlU ds) (id : Int) (R : Bool) (hR : serialP ds id = R) :
    Calls Try.prog 20 #[v, .int .i64 id] w fun e w' => e = .returned (.bool R) ∧ Keep (fun _ => False) w w' := by
  have DN := done_any h hb.n id _ rfl
  obtain ⟨A, c, rfl, hc, hm, hf⟩ := h.form
  unfold serialP at hR
  cases hd : doneP ds id with
  | none =>
    rw [hd] at hR DN
    obtain rfl : false = R := hR
    have m1 : kI none = -1 := rfl
    rw [m1] at DN
    clear h hb hu hf hd
    go_enter Try.func20, Try.ntmps20
    go_wp2_with fail
    refine DN.mono ?_
    rintro e w1 ⟨rfl, hw⟩
    rw [hw]
    clear hw DN
    go_wp2
    go_ret
    exact ⟨rfl, Keep.refl _ _⟩
  | some k =>
    obtain ⟨x, hx, hxi, hx3⟩ := done_lt hd
    rw [hd] at hR DN
    dsimp only at hR
    rw [hx] at hR
    dsimp only at hR
    have kl := (List.getElem?_eq_some_iff.1 hx).1
    have xb := hu.b x (List.mem_of_getElem? hx)
    have HO := rholdsP_any h hb k kl (beforeI x.stop) (by unfold beforeI; split <;> omega) R hR
    have BF := before_any x.stop ⟨xb.2.2.1, xb.2.2.2⟩ w
    obtain ⟨b, off, rfl, hcc⟩ := hf (by omega)
    obtain ⟨A2, c2, L2, d0, d1, d2, d3, d4, d5⟩ := hcc k x hx
    obtain ⟨n, en⟩ : ∃ n, ds.length = n := ⟨_, rfl⟩
    rw [en] at kl hc DN HO ⊢
    have kz : (k : Int) < n := by omega
    have m1 : kI (some k) = (k : Int) := rfl
    rw [m1] at DN
    have iz : ((k : Int) < 0) = False := by simp
    obtain ⟨se, hse⟩ : ∃ s, x.stop = s := ⟨_, rfl⟩
    rw [hse] at BF HO d4
    obtain ⟨be, hbe⟩ : ∃ s, beforeI se = s := ⟨_, rfl⟩
    rw [hbe] at BF HO
    clear h hb hu hf hd hcc L2 d0 d1 d2 d3 d5 hR hx xb en hse hbe
    go_enter Try.func20, Try.ntmps20
    go_wp2_with fail
    refine DN.mono ?_
    rintro e w1 ⟨rfl, hw⟩
    rw [hw]
    clear hw DN
    go_wp2_with fail
    refine BF.mono ?_
    rintro e w1 ⟨rfl, hw⟩
    rw [hw]
    clear hw BF
    go_wp2_with fail
    refine HO.mono ?_
    rintro e w1 ⟨rfl, k1⟩
    go_wp2
    go_ret
    exact ⟨rfl, k1⟩
end
end Go.Proofs.Ytalkfnblnlcklaa
