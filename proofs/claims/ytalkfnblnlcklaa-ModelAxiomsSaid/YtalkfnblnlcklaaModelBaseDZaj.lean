/- Several texts, one behind the other: AxN, AxP, AxW, AxY, AxV. -/
import Derived.Test.YtalkfnblnlcklaaModelBaseDZac
import Derived.Test.YtalkfnblnlcklaaModelBaseDZah
import Derived.Test.YtalkfnblnlcklaaModelBaseDZai
/- How many Deals, calls, Pairs there can be. No condition. -/
namespace Go.Proofs.Ytalkfnblnlcklaa
set_option linter.unusedVariables false
/-- At most k Deals and calls; a call's Pairs at most 64. -/
structure Sz (k : Nat) (ds : List DlI) : Prop where
 n : ds.length + (ds.map fun d => d.ops.length).sum ≤ k
 p : ∀ d ∈ ds, ∀ c ∈ d.ops, c.2.pairs.length ≤ 64
theorem keys_len (lo : Int) (n : Nat) : (keysI lo n).length = n := by
 induction n generalizing lo with
 | zero => rfl
 | succ n ih => show (keysI (lo + 1) n).length + 1 = _; rw [ih]
theorem flat_le {f : Int → List (Int × Int)} (hf : ∀ k, (f k).length ≤ 1) (l : List Int) : (l.flatMap f).length ≤ l.length := by
  induction l with
  | nil => exact Nat.le_refl _
  | cons a l ih =>
    rw [List.flatMap_cons, List.length_append, List.length_cons]
    have := hf a
    omega
theorem scan_len (v : List VrI) (id at' lo hi : Int) (h : 0 ≤ lo ∧ hi ≤ 63) : (scanI v id at' lo hi).length ≤ 64 := by
 unfold scanI
 have := flat_le (f := pairI v id at') (fun k => by unfold pairI; split <;> simp) (keysI lo (hi + 1 - lo).toNat)
 rw [keys_len] at this
 omega
theorem run_pairs (x : MoI) (n : Nat) (o : OpI) (h : 0 ≤ o.key ∧ (o.kind = 5 → o.hi ≤ 63)) : (x.run n o).1.pairs.length ≤ 64 := by
 unfold MoI.run
 split
 ·exact Nat.zero_le _
 ·split
  ·unfold MoI.commit
   split
   ·exact Nat.zero_le _
   ·dsimp only
    split <;> exact Nat.zero_le _
  ·split
   ·unfold MoI.get
    dsimp only
    generalize seesI (x.count n).v ((x.count n).s n).id ((x.count n).s n).start o.key = a
    cases a <;> exact Nat.zero_le _
   ·split
    ·next h5 => exact scan_len _ _ _ _ _ ⟨h.1, h.2 h5⟩
    ·unfold MoI.write
     dsimp only
     split
     ·exact Nat.zero_le _
     ·split
      ·exact Nat.zero_le _
      ·split <;> exact Nat.zero_le _
theorem do_pairs (x : MoI) (s : Int) (o : OpI) : (x.doR s o).pairs.length ≤ 64 := by
 unfold MoI.doR
 by_cases hz : x.doE s o = 0
 ·rw [if_pos hz]
  obtain ⟨s0, s7, h0, hok, hop⟩ := doE_zero hz
  by_cases hk : o.kind ≤ 5
  ·obtain ⟨q0, q1, q2, q3, q4⟩ := okI_key hok hk
   refine run_pairs x _ o ⟨q1, fun h5 => ?_⟩
   unfold okI at hok
   rw [if_neg (by omega), if_neg (by omega), if_pos h5] at hok
   have := of_decide_eq_true hok
   omega
  ·unfold MoI.run
   split
   ·exact Nat.zero_le _
   ·split
    ·unfold MoI.commit
     split
     ·exact Nat.zero_le _
     ·dsimp only
      split <;> exact Nat.zero_le _
    ·next h7 h6 =>
     unfold okI at hok
     rw [if_neg (by omega), if_neg (by omega), if_neg (by omega), if_neg (by omega)] at hok
     cases hok
 ·rw [if_neg hz]
  exact Nat.zero_le _
section
variable {x : MoI} {ds : List DlI} {k : Nat}
theorem sz_nil : Sz 0 [] := ⟨Nat.le_refl _, fun d h => by cases h⟩
theorem sz_beg (z : Sz k ds) (s level : Int) : Sz (k + 1) (dlBeg x ds s level) := by
 unfold dlBeg
 have := z.n
 split
 ·refine ⟨by simp; omega, fun d hd c hc => ?_⟩
  rcases List.mem_append.1 hd with q | q
  ·exact z.p d q c hc
  ·rw [List.mem_singleton.1 q] at hc
   cases hc
 ·exact ⟨by omega, z.p⟩
theorem sum_modify {ds : List DlI} {f : DlI → DlI} {i : Nat} (hf : ∀ d, (f d).ops.length ≤ d.ops.length + 1) : ((ds.modify i f).map fun d => d.ops.length).sum ≤ (ds.map fun d => d.ops.length).sum + 1 := by
  induction ds generalizing i with
  | nil => simp
  | cons a l ih =>
    cases i with
    | zero => simp; have := hf a; omega
    | succ i => simp only [List.modify_succ_cons, List.map_cons, List.sum_cons]; have := ih (i := i); omega
theorem sz_do (z : Sz k ds) (s : Int) (o : OpI) : Sz (k + 1) (dlDo x ds s o) := by
 unfold dlDo
 have zn := z.n
 split
 ·have hp := do_pairs x s o
  generalize x.doR s o = r at hp ⊢
  refine ⟨?_, fun d hd c hc => ?_⟩
  ·unfold dlTold
   have := sum_modify (ds := ds) (f := toldD (x.doM s o).time o r) (i := ((x.s s.toNat).id - 1).toNat) (fun d => by
    unfold toldD
    split
    ·exact Nat.le_succ _
    ·split
     ·exact Nat.le_succ _
     ·simp)
   rw [List.length_modify]
   omega
  ·obtain ⟨i, hi⟩ := List.mem_iff_getElem?.1 hd
   obtain ⟨d1, e1, ⟨_, e2⟩ | ⟨_, e2⟩⟩ := told_at hi
   ·rw [e2] at hc
    unfold toldD at hc
    split at hc
    ·exact z.p d1 (List.mem_of_getElem? e1) c hc
    ·split at hc
     ·exact z.p d1 (List.mem_of_getElem? e1) c hc
     ·rcases List.mem_append.1 hc with q | q
      ·exact z.p d1 (List.mem_of_getElem? e1) c q
      ·rw [List.mem_singleton.1 q]; exact hp
   ·rw [e2] at hc
    exact z.p d1 (List.mem_of_getElem? e1) c hc
 ·exact ⟨by omega, z.p⟩
theorem Sz.up (z : Sz k ds) {n : Nat} (h : k ≤ n) : Sz n ds := ⟨Nat.le_trans z.n h, z.p⟩
theorem Sz.dlB (z : Sz k ds) (h : k ≤ 20000) : DlB ds := ⟨by have := z.n; omega, by have := z.n; omega, fun d hd c hc => Nat.le_trans (z.p d hd c hc) (by omega)⟩
theorem Al.dlU (a : Al x ds) (h : Good x) : DlU ds := ⟨fun d hd => by
 have t := a.tm d hd
 have s := a.st d hd
 have q := h.time
 have c := h.conf
 omega⟩
end
end Go.Proofs.Ytalkfnblnlcklaa
/- vinculumref20's Snapshot, Replay, writes, wrote. Condition: Deals that are not too many. -/
namespace Go.Proofs.Ytalkfnblnlcklaa
open Go.ChangeShapes Go.WideShapes Go.ChangeAt Go.RowKit
set_option linter.unusedVariables false
set_option linter.unusedSimpArgs false
def RpK (ds : List DlI) (R : Int) (w : World) (b i : Value) (wr : World) : Prop := ∃ (j : Nat) (bad : Int), j ≤ ds.length ∧ i = .int .i64 j ∧ b = .int .i64 bad ∧ Keep (fun _ => False) w wr ∧ replB ds bad (ds.drop j) = R
section
variable {w w' : World} {v : Value} {ds : List DlI}
set_option maxRecDepth 100000 in
set_option maxHeartbeats 1000000 in
theorem snap_any (h : DealsIn w v ds) (hb : DlB ds) (hu : DlU ds) (id : Int) (R : Bool) (hR : snapP ds id = R) :
    Calls Try.prog 21 #[v, .int .i64 id] w fun e w' => e = .returned (.bool R) ∧ Keep (fun _ => False) w w' := by
  have DN := done_any h hb.n id _ rfl
  obtain ⟨A, c, rfl, hc, hm, hf⟩ := h.form
  unfold snapP at hR
  cases hd : doneP ds id with
  | none =>
    rw [hd] at hR DN
    obtain rfl : false = R := hR
    have m1 : kI none = -1 := rfl
    rw [m1] at DN
    clear h hb hu hf hd
    go_enter Try.func21, Try.ntmps21
    go_wp2_with fail
    refine DN.mono ?_
    rintro e w1 ⟨rfl, hw⟩
    rw [hw]
    clear hw DN
    go_wp2
    go_ret
    exact ⟨rfl, Keep.refl _ _⟩
  | some k =>
    obtain ⟨x, hx, hxi, hx3⟩ := done_lt hd
    rw [hd] at hR DN
    dsimp only at hR
    rw [hx] at hR
    dsimp only at hR
    have kl := (List.getElem?_eq_some_iff.1 hx).1
    have xb := hu.b x (List.mem_of_getElem? hx)
    have HO := rholdsP_any h hb k kl x.start ⟨xb.1, xb.2.1⟩ R hR
    obtain ⟨b, off, rfl, hcc⟩ := hf (by omega)
    obtain ⟨A2, c2, L2, d0, d1, d2, d3, d4, d5⟩ := hcc k x hx
    obtain ⟨n, en⟩ : ∃ n, ds.length = n := ⟨_, rfl⟩
    rw [en] at kl hc DN HO ⊢
    have kz : (k : Int) < n := by omega
    have m1 : kI (some k) = (k : Int) := rfl
    rw [m1] at DN
    have iz : ((k : Int) < 0) = False := by simp
    obtain ⟨se, hse⟩ : ∃ s, x.start = s := ⟨_, rfl⟩
    rw [hse] at HO d3
    clear h hb hu hf hd hcc L2 d0 d1 d2 d4 d5 hR hx xb en hse
    go_enter Try.func21, Try.ntmps21
    go_wp2_with fail
    refine DN.mono ?_
    rintro e w1 ⟨rfl, hw⟩
    rw [hw]
    clear hw DN
    go_wp2_with fail
    refine HO.mono ?_
    rintro e w1 ⟨rfl, k1⟩
    go_wp2
    go_ret
    exact ⟨rfl, k1⟩
set_option maxRecDepth 100000 in
set_option maxHeartbeats 2000000 in
theorem replay_any (h : DealsIn w v ds) (hb : DlB ds) (hu : DlU ds) (R : Int) (hR : replB ds 0 ds = R) :
    Calls Try.prog 7 #[v] w fun e w' => e = .returned (.tuple #[.bool (decide (R = 0)), .int .i64 R]) ∧ Keep (fun _ => False) w w' := by
  have SE := Lib.hid fun w1 (k : Keep (fun _ => False) w w1) id => serial_any (h.keep k) hb hu id _ rfl
  obtain ⟨A, c, rfl, hc, hm, hf⟩ := h.form
  obtain ⟨n, hn⟩ : ∃ n, ds.length = n := ⟨_, rfl⟩
  have nb := hb.n
  rw [hn] at hc hf nb SE ⊢
  have HF := Lib.hid hf
  have HN := Lib.hid hn
  have HR := Lib.hid hR
  clear h hb hu hf hn hR
  go_enter Try.func7, Try.ntmps7
  go_wp2
  go_loopw [4, 5] (RpK ds R w) (fun _ i _ => n - (intOf i).toNat)
  case atStart => exact ⟨0, 0, Nat.zero_le _, rfl, rfl, Keep.refl _ _, by rw [List.drop_zero]; exact HR.out⟩
  case round =>
    obtain ⟨j, bad, hj, rfl, rfl, kw, hr⟩ := hrel
    rw [HN.out] at hj
    by_cases hlt : j < n
    · obtain ⟨x, hx⟩ : ∃ x, ds[j]? = some x := ⟨_, List.getElem?_eq_getElem (by rw [HN.out]; exact hlt)⟩
      obtain ⟨b, off, rfl, hcc⟩ := HF.out (by omega)
      obtain ⟨A2, c2, L2, d0, d1, d2, d3, d4, d5⟩ := hcc j x hx
      have wj : IntKind.i64.wrap ((j : Int) + 1) = (j : Int) + 1 := IntWalk.i64_in _ (by omega)
      have dj : ds.drop j = x :: ds.drop (j + 1) := by
        obtain ⟨hl, e⟩ := List.getElem?_eq_some_iff.1 hx
        rw [List.drop_eq_getElem_cons hl, e]
      rw [dj] at hr
      unfold replB at hr
      have e0 := kw.cell d0 id
      have e2 := kw.cell d2 id
      have SJ := SE.out wr kw x.id
      obtain ⟨sr, hsr⟩ : ∃ r, serialP ds x.id = r := ⟨_, rfl⟩
      rw [hsr] at SJ hr
      obtain ⟨xi, xl, xs, xb, xe, xo⟩ := x
      dsimp only at e0 e2 SJ hr
      have KW := Lib.hid kw
      have HRR := Lib.hid hr
      clear hx hcc L2 d0 d1 d2 d3 d4 d5 dj kw hr hsr
      by_cases h3 : xs = 3
      · subst h3
        by_cases hb0 : bad = 0 ∨ xi < bad
        · cases sr with
          | true =>
            have F := Lib.hid (show replB ds bad (ds.drop (j + 1)) = R by have := HRR.out; rw [if_neg (by simp)] at this; exact this)
            rcases hb0 with q | q
            · subst q
              go_wp2_with fail; refine SJ.mono ?_; rintro e1 w1 ⟨rfl, k1⟩; have e7 := k1.cell e0 id; clear SJ; go_wp2
              first | exact ⟨⟨j + 1, 0, by rw [HN.out]; omega, by go_num, rfl, KW.out.trans k1, F.out⟩, by simp [intOf]; omega⟩ | (refine ⟨?rel2, ?meas2⟩; (case meas2 => (simp [intOf]; omega)); (case rel2 => ((repeat apply Exists.intro); exact ⟨⟨j + 1, 0, by rw [HN.out]; omega, by go_num, rfl, KW.out.trans k1, F.out⟩, rfl⟩)))
            · by_cases q0 : bad = 0
              · subst q0
                go_wp2_with fail; refine SJ.mono ?_; rintro e1 w1 ⟨rfl, k1⟩; have e7 := k1.cell e0 id; clear SJ; go_wp2
                first | exact ⟨⟨j + 1, 0, by rw [HN.out]; omega, by go_num, rfl, KW.out.trans k1, F.out⟩, by simp [intOf]; omega⟩ | (refine ⟨?rel2, ?meas2⟩; (case meas2 => (simp [intOf]; omega)); (case rel2 => ((repeat apply Exists.intro); exact ⟨⟨j + 1, 0, by rw [HN.out]; omega, by go_num, rfl, KW.out.trans k1, F.out⟩, rfl⟩)))
              · have n0 : (bad == 0) = false := by simpa using q0
                have dq : decide (xi < bad) = true := decide_eq_true q
                clear q0
                go_wp2_with fail; refine SJ.mono ?_; rintro e1 w1 ⟨rfl, k1⟩; have e7 := k1.cell e0 id; clear SJ; go_wp2
                first | exact ⟨⟨j + 1, bad, by rw [HN.out]; omega, by go_num, rfl, KW.out.trans k1, F.out⟩, by simp [intOf]; omega⟩ | (refine ⟨?rel2, ?meas2⟩; (case meas2 => (simp [intOf]; omega)); (case rel2 => ((repeat apply Exists.intro); exact ⟨⟨j + 1, bad, by rw [HN.out]; omega, by go_num, rfl, KW.out.trans k1, F.out⟩, rfl⟩)))
          | false =>
            have F := Lib.hid (show replB ds xi (ds.drop (j + 1)) = R by have := HRR.out; rw [if_pos ⟨rfl, hb0, rfl⟩] at this; exact this)
            rcases hb0 with q | q
            · subst q
              go_wp2_with fail; refine SJ.mono ?_; rintro e1 w1 ⟨rfl, k1⟩; have e7 := k1.cell e0 id; clear SJ; go_wp2
              first | exact ⟨⟨j + 1, xi, by rw [HN.out]; omega, by go_num, rfl, KW.out.trans k1, F.out⟩, by simp [intOf]; omega⟩ | (refine ⟨?rel2, ?meas2⟩; (case meas2 => (simp [intOf]; omega)); (case rel2 => ((repeat apply Exists.intro); exact ⟨⟨j + 1, xi, by rw [HN.out]; omega, by go_num, rfl, KW.out.trans k1, F.out⟩, rfl⟩)))
            · by_cases q0 : bad = 0
              · subst q0
                go_wp2_with fail; refine SJ.mono ?_; rintro e1 w1 ⟨rfl, k1⟩; have e7 := k1.cell e0 id; clear SJ; go_wp2
                first | exact ⟨⟨j + 1, xi, by rw [HN.out]; omega, by go_num, rfl, KW.out.trans k1, F.out⟩, by simp [intOf]; omega⟩ | (refine ⟨?rel2, ?meas2⟩; (case meas2 => (simp [intOf]; omega)); (case rel2 => ((repeat apply Exists.intro); exact ⟨⟨j + 1, xi, by rw [HN.out]; omega, by go_num, rfl, KW.out.trans k1, F.out⟩, rfl⟩)))
              · have n0 : (bad == 0) = false := by simpa using q0
                have dq : decide (xi < bad) = true := decide_eq_true q
                clear q0
                go_wp2_with fail; refine SJ.mono ?_; rintro e1 w1 ⟨rfl, k1⟩; have e7 := k1.cell e0 id; clear SJ; go_wp2
                first | exact ⟨⟨j + 1, xi, by rw [HN.out]; omega, by go_num, rfl, KW.out.trans k1, F.out⟩, by simp [intOf]; omega⟩ | (refine ⟨?rel2, ?meas2⟩; (case meas2 => (simp [intOf]; omega)); (case rel2 => ((repeat apply Exists.intro); exact ⟨⟨j + 1, xi, by rw [HN.out]; omega, by go_num, rfl, KW.out.trans k1, F.out⟩, rfl⟩)))
        · have F := Lib.hid (show replB ds bad (ds.drop (j + 1)) = R by have := HRR.out; rw [if_neg (fun c => hb0 c.2.1)] at this; exact this)
          have n0 : (bad == 0) = false := by simpa using (fun c => hb0 (.inl c) : ¬ bad = 0)
          have dq : decide (xi < bad) = false := decide_eq_false fun c => hb0 (.inr c)
          clear SJ hb0
          go_wp2
          first | exact ⟨⟨j + 1, bad, by rw [HN.out]; omega, by go_num, rfl, KW.out, F.out⟩, by simp [intOf]; omega⟩ | (refine ⟨?rel2, ?meas2⟩; (case meas2 => (simp [intOf]; omega)); (case rel2 => ((repeat apply Exists.intro); exact ⟨⟨j + 1, bad, by rw [HN.out]; omega, by go_num, rfl, KW.out, F.out⟩, rfl⟩)))
      · have n3 : (xs == 3) = false := by simpa using h3
        have F := Lib.hid (show replB ds bad (ds.drop (j + 1)) = R by have := HRR.out; rw [if_neg (fun c => h3 c.1)] at this; exact this)
        clear SJ h3
        go_wp2
        first | exact ⟨⟨j + 1, bad, by rw [HN.out]; omega, by go_num, rfl, KW.out, F.out⟩, by simp [intOf]; omega⟩ | (refine ⟨?rel2, ?meas2⟩; (case meas2 => (simp [intOf]; omega)); (case rel2 => ((repeat apply Exists.intro); exact ⟨⟨j + 1, bad, by rw [HN.out]; omega, by go_num, rfl, KW.out, F.out⟩, rfl⟩)))
    · obtain rfl : j = n := by omega
      rw [show ds.drop j = [] by rw [← HN.out, List.drop_length]] at hr
      obtain rfl : bad = R := hr
      by_cases q0 : bad = 0
      · subst q0
        go_wp2
        refine bodyPost_ret (v := .tuple #[.bool true, .int .i64 0]) (by simp [results, Try.results7, go_sem]) rfl ?_
        exact ⟨rfl, kw⟩
      · have n0 : (bad == 0) = false := by simpa using q0
        have n1 : decide (bad = 0) = false := decide_eq_false q0
        go_wp2
        refine bodyPost_ret (v := .tuple #[.bool false, .int .i64 bad]) (by simp [results, Try.results7, go_sem]) rfl ?_
        exact ⟨by rw [n1], kw⟩
end
end Go.Proofs.Ytalkfnblnlcklaa
/- vinculumref20's writes, wrote, Writers. Condition: Deals that are not too many. -/
namespace Go.Proofs.Ytalkfnblnlcklaa
open Go.ChangeShapes Go.WideShapes Go.ChangeAt Go.RowKit
set_option linter.unusedVariables false
set_option linter.unusedSimpArgs false
def writesI (c : OpI × ReI) : Bool := decide (c.2.e = 0) && (decide (c.1.kind = 2) || decide (c.1.kind = 3) || decide (c.1.kind = 4))
def wroteI (key : Int) : List (OpI × ReI) → Bool
 | [] => false
 | c :: l => if c.1.key = key ∧ writesI c = true then true else wroteI key l
def dlV (d : DlI) (u : Value) : Value := .agg #[.int .i64 d.id, .int .i64 d.level, .int .i64 d.state, .int .u64 d.start, .int .u64 d.stop, u]
def WrK (cs : List (OpI × ReI)) (key : Int) (R : Bool) (w : World) (i : Value) (wr : World) : Prop := ∃ j : Nat, j ≤ cs.length ∧ i = .int .i64 j ∧ Keep (fun _ => False) w wr ∧ wroteI key (cs.drop j) = R
section
variable {w w' : World} {v : Value} {ds : List DlI}
set_option maxRecDepth 100000 in
set_option maxHeartbeats 1000000 in
theorem writes_any (c : OpI × ReI) {A : Option Addr} {q q' : Nat} (R : Bool) (hR : writesI c = R) (w : World) :
  Calls Try.prog 23 #[clV c (.slice A q q')] w fun e w' => e = .returned (.bool R) ∧ Keep (fun _ => False) w w' := by
 obtain ⟨⟨kind, key, hi, val⟩, ⟨e, va, ps, ov, re⟩⟩ := c
 have kw : Keep (fun _ => False) w (w.alloc (.cells #[.int .i64 kind, .int .i64 key, .int .i64 hi, .int .i64 val, .int .i64 e, .int .i64 va, .slice A q q', .int .i64 ov, .int .i64 re] 70)) := (Keep.refl _ _).alloc _
 have KW := Lib.hid kw
 clear kw
 unfold writesI at hR
 dsimp only at hR
 unfold clV
 by_cases he : e = 0
 ·subst he
  by_cases h2 : kind = 2
  ·subst h2
   obtain rfl : true = R := hR
   go_enter Try.func23, Try.ntmps23
   go_wp2
   go_ret
   exact ⟨rfl, KW.out⟩
  ·by_cases h3 : kind = 3
   ·subst h3
    obtain rfl : true = R := hR
    go_enter Try.func23, Try.ntmps23
    go_wp2
    go_ret
    exact ⟨rfl, KW.out⟩
   ·have e2 : (kind == 2) = false := by simpa using h2
    have e3 : (kind == 3) = false := by simpa using h3
    by_cases h4 : kind = 4
    ·subst h4
     obtain rfl : true = R := hR
     go_enter Try.func23, Try.ntmps23
     go_wp2
     go_ret
     exact ⟨rfl, KW.out⟩
    ·have e4 : (kind == 4) = false := by simpa using h4
     obtain rfl : false = R := by rw [← hR]; simp [h2, h3, h4]
     go_enter Try.func23, Try.ntmps23
     go_wp2
     go_ret
     exact ⟨rfl, KW.out⟩
 ·have ne : (e == 0) = false := by simpa using he
  obtain rfl : false = R := by rw [← hR]; simp [he]
  go_enter Try.func23, Try.ntmps23
  go_wp2
  go_ret
  exact ⟨rfl, KW.out⟩
theorem dl_box (w : World) (d : DlI) (u : Value) : ∃ W, w.alloc (.cells #[.int .i64 d.id, .int .i64 d.level, .int .i64 d.state, .int .u64 d.start, .int .u64 d.stop, u] 59) = W ∧ W.cell? ⟨w.heap.size, 5, none⟩ = some u ∧ Keep (fun _ => False) w W :=
 ⟨_, rfl, by simp, (Keep.refl _ _).alloc _⟩
set_option maxRecDepth 100000 in
set_option maxHeartbeats 1000000 in
theorem wrote_any (d : DlI) {A : Option Addr} {m c : Nat} (h : CallsIn w (.slice A m c) d.ops) (hm : m ≤ 24000) (key : Int) (R : Bool) (hR : wroteI key d.ops = R) :
    Calls Try.prog 24 #[dlV d (.slice A m c), .int .i64 key] w fun e w' => e = .returned (.bool R) ∧ Keep (fun _ => False) w w' := by
  obtain ⟨di, dl, dst, ds1, ds2, cs⟩ := d
  dsimp only at h hR
  obtain ⟨W, eW, b5, kW⟩ := dl_box w ⟨di, dl, dst, ds1, ds2, cs⟩ (.slice A m c)
  have h2 := h.keep kW
  obtain ⟨A1, c1, e1, hc, hx, hf⟩ := h2.form
  cases e1
  obtain ⟨m, hm3⟩ : ∃ m, cs.length = m := ⟨_, rfl⟩
  rw [hm3] at hc hm hf b5 eW ⊢
  have HF := Lib.hid hf
  have HM := Lib.hid hm3
  have HR := Lib.hid hR
  have KW := Lib.hid kW
  unfold dlV
  clear h h2 hf hR hm3 kW
  dsimp only at eW ⊢
  go_enter Try.func24, Try.ntmps24
  go_wp2
  clear eW
  go_loopw [5] (WrK cs key R W) (fun i _ => m - (intOf i).toNat)
  case atStart => exact ⟨0, Nat.zero_le _, rfl, Keep.refl _ _, HR.out⟩
  case round =>
    obtain ⟨j, hj, rfl, kw, hr⟩ := hrel
    rw [HM.out] at hj
    have e5 := kw.cell b5 id
    have K := Lib.hid kw
    clear kw
    by_cases hlt : j < m
    · obtain ⟨x, hx⟩ : ∃ x, cs[j]? = some x := ⟨_, List.getElem?_eq_getElem (by rw [HM.out]; exact hlt)⟩
      obtain ⟨b, off, rfl, hcc⟩ := HF.out (by omega)
      obtain ⟨A4, c4, L4, p0, p1, p2, p3, p4, p5, p6, p7, p8⟩ := hcc j x hx
      have wj : IntKind.i64.wrap ((j : Int) + 1) = (j : Int) + 1 := IntWalk.i64_in _ (by omega)
      have dj : cs.drop j = x :: cs.drop (j + 1) := by
        obtain ⟨hl, e⟩ := List.getElem?_eq_some_iff.1 hx
        rw [List.drop_eq_getElem_cons hl, e]
      rw [dj] at hr
      unfold wroteI at hr
      have WA := fun r hr => writes_any x (A := A4) (q := x.2.pairs.length) (q' := c4) r hr wr
      have r0 := K.out.cell p0 id
      have r1 := K.out.cell p1 id
      have r2 := K.out.cell p2 id
      have r3 := K.out.cell p3 id
      have r4 := K.out.cell p4 id
      have r5 := K.out.cell p5 id
      have r6 := K.out.cell p6 id
      have r7 := K.out.cell p7 id
      have r8 := K.out.cell p8 id
      unfold clV at WA
      obtain ⟨⟨yk, yy, yh, yv⟩, ⟨re, rv, rp, ro, rr⟩⟩ := x
      dsimp only at WA r0 r1 r2 r3 r4 r5 r6 r7 r8 hr
      have HRR := Lib.hid hr
      have HWA := Lib.hid WA
      clear hx hcc L4 p0 p1 p2 p3 p4 p5 p6 p7 p8 dj hr WA
      by_cases hk : yy = key
      · subst hk
        have ee : (yy == yy) = true := by simp
        cases hw : writesI (⟨yk, yy, yh, yv⟩, ⟨re, rv, rp, ro, rr⟩) with
        | true =>
          obtain rfl : true = R := by have := HRR.out; rw [if_pos ⟨rfl, hw⟩] at this; exact this
          have G := HWA.out _ hw
          clear hw
          go_wp2_with fail
          refine G.mono ?_
          rintro e1 w1 ⟨rfl, k1⟩
          clear G
          go_wp2
          go_ret
          exact ⟨rfl, KW.out.trans (K.out.trans k1)⟩
        | false =>
          have F := Lib.hid (show wroteI yy (cs.drop (j + 1)) = R by have := HRR.out; rw [if_neg (fun c => by rw [hw] at c; cases c.2)] at this; exact this)
          have G := HWA.out _ hw
          clear hw
          go_wp2_with fail
          refine G.mono ?_
          rintro e1 w1 ⟨rfl, k1⟩
          clear G
          go_wp2
          first | exact ⟨⟨j + 1, by rw [HM.out]; omega, by go_num, K.out.trans k1, F.out⟩, by simp [intOf]; omega⟩ | (refine ⟨?rel2, ?meas2⟩; (case meas2 => (simp [intOf]; omega)); (case rel2 => ((repeat apply Exists.intro); exact ⟨⟨j + 1, by rw [HM.out]; omega, by go_num, K.out.trans k1, F.out⟩, rfl⟩)))
      · have F := Lib.hid (show wroteI key (cs.drop (j + 1)) = R by have := HRR.out; rw [if_neg (fun c => hk c.1)] at this; exact this)
        have ee : (yy == key) = false := by simpa using hk
        clear hk
        go_wp2
        first | exact ⟨⟨j + 1, by rw [HM.out]; omega, by go_num, K.out, F.out⟩, by simp [intOf]; omega⟩ | (refine ⟨?rel2, ?meas2⟩; (case meas2 => (simp [intOf]; omega)); (case rel2 => ((repeat apply Exists.intro); exact ⟨⟨j + 1, by rw [HM.out]; omega, by go_num, K.out, F.out⟩, rfl⟩)))
    · obtain rfl : j = m := by omega
      rw [show cs.drop j = [] by rw [← HM.out, List.drop_length]] at hr
      obtain rfl : false = R := hr
      go_wp2
      go_ret
      exact ⟨rfl, KW.out.trans K.out⟩
end
end Go.Proofs.Ytalkfnblnlcklaa
/- vinculumref20's Holds. Condition: Deals that are not too many; a contract of Repeatable. -/
namespace Go.Proofs.Ytalkfnblnlcklaa
open Go.ChangeShapes Go.WideShapes Go.ChangeAt Go.RowKit
set_option linter.unusedVariables false
set_option linter.unusedSimpArgs false
def repGo (view : List (Int × Int)) (wrote : List Int) : List (OpI × ReI) → Bool
 | [] => true
 | c :: l => if c.1.kind = 1 ∧ c.2.e = 0 ∧ c.1.key ∉ wrote ∧ findP view c.1.key ≠ some c.2.val then false else repGo view (if writesI c = true then wrote ++ [c.1.key] else wrote) l
def repP (ds : List DlI) (id : Int) : Bool := match doneP ds id with
  | none => false
  | some k => match ds[k]? with
    | none => false
    | some d => holdsP ds k d.start && repGo (stateP ds (beforeI d.stop) k) [] d.ops
def okP (ds : List DlI) (d : DlI) : Bool := if d.level = 1 then snapP ds d.id else if d.level = 2 then repP ds d.id else if d.level = 3 then snapP ds d.id && serialP ds d.id else false
def holdB (ds : List DlI) (bad : Int) : List DlI → Int
 | [] => bad
 | d :: l => if (d.state = 3 ∧ ¬(bad ≠ 0 ∧ d.id > bad)) ∧ okP ds d = false then holdB ds d.id l else holdB ds bad l
def HdK (ds : List DlI) (R : Int) (w : World) (b i : Value) (wr : World) : Prop := ∃ (j : Nat) (bad : Int), j ≤ ds.length ∧ i = .int .i64 j ∧ b = .int .i64 bad ∧ Keep (fun _ => False) w wr ∧ holdB ds bad (ds.drop j) = R
section
variable {w w' : World} {v : Value} {ds : List DlI}
set_option maxRecDepth 100000 in
set_option maxHeartbeats 8000000 in
theorem holdsall_any (h : DealsIn w v ds) (hb : DlB ds) (hu : DlU ds) (RPT : ∀ w1, Keep (fun _ => False) w w1 → ∀ id, Calls Try.prog 22 #[v, .int .i64 id] w1 fun e w' => e = .returned (.bool (repP ds id)) ∧ Keep (fun _ => False) w1 w') (R : Int) (hR : holdB ds 0 ds = R) :
  Calls Try.prog 10 #[v] w fun e w' => e = .returned (.tuple #[.bool (decide (R = 0)), .int .i64 R]) ∧ Keep (fun _ => False) w w' := by
 have SE := Lib.hid fun w1 (k : Keep (fun _ => False) w w1) id => serial_any (h.keep k) hb hu id _ rfl
 have SN := Lib.hid fun w1 (k : Keep (fun _ => False) w w1) id => snap_any (h.keep k) hb hu id _ rfl
 obtain ⟨A, c, rfl, hc, hm, hf⟩ := h.form
 obtain ⟨n, hn⟩ : ∃ n, ds.length = n := ⟨_, rfl⟩
 have nb := hb.n
 rw [hn] at hc hf nb SE SN RPT ⊢
 have HF := Lib.hid hf
 have HN := Lib.hid hn
 have HR := Lib.hid hR
 have RP := Lib.hid RPT
 clear h hb hu hf hn hR RPT
 go_enter Try.func10, Try.ntmps10
 go_wp2
 go_loopw [4, 5] (HdK ds R w) (fun _ i _ => n - (intOf i).toNat)
 case atStart => exact ⟨0, 0, Nat.zero_le _, rfl, rfl, Keep.refl _ _, by rw [List.drop_zero]; exact HR.out⟩
 case round =>
  obtain ⟨j, bad, hj, rfl, rfl, kw, hr⟩ := hrel
  rw [HN.out] at hj
  by_cases hlt : j < n
  ·obtain ⟨x, hx⟩ : ∃ x, ds[j]? = some x := ⟨_, List.getElem?_eq_getElem (by rw [HN.out]; exact hlt)⟩
   obtain ⟨b, off, rfl, hcc⟩ := HF.out (by omega)
   obtain ⟨A2, c2, L2, d0, d1, d2, d3, d4, d5⟩ := hcc j x hx
   have wj : IntKind.i64.wrap ((j : Int) + 1) = (j : Int) + 1 := IntWalk.i64_in _ (by omega)
   have dj : ds.drop j = x :: ds.drop (j + 1) := by
    obtain ⟨hl, e⟩ := List.getElem?_eq_some_iff.1 hx
    rw [List.drop_eq_getElem_cons hl, e]
   rw [dj] at hr
   unfold holdB at hr
   have e0 := kw.cell d0 id
   have e1 := kw.cell d1 id
   have e2 := kw.cell d2 id
   have SN1 := SN.out wr kw x.id
   have RP1 := RP.out wr kw x.id
   have SE1 := Lib.hid fun w1 (k : Keep (fun _ => False) wr w1) => SE.out w1 (kw.trans k) x.id
   obtain ⟨ok, hok⟩ : ∃ r, okP ds x = r := ⟨_, rfl⟩
   rw [hok] at hr
   have OK := Lib.hid (show ok = if x.level = 1 then snapP ds x.id else if x.level = 2 then repP ds x.id else if x.level = 3 then snapP ds x.id && serialP ds x.id else false by rw [← hok]; rfl)
   obtain ⟨xi, xl, xs, xb, xe, xo⟩ := x
   dsimp only at e0 e1 e2 SN1 RP1 SE1 OK hr
   have KW := Lib.hid kw
   have HRR := Lib.hid hr
   obtain ⟨sn, hsn⟩ : ∃ r, snapP ds xi = r := ⟨_, rfl⟩
   obtain ⟨se, hse⟩ : ∃ r, serialP ds xi = r := ⟨_, rfl⟩
   obtain ⟨rp, hrp⟩ : ∃ r, repP ds xi = r := ⟨_, rfl⟩
   rw [hsn] at SN1 OK
   rw [hse] at SE1 OK
   rw [hrp] at RP1 OK
   clear hx hcc L2 d0 d1 d2 d3 d4 d5 dj kw hr hok hsn hse hrp
   by_cases h3 : xs = 3
   ·subst h3
    by_cases q0 : bad = 0
    ·subst q0
     have FT := Lib.hid (show ok = true → holdB ds 0 (ds.drop (j + 1)) = R from fun h => by have := HRR.out; rw [h, if_neg (by simp)] at this; exact this)
     have FF := Lib.hid (show ok = false → holdB ds xi (ds.drop (j + 1)) = R from fun h => by have := HRR.out; rw [h, if_pos ⟨⟨rfl, by simp⟩, rfl⟩] at this; exact this)
     (by_cases l1 : xl = 1; (subst l1; have OK := Lib.hid (OK.out.trans (if_pos rfl)); clear RP1; cases sn with | true => (go_wp2_with fail; refine SN1.mono ?_; rintro e7 w1 ⟨rfl, k1⟩; have e8 := k1.cell e0 id; clear SN1; go_wp2; first | exact ⟨⟨j + 1, 0, by rw [HN.out]; omega, by go_num, rfl, KW.out.trans k1, FT.out OK.out⟩, by simp [intOf]; omega⟩ | (refine ⟨?rel2, ?meas2⟩; (case meas2 => (simp [intOf]; omega)); (case rel2 => ((repeat apply Exists.intro); exact ⟨⟨j + 1, 0, by rw [HN.out]; omega, by go_num, rfl, KW.out.trans k1, FT.out OK.out⟩, rfl⟩)))) | false => (go_wp2_with fail; refine SN1.mono ?_; rintro e7 w1 ⟨rfl, k1⟩; have e8 := k1.cell e0 id; clear SN1; go_wp2; first | exact ⟨⟨j + 1, xi, by rw [HN.out]; omega, by go_num, rfl, KW.out.trans k1, FF.out OK.out⟩, by simp [intOf]; omega⟩ | (refine ⟨?rel2, ?meas2⟩; (case meas2 => (simp [intOf]; omega)); (case rel2 => ((repeat apply Exists.intro); exact ⟨⟨j + 1, xi, by rw [HN.out]; omega, by go_num, rfl, KW.out.trans k1, FF.out OK.out⟩, rfl⟩))))); (have OK := Lib.hid (OK.out.trans (if_neg l1)); have n1 : (xl == 1) = false := (by simpa using l1); by_cases l2 : xl = 2; (subst l2; have OK := Lib.hid (OK.out.trans (if_pos rfl)); clear SN1; cases rp with | true => (go_wp2_with fail; refine RP1.mono ?_; rintro e7 w1 ⟨rfl, k1⟩; have e8 := k1.cell e0 id; clear RP1; go_wp2; first | exact ⟨⟨j + 1, 0, by rw [HN.out]; omega, by go_num, rfl, KW.out.trans k1, FT.out OK.out⟩, by simp [intOf]; omega⟩ | (refine ⟨?rel2, ?meas2⟩; (case meas2 => (simp [intOf]; omega)); (case rel2 => ((repeat apply Exists.intro); exact ⟨⟨j + 1, 0, by rw [HN.out]; omega, by go_num, rfl, KW.out.trans k1, FT.out OK.out⟩, rfl⟩)))) | false => (go_wp2_with fail; refine RP1.mono ?_; rintro e7 w1 ⟨rfl, k1⟩; have e8 := k1.cell e0 id; clear RP1; go_wp2; first | exact ⟨⟨j + 1, xi, by rw [HN.out]; omega, by go_num, rfl, KW.out.trans k1, FF.out OK.out⟩, by simp [intOf]; omega⟩ | (refine ⟨?rel2, ?meas2⟩; (case meas2 => (simp [intOf]; omega)); (case rel2 => ((repeat apply Exists.intro); exact ⟨⟨j + 1, xi, by rw [HN.out]; omega, by go_num, rfl, KW.out.trans k1, FF.out OK.out⟩, rfl⟩))))); (have OK := Lib.hid (OK.out.trans (if_neg l2)); have n2 : (xl == 2) = false := (by simpa using l2); clear RP1; by_cases l3 : xl = 3; (subst l3; have OK := Lib.hid (OK.out.trans (if_pos rfl)); cases sn with | false => (go_wp2_with fail; refine SN1.mono ?_; rintro e7 w1 ⟨rfl, k1⟩; have e8 := k1.cell e0 id; clear SN1; go_wp2; first | exact ⟨⟨j + 1, xi, by rw [HN.out]; omega, by go_num, rfl, KW.out.trans k1, FF.out OK.out⟩, by simp [intOf]; omega⟩ | (refine ⟨?rel2, ?meas2⟩; (case meas2 => (simp [intOf]; omega)); (case rel2 => ((repeat apply Exists.intro); exact ⟨⟨j + 1, xi, by rw [HN.out]; omega, by go_num, rfl, KW.out.trans k1, FF.out OK.out⟩, rfl⟩)))) | true => (go_wp2_with fail; refine SN1.mono ?_; rintro e7 w1 ⟨rfl, k1⟩; have e8 := k1.cell e0 id; clear SN1; have S2 := SE1.out w1 k1; cases se with | true => (go_wp2_with fail; refine S2.mono ?_; rintro e9 w2 ⟨rfl, k2⟩; have e10 := k2.cell e8 id; clear S2; go_wp2; first | exact ⟨⟨j + 1, 0, by rw [HN.out]; omega, by go_num, rfl, KW.out.trans (k1.trans k2), FT.out OK.out⟩, by simp [intOf]; omega⟩ | (refine ⟨?rel2, ?meas2⟩; (case meas2 => (simp [intOf]; omega)); (case rel2 => ((repeat apply Exists.intro); exact ⟨⟨j + 1, 0, by rw [HN.out]; omega, by go_num, rfl, KW.out.trans (k1.trans k2), FT.out OK.out⟩, rfl⟩)))) | false => (go_wp2_with fail; refine S2.mono ?_; rintro e9 w2 ⟨rfl, k2⟩; have e10 := k2.cell e8 id; clear S2; go_wp2; first | exact ⟨⟨j + 1, xi, by rw [HN.out]; omega, by go_num, rfl, KW.out.trans (k1.trans k2), FF.out OK.out⟩, by simp [intOf]; omega⟩ | (refine ⟨?rel2, ?meas2⟩; (case meas2 => (simp [intOf]; omega)); (case rel2 => ((repeat apply Exists.intro); exact ⟨⟨j + 1, xi, by rw [HN.out]; omega, by go_num, rfl, KW.out.trans (k1.trans k2), FF.out OK.out⟩, rfl⟩)))))); (have OK := Lib.hid (OK.out.trans (if_neg l3)); have n4 : (xl == 3) = false := (by simpa using l3); clear SN1 l1 l2 l3; go_wp2; first | exact ⟨⟨j + 1, xi, by rw [HN.out]; omega, by go_num, rfl, KW.out.trans (Keep.refl _ _), FF.out OK.out⟩, by simp [intOf]; omega⟩ | (refine ⟨?rel2, ?meas2⟩; (case meas2 => (simp [intOf]; omega)); (case rel2 => ((repeat apply Exists.intro); exact ⟨⟨j + 1, xi, by rw [HN.out]; omega, by go_num, rfl, KW.out.trans (Keep.refl _ _), FF.out OK.out⟩, rfl⟩)))))))
    ·by_cases q : xi > bad
     ·have F := Lib.hid (show holdB ds bad (ds.drop (j + 1)) = R by have := HRR.out; rw [if_neg (fun c => c.1.2 ⟨q0, q⟩)] at this; exact this)
      have n0 : (bad != 0) = true := by simpa using q0
      have dq : decide (bad < xi) = true := decide_eq_true q
      clear SN1 RP1 q0 q
      go_wp2
      first | exact ⟨⟨j + 1, bad, by rw [HN.out]; omega, by go_num, rfl, KW.out, F.out⟩, by simp [intOf]; omega⟩ | (refine ⟨?rel2, ?meas2⟩; (case meas2 => (simp [intOf]; omega)); (case rel2 => ((repeat apply Exists.intro); exact ⟨⟨j + 1, bad, by rw [HN.out]; omega, by go_num, rfl, KW.out, F.out⟩, rfl⟩)))
     ·have FT := Lib.hid (show ok = true → holdB ds bad (ds.drop (j + 1)) = R from fun h => by have := HRR.out; rw [h, if_neg (by simp)] at this; exact this)
      have FF := Lib.hid (show ok = false → holdB ds xi (ds.drop (j + 1)) = R from fun h => by have := HRR.out; rw [h, if_pos ⟨⟨rfl, fun c => q c.2⟩, rfl⟩] at this; exact this)
      have n0 : (bad != 0) = true := by simpa using q0
      have dq : decide (bad < xi) = false := decide_eq_false q
      clear q0 q
      (by_cases l1 : xl = 1; (subst l1; have OK := Lib.hid (OK.out.trans (if_pos rfl)); clear RP1; cases sn with | true => (go_wp2_with fail; refine SN1.mono ?_; rintro e7 w1 ⟨rfl, k1⟩; have e8 := k1.cell e0 id; clear SN1; go_wp2; first | exact ⟨⟨j + 1, bad, by rw [HN.out]; omega, by go_num, rfl, KW.out.trans k1, FT.out OK.out⟩, by simp [intOf]; omega⟩ | (refine ⟨?rel2, ?meas2⟩; (case meas2 => (simp [intOf]; omega)); (case rel2 => ((repeat apply Exists.intro); exact ⟨⟨j + 1, bad, by rw [HN.out]; omega, by go_num, rfl, KW.out.trans k1, FT.out OK.out⟩, rfl⟩)))) | false => (go_wp2_with fail; refine SN1.mono ?_; rintro e7 w1 ⟨rfl, k1⟩; have e8 := k1.cell e0 id; clear SN1; go_wp2; first | exact ⟨⟨j + 1, xi, by rw [HN.out]; omega, by go_num, rfl, KW.out.trans k1, FF.out OK.out⟩, by simp [intOf]; omega⟩ | (refine ⟨?rel2, ?meas2⟩; (case meas2 => (simp [intOf]; omega)); (case rel2 => ((repeat apply Exists.intro); exact ⟨⟨j + 1, xi, by rw [HN.out]; omega, by go_num, rfl, KW.out.trans k1, FF.out OK.out⟩, rfl⟩))))); (have OK := Lib.hid (OK.out.trans (if_neg l1)); have n1 : (xl == 1) = false := (by simpa using l1); by_cases l2 : xl = 2; (subst l2; have OK := Lib.hid (OK.out.trans (if_pos rfl)); clear SN1; cases rp with | true => (go_wp2_with fail; refine RP1.mono ?_; rintro e7 w1 ⟨rfl, k1⟩; have e8 := k1.cell e0 id; clear RP1; go_wp2; first | exact ⟨⟨j + 1, bad, by rw [HN.out]; omega, by go_num, rfl, KW.out.trans k1, FT.out OK.out⟩, by simp [intOf]; omega⟩ | (refine ⟨?rel2, ?meas2⟩; (case meas2 => (simp [intOf]; omega)); (case rel2 => ((repeat apply Exists.intro); exact ⟨⟨j + 1, bad, by rw [HN.out]; omega, by go_num, rfl, KW.out.trans k1, FT.out OK.out⟩, rfl⟩)))) | false => (go_wp2_with fail; refine RP1.mono ?_; rintro e7 w1 ⟨rfl, k1⟩; have e8 := k1.cell e0 id; clear RP1; go_wp2; first | exact ⟨⟨j + 1, xi, by rw [HN.out]; omega, by go_num, rfl, KW.out.trans k1, FF.out OK.out⟩, by simp [intOf]; omega⟩ | (refine ⟨?rel2, ?meas2⟩; (case meas2 => (simp [intOf]; omega)); (case rel2 => ((repeat apply Exists.intro); exact ⟨⟨j + 1, xi, by rw [HN.out]; omega, by go_num, rfl, KW.out.trans k1, FF.out OK.out⟩, rfl⟩))))); (have OK := Lib.hid (OK.out.trans (if_neg l2)); have n2 : (xl == 2) = false := (by simpa using l2); clear RP1; by_cases l3 : xl = 3; (subst l3; have OK := Lib.hid (OK.out.trans (if_pos rfl)); cases sn with | false => (go_wp2_with fail; refine SN1.mono ?_; rintro e7 w1 ⟨rfl, k1⟩; have e8 := k1.cell e0 id; clear SN1; go_wp2; first | exact ⟨⟨j + 1, xi, by rw [HN.out]; omega, by go_num, rfl, KW.out.trans k1, FF.out OK.out⟩, by simp [intOf]; omega⟩ | (refine ⟨?rel2, ?meas2⟩; (case meas2 => (simp [intOf]; omega)); (case rel2 => ((repeat apply Exists.intro); exact ⟨⟨j + 1, xi, by rw [HN.out]; omega, by go_num, rfl, KW.out.trans k1, FF.out OK.out⟩, rfl⟩)))) | true => (go_wp2_with fail; refine SN1.mono ?_; rintro e7 w1 ⟨rfl, k1⟩; have e8 := k1.cell e0 id; clear SN1; have S2 := SE1.out w1 k1; cases se with | true => (go_wp2_with fail; refine S2.mono ?_; rintro e9 w2 ⟨rfl, k2⟩; have e10 := k2.cell e8 id; clear S2; go_wp2; first | exact ⟨⟨j + 1, bad, by rw [HN.out]; omega, by go_num, rfl, KW.out.trans (k1.trans k2), FT.out OK.out⟩, by simp [intOf]; omega⟩ | (refine ⟨?rel2, ?meas2⟩; (case meas2 => (simp [intOf]; omega)); (case rel2 => ((repeat apply Exists.intro); exact ⟨⟨j + 1, bad, by rw [HN.out]; omega, by go_num, rfl, KW.out.trans (k1.trans k2), FT.out OK.out⟩, rfl⟩)))) | false => (go_wp2_with fail; refine S2.mono ?_; rintro e9 w2 ⟨rfl, k2⟩; have e10 := k2.cell e8 id; clear S2; go_wp2; first | exact ⟨⟨j + 1, xi, by rw [HN.out]; omega, by go_num, rfl, KW.out.trans (k1.trans k2), FF.out OK.out⟩, by simp [intOf]; omega⟩ | (refine ⟨?rel2, ?meas2⟩; (case meas2 => (simp [intOf]; omega)); (case rel2 => ((repeat apply Exists.intro); exact ⟨⟨j + 1, xi, by rw [HN.out]; omega, by go_num, rfl, KW.out.trans (k1.trans k2), FF.out OK.out⟩, rfl⟩)))))); (have OK := Lib.hid (OK.out.trans (if_neg l3)); have n4 : (xl == 3) = false := (by simpa using l3); clear SN1 l1 l2 l3; go_wp2; first | exact ⟨⟨j + 1, xi, by rw [HN.out]; omega, by go_num, rfl, KW.out.trans (Keep.refl _ _), FF.out OK.out⟩, by simp [intOf]; omega⟩ | (refine ⟨?rel2, ?meas2⟩; (case meas2 => (simp [intOf]; omega)); (case rel2 => ((repeat apply Exists.intro); exact ⟨⟨j + 1, xi, by rw [HN.out]; omega, by go_num, rfl, KW.out.trans (Keep.refl _ _), FF.out OK.out⟩, rfl⟩)))))))
   ·have n3 : (xs != 3) = true := by simpa using h3
    have F := Lib.hid (show holdB ds bad (ds.drop (j + 1)) = R by have := HRR.out; rw [if_neg (fun c => h3 c.1.1)] at this; exact this)
    clear SN1 RP1 h3
    go_wp2
    first | exact ⟨⟨j + 1, bad, by rw [HN.out]; omega, by go_num, rfl, KW.out, F.out⟩, by simp [intOf]; omega⟩ | (refine ⟨?rel2, ?meas2⟩; (case meas2 => (simp [intOf]; omega)); (case rel2 => ((repeat apply Exists.intro); exact ⟨⟨j + 1, bad, by rw [HN.out]; omega, by go_num, rfl, KW.out, F.out⟩, rfl⟩)))
  ·obtain rfl : j = n := by omega
   rw [show ds.drop j = [] by rw [← HN.out, List.drop_length]] at hr
   obtain rfl : bad = R := hr
   by_cases q0 : bad = 0
   ·subst q0
    go_wp2
    refine bodyPost_ret (v := .tuple #[.bool true, .int .i64 0]) (by simp [results, Try.results10, go_sem]) rfl ?_
    exact ⟨rfl, kw⟩
   ·have n0 : (bad == 0) = false := by simpa using q0
    have n1 : decide (bad = 0) = false := decide_eq_false q0
    go_wp2
    refine bodyPost_ret (v := .tuple #[.bool false, .int .i64 bad]) (by simp [results, Try.results10, go_sem]) rfl ?_
    exact ⟨by rw [n1], kw⟩
end
end Go.Proofs.Ytalkfnblnlcklaa
/- Views that tell the same of what is touched: what holds of one holds of the other. No dump; no condition. -/
namespace Go.Proofs.Ytalkfnblnlcklaa
set_option linter.unusedVariables false
/-- A key that a call looks at. -/
def tch (c : OpI × ReI) (k : Int) : Prop := (c.1.kind = 5 ∧ c.1.key ≤ k ∧ k ≤ c.1.hi) ∨ (c.1.kind ≠ 5 ∧ k = c.1.key)
section
variable {V V' : List (Int × Int)} {c : OpI × ReI} {cs : List (OpI × ReI)} {k : Int}
theorem right_congr (hl : Sk V) (hm : Sk V') (h : ∀ k, tch c k → findP V k = findP V' k) : rightP c V = rightP c V' := by
 unfold rightP
 by_cases h5 : c.1.kind = 5
 ·have e := range_ext hl hm (lo := c.1.key) (hi := c.1.hi) fun k a b => h k (.inl ⟨h5, a, b⟩)
  simp only [h5, e]
  simp
 ·have e := h c.1.key (.inr ⟨h5, rfl⟩)
  simp only [e, h5, if_false]
theorem laid_find (hl : Sk V) : findP (laidP V c) k = if c.2.e = 0 ∧ k = c.1.key ∧ (c.1.kind = 2 ∨ c.1.kind = 3) then some c.1.val else if c.2.e = 0 ∧ k = c.1.key ∧ c.1.kind = 4 then none else findP V k := by
 unfold laidP
 by_cases e : c.2.e = 0
 ·rw [if_neg (by simpa using e)]
  by_cases k2 : c.1.kind = 2 ∨ c.1.kind = 3
  ·rw [if_pos k2, find_setP hl]
   by_cases q : k = c.1.key
   ·rw [if_pos q, if_neg (by simp : ¬ (false = true)), if_pos ⟨e, q, k2⟩]
   ·rw [if_neg q, if_neg (fun t => q t.2.1), if_neg (fun t => q t.2.1)]
  ·rw [if_neg k2]
   by_cases k4 : c.1.kind = 4
   ·rw [if_pos k4, find_setP hl]
    by_cases q : k = c.1.key
    ·rw [if_pos q, if_pos (rfl : true = true), if_neg (fun t => k2 t.2.2), if_pos ⟨e, q, k4⟩]
    ·rw [if_neg q, if_neg (fun t => q t.2.1), if_neg (fun t => q t.2.1)]
   ·rw [if_neg k4, if_neg (fun t => k2 t.2.2), if_neg (fun t => k4 t.2.2)]
 ·rw [if_pos e, if_neg (fun t => e t.1), if_neg (fun t => e t.1)]
theorem laid_congr (hl : Sk V) (hm : Sk V') (h : findP V k = findP V' k) : findP (laidP V c) k = findP (laidP V' c) k := by
 rw [laid_find hl, laid_find hm, h]
theorem holds_cons : holdsGo V (c :: cs) = (rightP c V && holdsGo (laidP V c) cs) := by
 conv => lhs; unfold holdsGo
theorem holds_congr (hl : Sk V) (hm : Sk V') (h : ∀ c ∈ cs, ∀ k, tch c k → findP V k = findP V' k) : holdsGo V cs = holdsGo V' cs := by
  induction cs generalizing V V' with
  | nil => rfl
  | cons c cs ih =>
    rw [holds_cons, holds_cons, right_congr hl hm (h c (List.mem_cons_self ..)), ih (sk_laid hl c) (sk_laid hm c) fun c' hc k hk => laid_congr hl hm (h c' (List.mem_cons_of_mem _ hc) k hk)]
theorem holds_snoc (V : List (Int × Int)) (cs : List (OpI × ReI)) (c : OpI × ReI) : holdsGo V (cs ++ [c]) = (holdsGo V cs && rightP c (cs.foldl laidP V)) := by
  induction cs generalizing V with
  | nil =>
    show holdsGo V [c] = _
    rw [holds_cons]
    simp [holdsGo]
  | cons a cs ih =>
    rw [List.cons_append, holds_cons, ih, holds_cons, Bool.and_assoc]
    rfl
theorem rep_of {V0 : List (Int × Int)} (hl : Sk V) : ∀ (wr : List Int), (∀ k, k ∉ wr → findP V k = findP V0 k) → holdsGo V cs = true → (∀ c ∈ cs, c.1.kind = 1 → c.2.e = 0 → findP V' c.1.key = findP V0 c.1.key) → repGo V' wr cs = true := by
  induction cs generalizing V with
  | nil => exact fun _ _ _ _ => rfl
  | cons c cs ih =>
    intro wr hw hh hr
    rw [holds_cons, Bool.and_eq_true] at hh
    unfold repGo
    rw [if_neg]
    · refine ih (sk_laid hl c) _ (fun k hk => ?_) hh.2 fun c' hc => hr c' (List.mem_cons_of_mem _ hc)
      rw [laid_find hl]
      by_cases w : writesI c = true
      · rw [if_pos w] at hk
        have nk : k ≠ c.1.key := fun e => hk (List.mem_append_right _ (List.mem_singleton.2 e))
        rw [if_neg (fun t => nk t.2.1), if_neg (fun t => nk t.2.1)]
        exact hw k (fun q => hk (List.mem_append_left _ q))
      · rw [if_neg w] at hk
        unfold writesI at w
        have w2 : ¬ (c.2.e = 0 ∧ (c.1.kind = 2 ∨ c.1.kind = 3 ∨ c.1.kind = 4)) := fun t => w (by
          rw [Bool.and_eq_true, Bool.or_eq_true, Bool.or_eq_true]
          simp only [decide_eq_true_eq]
          exact ⟨t.1, by omega⟩)
        rw [if_neg (fun t => w2 ⟨t.1, by omega⟩), if_neg (fun t => w2 ⟨t.1, by omega⟩)]
        exact hw k hk
    · rintro ⟨k1, e0, nw, ne⟩
      apply ne
      rw [hr c (List.mem_cons_self ..) k1 e0, ← hw _ nw]
      have := hh.1
      unfold rightP at this
      rw [if_pos k1] at this
      simp only [e0] at this
      cases f : findP V c.1.key with
      | none => rw [f] at this; simp at this
      | some v => rw [f] at this; simp at this; rw [this]
end
end Go.Proofs.Ytalkfnblnlcklaa
