/- Package tale: follow, Ok. Condition: events whose numbers are numbers. -/
import Derived.Test.YtalkfnblnlcklaaDoorTlQ
namespace Go.Proofs.YtalkfnblnlcklaaDoor
open Go.ChangeShapes Go.WideShapes Go.ChangeAt Go.RowKit
set_option linter.unusedVariables false
set_option linter.unusedSimpArgs false
section
variable {h h' : HsI} {l : List EvI} {v : EvI}
theorem go_more {k : Nat} (hg : h.go (l.take k) = some h') (hk : l[k]? = some v) (ha : h'.addE v = true) : h.go (l.take (k + 1)) = some (h'.addH v) := by
  obtain ⟨hl, e⟩ := List.getElem?_eq_some_iff.1 hk
  have : l.take (k + 1) = l.take k ++ [v] := by rw [List.take_add_one, hk]; rfl
  rw [this, go_append, hg]
  show h'.go [v] = _
  rw [go_cons, if_pos ha]
  rfl
theorem go_stop {k : Nat} (hg : h.go (l.take k) = some h') (hk : l[k]? = some v) (ha : h'.addE v = false) : h.far l = k ∧ h.go l = none := by
  induction l generalizing h k with
  | nil => simp at hk
  | cons a l ih =>
    cases k with
    | zero =>
      cases hg
      have e : a = v := by simpa using hk
      subst e
      rw [far_cons, go_cons, ha]
      exact ⟨rfl, rfl⟩
    | succ k =>
      rw [List.take_succ_cons, go_cons] at hg
      split at hg
      · next c =>
        obtain ⟨q1, q2⟩ := ih hg (by simpa using hk)
        rw [far_cons, go_cons, if_pos c, if_pos c, q1]
        exact ⟨rfl, q2⟩
      · cases hg
end
/-- Numbers of 64 bits. -/
def EvN (es : List EvI) : Prop := ∀ e ∈ es, 0 ≤ e.n ∧ e.n ≤ 18446744073709551615
def FoK (w : World) (es : List EvI) (h : Nat) (i : Value) (wr : World) : Prop := ∃ (k : Nat) (o : Nat → Nat) (B : List Nat) (va : Value) (z : HsI), k ≤ es.length ∧ i = .int .i64 k ∧ HsAt wr h o B va k z ∧ hs0.go (es.take k) = some z ∧ Keep (fun _ => False) w wr ∧ ∀ g, o g ≠ 0 → w.heap.size ≤ g
section
variable {w w' : World} {v : Value} {es : List EvI}
/-- What follow tells. -/
def FoP (w : World) (es : List EvI) (e : Ending) (w' : World) : Prop := ∃ h, e = .returned (.tuple #[.pointer (some ⟨h, 0, none⟩), .int .i64 (okAt es)]) ∧ Keep (fun _ => False) w w' ∧ (okAt es = -1 → es.length ≤ 20000 ∧ ∃ o B va z, hs0.go es = some z ∧ HsAt w' h o B va es.length z ∧ ∀ g, o g ≠ 0 → w.heap.size ≤ g)
set_option maxRecDepth 100000 in
set_option maxHeartbeats 2000000 in
theorem follow_any (hv : EvsIn w v es) (hN : EvN es) : Calls Tryd.prog 12 #[v] w (FoP w es) := by
  obtain ⟨A, c, rfl, hc, hm, hf⟩ := hv.form
  obtain ⟨n, hn⟩ : ∃ n, es.length = n := ⟨_, rfl⟩
  obtain ⟨W, eW⟩ : ∃ W, w.alloc (.cells #[.slice none 0 0, .int .u64 0] 55) = W := ⟨_, rfl⟩
  have H0 := hs_new w 55
  have kW : Keep (fun _ => False) w W := by rw [← eW]; exact (Keep.refl _ _).alloc _
  rw [eW] at H0
  obtain ⟨h, eh⟩ : ∃ h, w.heap.size = h := ⟨_, rfl⟩
  have o0 : ∀ g, (if g = w.heap.size then 1 else 0) ≠ 0 → w.heap.size ≤ g := fun g hg => by
    by_cases e : g = w.heap.size
    · omega
    · rw [if_neg e] at hg; exact absurd rfl hg
  have EHh := Lib.hid eh
  rw [hn] at hc hf ⊢
  have nb : n ≤ 2305843009213693952 ∨ True := .inr trivial
  have HN := Lib.hid hn
  have HF := Lib.hid hf
  have HX := Lib.hid hN
  clear hv hf hn hN
  by_cases hbig : 20000 < n
  · have eo : okAt es = 20000 := by unfold okAt; rw [if_pos (by rw [HN.out]; exact hbig)]
    have d1 : decide ((20000 : Int) < n) = true := decide_eq_true (by omega)
    unfold FoP
    rw [eo]
    have KW := Lib.hid kW
    clear H0 kW o0 eo hbig
    go_enter Tryd.func12, Tryd.ntmps12
    go_wp2
    first | go_ret2 | refine bodyPost_ret (v := .tuple #[.pointer (some ⟨h, 0, none⟩), .int .i64 20000]) (by simp [results, Tryd.results12, go_sem]) rfl ?_
    exact ⟨_, rfl, KW.out, fun e => by cases e⟩
  · have d1 : decide ((20000 : Int) < n) = false := decide_eq_false (by omega)
    have H1 : HsAt W h (fun g => if g = w.heap.size then 1 else 0) [] (.slice none 0 0) 0 hs0 := by rw [← eh]; exact H0
    have KW := Lib.hid kW
    have OO := Lib.hid o0
    clear H0 kW o0
    go_enter Tryd.func12, Tryd.ntmps12
    go_wp2
    go_loopw [15] (FoK w es h) (fun i _ => n - (intOf i).toNat)
    case atStart => exact ⟨0, _, [], _, hs0, Nat.zero_le _, rfl, H1, rfl, KW.out, OO.out⟩
    case round =>
      obtain ⟨k, o, B, va, z, hk, rfl, H, hg, kw, lo⟩ := hrel
      rw [HN.out] at hk
      clear H1
      by_cases hlt : k < n
      · obtain ⟨x, hx⟩ : ∃ x, es[k]? = some x := ⟨_, List.getElem?_eq_getElem (by rw [HN.out]; exact hlt)⟩
        obtain ⟨b, off, rfl, hb, hcc⟩ := HF.out (by omega)
        obtain ⟨A2, c2, L2, E⟩ := hcc k x hx
        have E := E.keep kw id
        obtain ⟨V, eV, X, kV⟩ := ev_box wr x (.slice A2 x.r.pairs.length c2)
        have AD := Lib.hid (add_any (A := A2) (q := x.r.pairs.length) (c := c2) (H.quiet kV) (by omega : k ≤ 20000) (HX.out x (List.mem_of_getElem? hx)))
        obtain ⟨c0, c1, c2', c3, c4, c5, c6, c7, c8, c9, c10, c11⟩ := E
        obtain ⟨x0, x1, x2, x3, x4, x5, x6, x7, x8, x9, x10, x11⟩ := X
        simp only [Nat.zero_add] at x0 x1 x2 x3 x4 x5 x6 x7 x8 x9 x10 x11
        have KV := Lib.hid (kw.trans kV)
        have GO := Lib.hid hg
        have HXx := Lib.hid hx
        have HH := Lib.hid H
        have LO := Lib.hid lo
        have wk : IntKind.i64.wrap ((k : Int) + 1) = (k : Int) + 1 := IntWalk.i64_in _ (by omega)
        obtain ⟨pl, hpl⟩ : ∃ pl, x.r.pairs.length = pl := ⟨_, rfl⟩
        rw [hpl] at AD c9 x9 eV
        obtain ⟨N, eN⟩ : ∃ N, wr.heap.size = N := ⟨_, rfl⟩
        rw [eN] at x0 x1 x2 x3 x4 x5 x6 x7 x8 x9 x10 x11
        have lV : wr.heap.size ≤ V.heap.size := kV.size
        clear hcc L2 hb kw hg hx H lo kV hpl
        obtain ⟨r, er⟩ : ∃ r, z.addE x = r := ⟨_, rfl⟩
        obtain ⟨Z, eZ⟩ : ∃ Z, z.addH x = Z := ⟨_, rfl⟩
        rw [er, eZ] at AD
        have ER := Lib.hid er
        have EZ := Lib.hid eZ
        unfold evV at AD
        clear er eZ
        obtain ⟨kd, tt, nn, ⟨ok, oy, oh, ov⟩, ⟨re, rv, ps, ro, rr⟩⟩ := x
        dsimp only at AD c0 c1 c2' c3 c4 c5 c6 c7 c8 c9 c10 c11 x0 x1 x2 x3 x4 x5 x6 x7 x8 x9 x10 x11 eV
        go_wp2_with fail
        refine AD.out.mono ?_
        rintro e w2 ⟨rfl, p1, p2⟩
        cases r with
        | true =>
          obtain ⟨o', B', va', q1, q2, q3⟩ := p1 rfl
          have F : FoK w es h (.int .i64 ((k : Int) + 1)) w2 := ⟨k + 1, o', B', va', Z, by rw [HN.out]; omega, by go_num, q1, by rw [← EZ.out]; exact go_more GO.out HXx.out ER.out, KV.out.older q2 (fun j hj => LO.out j hj), fun g hg => by
            rcases q3 g hg with c | c
            · exact LO.out g c
            · exact Nat.le_trans KV.out.size c⟩
          have FF := Lib.hid F
          clear p1 p2 q1 q2 q3 F
          go_wp2
          first | exact ⟨FF.out, by simp [intOf]; omega⟩ | (refine ⟨?rel2, ?meas2⟩; (case meas2 => (simp [intOf]; omega)); (case rel2 => exact FF.out))
        | false =>
          have k2 := p2 rfl
          obtain ⟨s1, s2⟩ := go_stop GO.out HXx.out ER.out
          have eo : okAt es = k := by unfold okAt; rw [if_neg (by rw [HN.out]; omega), s2, s1]
          have FIN := Lib.hid (show FoP w es (.returned (.tuple #[.pointer (some ⟨h, 0, none⟩), .int .i64 k])) w2 from ⟨h, by rw [eo], KV.out.trans k2, fun e => by omega⟩)
          clear p1 p2 k2 s1 s2 eo
          go_wp2
          first | go_ret2 | refine bodyPost_ret (v := .tuple #[.pointer (some ⟨h, 0, none⟩), .int .i64 k]) (by simp [results, Tryd.results12, go_sem]) rfl ?_
          exact FIN.out
      · obtain rfl : k = n := by omega
        have hg' : hs0.go es = some z := by rw [← hg, List.take_of_length_le (by rw [HN.out]; exact Nat.le_refl _)]
        have eo : okAt es = -1 := by unfold okAt; rw [if_neg (by rw [HN.out]; omega), hg']
        have FIN := Lib.hid (show FoP w es (.returned (.tuple #[.pointer (some ⟨h, 0, none⟩), .int .i64 (-1)])) wr from ⟨h, by rw [eo], kw, fun _ => ⟨by rw [HN.out]; omega, o, B, va, z, hg', by rw [HN.out]; exact H, lo⟩⟩)
        clear H hg hg' kw lo eo
        go_wp2
        first | go_ret2 | refine bodyPost_ret (v := .tuple #[.pointer (some ⟨h, 0, none⟩), .int .i64 (-1)]) (by simp [results, Tryd.results12, go_sem]) rfl ?_
        exact FIN.out
theorem ok_lt (es : List EvI) : decide (okAt es < 0) = decide (okAt es = -1) := by
  unfold okAt
  split
  · rfl
  · split
    · rfl
    · rw [Bool.eq_iff_iff]; simp
set_option maxRecDepth 100000 in
theorem ok_any (hv : EvsIn w v es) (hN : EvN es) (a : Int) (ha : okAt es = a) : Calls Tryd.prog 7 #[v] w fun e w' => e = .returned (.tuple #[.bool (decide (a < 0)), .int .i64 a]) ∧ Keep (fun _ => False) w w' := by
  have F := follow_any hv hN
  unfold FoP at F
  rw [ha] at F
  obtain ⟨A, c, rfl, _⟩ := hv.form
  clear hv hN ha
  go_enter Tryd.func7, Tryd.ntmps7
  go_wp2_with fail
  refine F.mono ?_
  rintro e w1 ⟨h, rfl, k1, _⟩
  go_wp2
  first | go_ret2 | refine bodyPost_ret (v := .tuple #[.bool (decide (a < 0)), .int .i64 a]) (by simp [results, Tryd.results7, go_sem]) rfl ?_
  exact ⟨rfl, k1⟩
end
end Go.Proofs.YtalkfnblnlcklaaDoor
