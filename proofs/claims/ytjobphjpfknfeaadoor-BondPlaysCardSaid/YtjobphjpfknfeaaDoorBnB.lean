/- Package bond: bind; conditions: what the Bonds are, the table of math/bits. -/
import Derived.Test.YtjobphjpfknfeaaDoorBnC
namespace Go.Proofs.YtjobphjpfknfeaaDoor
open Go.ChangeShapes Go.WideShapes Go.ChangeAt Go.RowKit
set_option linter.unusedVariables false
open Classical

/-- One more that it waits for directly. -/
def tieP (k : Nat) (x : Pty) : Pty := { x with bo := fun z => x.bo z ∨ z = k }
noncomputable def doomX (xs : List Pty) (k : Nat) : List Pty := doomL xs (plc (fun q => (pty xs k).ab q ∨ q = k) 2048)
noncomputable def carryX (xs : List Pty) (kx ky : Nat) : List Pty :=
  updL (jaP fun q => (pty xs kx).ab q ∨ q = kx) (updL (jbP fun q => (pty xs ky).be q ∨ q = ky) xs (plc (fun q => ((pty xs kx).ab q ∨ q = kx) ∧ ¬ (pty xs ky).ab q) 2048)) (plc (fun q => ((pty xs ky).be q ∨ q = ky) ∧ ¬ (pty xs kx).be q) 2048)
/-- All sets hold places alone that there are. -/
def InX (xs : List Pty) : Prop := ∀ i, i < xs.length → ∀ q, q < 2048 → ((pty xs i).bo q → q < xs.length) ∧ ((pty xs i).be q → q < xs.length) ∧ ((pty xs i).ab q → q < xs.length)
/-- What bind answers and leaves. -/
noncomputable def bindX (xs : List Pty) (kx ky : Nat) : Int × List Pty :=
  if (pty xs ky).st = 3 ∨ (pty xs kx).bo ky then (0, xs)
  else if (pty xs ky).st = 4 then (0, doomX xs kx)
  else if (pty xs ky).be kx then (17, xs)
  else (0, if (pty xs ky).st = 2 then doomX (carryX (xs.set kx (tieP ky (pty xs kx))) kx ky) kx else carryX (xs.set kx (tieP ky (pty xs kx))) kx ky)
section
variable {w w' w2 : World} {p m kx ky i k : Nat} {v u : Value} {bs L : List Nat} {xs : List Pty} {f : Pty → Pty}
theorem InX.upd (h : InX xs) (hL : L.Nodup) (hl : ∀ q ∈ L, q < xs.length) (hf : ∀ x : Pty, ∀ q, q < 2048 → (((f x).bo q → x.bo q ∨ q < xs.length) ∧ ((f x).be q → x.be q ∨ q < xs.length) ∧ ((f x).ab q → x.ab q ∨ q < xs.length))) : InX (updL f xs L) := by
  intro i hi q hq
  rw [updL_len] at hi ⊢
  rw [updL_get _ _ hL hl]
  have h0 := h i hi q hq
  by_cases e : i ∈ L
  · rw [if_pos e]
    have h1 := hf (pty xs i) q hq
    exact ⟨fun c => (h1.1 c).elim h0.1 id, fun c => (h1.2.1 c).elim h0.2.1 id, fun c => (h1.2.2 c).elim h0.2.2 id⟩
  · rw [if_neg e]; exact h0
theorem InX.tie (h : InX xs) (hkx : kx < xs.length) (hky : ky < xs.length) : InX (xs.set kx (tieP ky (pty xs kx))) := by
  intro i hi q hq
  rw [List.length_set] at hi ⊢
  rw [pty_set kx i hkx]
  by_cases e : i = kx
  · rw [if_pos e]
    have h0 := h kx hkx q hq
    exact ⟨fun c => c.elim h0.1 fun e => by omega, h0.2.1, h0.2.2⟩
  · rw [if_neg e]; exact h i hi q hq
theorem carry_rows (h : InX xs) (hkx : kx < xs.length) (hky : ky < xs.length) :
    (∀ q ∈ plc (fun q => ((pty xs kx).ab q ∨ q = kx) ∧ ¬ (pty xs ky).ab q) 2048, q < xs.length) ∧ (∀ q ∈ plc (fun q => ((pty xs ky).be q ∨ q = ky) ∧ ¬ (pty xs kx).be q) 2048, q < xs.length) :=
  ⟨plc_lt fun q hq c => c.1.elim (h kx hkx q hq).2.2 fun e => by omega, plc_lt fun q hq c => c.1.elim (h ky hky q hq).2.1 fun e => by omega⟩
theorem carry_len : (carryX xs kx ky).length = xs.length := by unfold carryX; rw [updL_len, updL_len]
theorem doomX_len : (doomX xs k).length = xs.length := doomL_len _ _
theorem InX.carry (h : InX xs) (hkx : kx < xs.length) (hky : ky < xs.length) : InX (carryX xs kx ky) := by
  obtain ⟨r1, r2⟩ := carry_rows h hkx hky
  have h1 : InX (updL (jbP fun q => (pty xs ky).be q ∨ q = ky) xs (plc (fun q => ((pty xs kx).ab q ∨ q = kx) ∧ ¬ (pty xs ky).ab q) 2048)) := h.upd plc_nd r1 fun x q hq => ⟨.inl, fun c => c.elim .inl fun c => .inr (c.elim (h ky hky q hq).2.1 fun e => by omega), .inl⟩
  have e : (updL (jbP fun q => (pty xs ky).be q ∨ q = ky) xs (plc (fun q => ((pty xs kx).ab q ∨ q = kx) ∧ ¬ (pty xs ky).ab q) 2048)).length = xs.length := updL_len _ _
  refine h1.upd plc_nd (by rw [e]; exact r2) fun x q hq => ⟨.inl, .inl, fun c => c.elim .inl fun c => .inr ?_⟩
  rw [e]
  exact c.elim (h kx hkx q hq).2.2 fun e => by omega
theorem carry_same (h : InX xs) (hkx : kx < xs.length) (hky : ky < xs.length) (i : Nat) : (pty (carryX xs kx ky) i).st = (pty xs i).st ∧ (pty (carryX xs kx ky) i).id = (pty xs i).id ∧ (pty (carryX xs kx ky) i).bo = (pty xs i).bo := by
  obtain ⟨r1, r2⟩ := carry_rows h hkx hky
  unfold carryX
  rw [updL_get _ _ plc_nd (by rw [updL_len]; exact r2), updL_get _ _ plc_nd r1]
  split
  · split
    · exact ⟨rfl, rfl, rfl⟩
    · exact ⟨rfl, rfl, rfl⟩
  · split
    · exact ⟨rfl, rfl, rfl⟩
    · exact ⟨rfl, rfl, rfl⟩
/-- What the last steps of bind leave: the bond is laid. -/
theorem PFt_len {n n' : Nat} (e : n = n') : PFt bs n = PFt bs n' := by rw [e]
set_option maxRecDepth 100000 in
set_option maxHeartbeats 4000000 in
theorem bind_any (h : BdC w p m v bs xs) (hkx : kx < xs.length) (hky : ky < xs.length) (hne : kx ≠ ky) (hI : InX xs) (hT : TabW w) (ht : 0 < w.heap.size) (hG : ¬ PFt bs xs.length 0) (r : Int) (ys : List Pty) (hr : bindX xs kx ky = (r, ys)) :
    Calls Tryd.prog 27 #[.pointer (some ⟨p, 0, none⟩), .pointer (some ⟨bs.getD kx 0, 0, none⟩), .pointer (some ⟨bs.getD ky 0, 0, none⟩)] w fun e w' => e = .returned (.int .i64 r) ∧ BdC w' p m v bs ys ∧ Keep (PFt bs xs.length) w w' := by
  have hX := h.en kx hkx
  have hY := h.en ky hky
  have xl := h.short
  obtain ⟨bx, ebx⟩ : ∃ b, bs.getD kx 0 = b := ⟨_, rfl⟩
  obtain ⟨byy, eby⟩ : ∃ b, bs.getD ky 0 = b := ⟨_, rfl⟩
  have EBX := Lib.hid ebx
  have EBY := Lib.hid eby
  rw [ebx] at hX ⊢
  rw [eby] at hY ⊢
  clear ebx eby
  have H := Lib.hid h
  have HX := Lib.hid hX
  have HY := Lib.hid hY
  clear h hX hY
  unfold bindX at hr
  obtain ⟨b1, hb1⟩ := a_bool ((pty xs ky).st = 3 ∨ (pty xs kx).bo ky)
  have HR := Lib.hid hr
  have HB1 := Lib.hid hb1
  clear hr hb1
  go_enter Tryd.func27, Tryd.ntmps27
  go_upto_region 1 with fail
  go_cut [7] from 8 to 22 (fun v7 wx => v7 = .bool b1 ∧ ∃ d : Nat, wx = w.drewN d)
  case first =>
    have cy2 := HY.out.c2
    have cy1 := HY.out.c1
    have hs := fun d => has_any (SetAt.keep (T := fun _ => False) HX.out.s1 (drewN_keep _ w d) id) ky (by omega)
    by_cases h3 : (pty xs ky).st = 3
    · obtain rfl : true = b1 := (HB1.out.2 (.inl h3)).symm
      rw [h3] at cy2
      go_wp2_with fail
      go_quiet (fail)
      go_wp2_with fail
      go_meet
      case rel => exact ⟨rfl, _, rfl⟩
    · obtain ⟨s, es⟩ : ∃ s, (pty xs ky).st = s := ⟨_, rfl⟩
      rw [es] at cy2 h3
      have q3 : (s == 3) = false := by simpa using h3
      have e1 : decide ((pty xs kx).bo ky) = b1 := by
        rw [Bool.eq_iff_iff, decide_eq_true_iff, HB1.out, es]
        exact ⟨.inr, fun c => c.elim (fun e => absurd e h3) id⟩
      simp only [e1] at hs
      clear es e1
      go_wp2_with fail
      go_quiet ((go_at_call 39; exact Calls.quiet_of_same ((hs _).mono fun _ _ ⟨a, b⟩ => ⟨a, b.symm⟩)))
      go_wp2_with fail
      go_meet
      case rel => exact ⟨rfl, _, rfl⟩
  case rest =>
  obtain ⟨rfl, d, ew⟩ := hcut
  have kd : Keep (fun _ => False) w wc := by rw [ew]; exact drewN_keep _ w d
  have tc := hT.keep kd id
  have tl : 0 < wc.heap.size := Nat.lt_of_lt_of_le ht kd.size
  have hc := H.out.keep kd (fun _ _ q => q)
  clear ew d hT ht
  cases b1
  · have n1 : ¬ ((pty xs ky).st = 3 ∨ (pty xs kx).bo ky) := fun c => by have := HB1.out.2 c; cases this
    have HR2 := HR.out
    rw [if_neg n1] at HR2
    have hX := HX.out.keep kd id
    have hY := HY.out.keep kd id
    have cy2 := hY.c2
    have cx1 := hX.c1
    have cy1 := hY.c1
    clear HR HX HY HB1 H
    by_cases h4 : (pty xs ky).st = 4
    · rw [if_pos h4] at HR2
      obtain ⟨rfl, rfl⟩ : 0 = r ∧ doomX xs kx = ys := by simpa using HR2
      have dm := doom_any hc kx hkx (fun q hq => (hI kx hkx q hq).2.2) tc tl rfl
      rw [EBX.out] at dm
      rw [h4] at cy2
      clear HR2 hX hY cx1 cy1 hc tc n1 h4
      have KD := Lib.hid (kd.mono (T := PFt bs xs.length) fun _ e => e.elim)
      clear kd
      go_wp2_with fail
      refine dm.mono ?_
      rintro e wE ⟨u, rfl, _, hE, kE⟩
      have HE := Lib.hid hE
      have KE := Lib.hid (KD.out.trans kE)
      clear dm hE kE
      go_wp2
      go_ret
      exact ⟨rfl, HE.out, KE.out⟩
    · rw [if_neg h4] at HR2
      have q4 : ((pty xs ky).st == 4) = false := by simpa using h4
      obtain ⟨b6, hb6⟩ := a_bool ((pty xs ky).be kx)
      have hs := fun d => has_any (SetAt.keep (T := fun _ => False) hY.s2 (drewN_keep _ wc d) id) kx (by omega)
      have e6 : decide ((pty xs ky).be kx) = b6 := by rw [Bool.eq_iff_iff, decide_eq_true_iff, hb6]
      simp only [e6] at hs
      have HR := Lib.hid HR2
      have HC := Lib.hid hc
      have KD := Lib.hid kd
      have HXX := Lib.hid hX
      have HYY := Lib.hid hY
      have HB6 := Lib.hid hb6
      obtain ⟨s9, es9⟩ : ∃ s, (pty xs ky).st = s := ⟨_, rfl⟩
      have ES := Lib.hid es9
      rw [es9] at cy2 q4
      clear HR2 hc kd hX hY e6 hb6 es9 h4 n1
      go_wp2_with fail
      go_quiet ((go_at_call 39; exact Calls.quiet_of_same ((hs _).mono fun _ _ ⟨a, b⟩ => ⟨a, b.symm⟩)))
      obtain ⟨we, ee⟩ : ∃ we, wc.drewN nq = we := ⟨_, rfl⟩
      have kd := KD.out.trans (show Keep (fun _ => False) wc we by rw [← ee]; exact drewN_keep _ _ _)
      have k2 : Keep (fun _ => False) wc we := by rw [← ee]; exact drewN_keep _ _ _
      have hc := HC.out.keep k2 (fun _ _ q => q)
      have te := tc.keep k2 id
      have tle : 0 < we.heap.size := Nat.lt_of_lt_of_le tl k2.size
      have hX := HXX.out.keep k2 id
      have hY := HYY.out.keep k2 id
      rw [ee]
      clear ee hs HC KD HXX HYY cx1 cy1 cy2 tc tl k2
      cases b6
      · have HR2 := HR.out
        rw [if_neg (fun c => by have := HB6.out.2 c; cases this)] at HR2
        have ad := add_any (w := we.drew) (SetAt.keep (T := fun _ => False) hX.s1 (Keep.refl _ we).drew id) ky (by omega)
        have cy1 : we.drew.cell? ⟨byy, 1, none⟩ = some (.int .i64 ky) := hY.c1
        have HX := Lib.hid hX
        have HC := Lib.hid hc
        have HR := Lib.hid HR2
        have KD := Lib.hid kd
        have TE := Lib.hid te
        clear hX hY hc HR2 kd te HB6
        go_wp2_with fail
        go_still_tail 7, (by kernel_rfl)
        change wpList _ _ _ _ _ we.drew
        go_wp2_with fail
        refine ad.mono ?_
        rintro e wf ⟨rfl, sb, sf⟩
        have SB : Sub bx 6 we wf := (Sub.drewN bx 6 we 1).trans sb
        have en := HX.out.turn SB (.inl rfl) sf
        rw [if_pos rfl] at en
        have lx : (xs.set kx (tieP ky (pty xs kx))).length = xs.length := List.length_set
        have hf : BdC wf p m v bs (xs.set kx (tieP ky (pty xs kx))) := HC.out.put kx hkx (by rw [EBX.out]; exact SB.keep) (by rw [EBX.out]; exact en) rfl
        have kf : Keep (PFt bs xs.length) w wf := (KD.out.mono fun _ e => e.elim).trans (SB.keep.mono fun g e => ⟨kx, hkx, by rw [EBX.out, e]⟩)
        have tf := TE.out.keep SB.keep (fun c => hG ⟨kx, hkx, by rw [EBX.out]; exact c.symm⟩)
        have tlf : 0 < wf.heap.size := Nat.lt_of_lt_of_le tle SB.keep.size
        have hI1 := hI.tie hkx hky
        have es1 : (pty (xs.set kx (tieP ky (pty xs kx))) ky).st = s9 := by rw [pty_set kx ky hkx, if_neg (fun q => hne q.symm), ES.out]
        have HR2 := HR.out
        rw [ES.out] at HR2
        obtain ⟨x1, ex1⟩ : ∃ x1, xs.set kx (tieP ky (pty xs kx)) = x1 := ⟨_, rfl⟩
        rw [ex1] at lx hf hI1 es1 HR2
        have ca := carry_any hf kx ky (by rw [lx]; exact hkx) (by rw [lx]; exact hky) (fun q hq => (hI1 kx (by rw [lx]; exact hkx) q hq).2.2) (fun q hq => (hI1 ky (by rw [lx]; exact hky) q hq).2.1) tf tlf (by rw [lx]; exact hG)
        rw [EBX.out, EBY.out, lx] at ca
        have HR := Lib.hid HR2
        have KF := Lib.hid kf
        have TF := Lib.hid tf
        clear ad cy1 HX HC KD TE sb sf SB en hf kf tf HR2 ex1
        go_wp2_with fail
        refine ca.mono ?_
        rintro e wg ⟨rfl, hg, kg⟩
        clear ca
        have hg : BdC wg p m v bs (carryX x1 kx ky) := hg
        have kk := KF.out.trans kg
        have tg := TF.out.keep kg hG
        have tlg : 0 < wg.heap.size := Nat.lt_of_lt_of_le tlf kg.size
        have hkx1 : kx < x1.length := by rw [lx]; exact hkx
        have hky1 : ky < x1.length := by rw [lx]; exact hky
        have I2 := hI1.carry hkx1 hky1
        have l2 : (carryX x1 kx ky).length = xs.length := carry_len.trans lx
        have st2 := (carry_same hI1 hkx1 hky1 ky).1
        have c2 := (hg.en ky (by rw [l2]; exact hky)).c2
        rw [EBY.out, st2, es1] at c2
        obtain ⟨x2, ex2⟩ : ∃ x2, carryX x1 kx ky = x2 := ⟨_, rfl⟩
        have HR2 := HR.out
        rw [ex2] at hg I2 l2 HR2
        clear KF TF kg HR ex2 hI1 es1 st2
        by_cases h2 : s9 = 2
        · rw [if_pos h2] at HR2
          obtain ⟨rfl, rfl⟩ : 0 = r ∧ doomX x2 kx = ys := by simpa using HR2
          have dm := doom_any hg kx (by rw [l2]; exact hkx) (fun q hq => (I2 kx (by rw [l2]; exact hkx) q hq).2.2) tg tlg rfl
          rw [EBX.out, l2] at dm
          subst h2
          have KD := Lib.hid kk
          clear HR2 hg kk tg
          go_wp2_with fail
          refine dm.mono ?_
          rintro e wE ⟨u, rfl, _, hE, kE⟩
          have HE := Lib.hid hE
          have KE := Lib.hid (KD.out.trans kE)
          clear dm hE kE
          go_wp2
          go_ret
          exact ⟨rfl, HE.out, KE.out⟩
        · rw [if_neg h2] at HR2
          obtain ⟨rfl, rfl⟩ : 0 = r ∧ x2 = ys := by simpa using HR2
          have q2 : (s9 == 2) = false := by simpa using h2
          have HE := Lib.hid hg
          have KE := Lib.hid kk
          clear HR2 hg kk tg h2
          go_wp2
          go_ret
          exact ⟨rfl, HE.out, KE.out⟩
      · have HR2 := HR.out
        rw [if_pos (HB6.out.1 rfl)] at HR2
        obtain ⟨rfl, rfl⟩ : 17 = r ∧ xs = ys := by simpa using HR2
        have HC := Lib.hid hc
        have KD := Lib.hid (kd.mono (T := PFt bs xs.length) fun _ e => e.elim)
        clear HR HR2 hc kd te HB6 hX hY
        go_wp2
        go_ret
        exact ⟨rfl, HC.out, KD.out⟩
  · have HR2 := HR.out
    rw [if_pos (HB1.out.1 rfl)] at HR2
    obtain ⟨rfl, rfl⟩ : 0 = r ∧ xs = ys := by simpa using HR2
    have HC := Lib.hid hc
    have KD := Lib.hid (kd.mono (T := PFt bs xs.length) fun _ e => e.elim)
    clear HR HR2 hc kd tc HB1
    go_wp2
    go_ret
    exact ⟨rfl, HC.out, KD.out⟩
end
end Go.Proofs.YtjobphjpfknfeaaDoor
