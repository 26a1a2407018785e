/- The document's own Bonds: Good, Bad. Conditions: as XRfB's. -/
import Derived.Test.YtjobphjpfknfeaaDoorRfI
namespace Go.Proofs.YtjobphjpfknfeaaDoor
open Go.ChangeShapes Go.WideShapes Go.ChangeAt Go.RowKit
set_option linter.unusedVariables false
open Classical

section
variable {w w' w9 : World} {r : Nat} {vs : Nat → Value} {s s' : BdS} {id tt v c : Int} {l : List Int} {u9 : Value}
/-- Whom the first k ids give. -/
def Gdk (s : BdS) (id : Int) (k : Nat) (zs : List Int) : Prop := zs.Pairwise (· < ·) ∧ zs.length ≤ k ∧ ∀ x, x ∈ zs ↔ ∃ j, j < k ∧ (s.ids.getD j (0, 0)).1 = x ∧ ((s.ids.getD j (0, 0)).2 = 1 ∨ (s.ids.getD j (0, 0)).2 = 2) ∧ s.waits x = [id]
theorem Gdk.none : Gdk s id 0 [] := ⟨List.Pairwise.nil, Nat.le_refl _, fun x => ⟨(fun h => by cases h), fun ⟨_, h, _⟩ => by omega⟩⟩
theorem Gdk.put {k : Nat} {zs : List Int} {x : Int} (h : Gdk s id k zs) (h1 : (s.ids.getD k (0, 0)).1 = x) (h2 : (s.ids.getD k (0, 0)).2 = 1 ∨ (s.ids.getD k (0, 0)).2 = 2) (h3 : s.waits x = [id]) : Gdk s id (k + 1) (putB zs x) := by
  refine ⟨putB_rises h.1, Nat.le_trans putB_len (by have := h.2.1; omega), fun y => ?_⟩
  rw [mem_putB, h.2.2]
  constructor
  · rintro (rfl | ⟨j, q, r⟩)
    · exact ⟨k, by omega, h1, h2, h3⟩
    · exact ⟨j, by omega, r⟩
  · rintro ⟨j, q, r1, r2, r3⟩
    by_cases e : j = k
    · subst e; exact .inl (r1.symm.trans h1)
    · exact .inr ⟨j, by omega, r1, r2, r3⟩
theorem Gdk.skip {k : Nat} {zs : List Int} {x : Int} (h : Gdk s id k zs) (h1 : (s.ids.getD k (0, 0)).1 = x) (hn : (s.ids.getD k (0, 0)).2 = 1 ∨ (s.ids.getD k (0, 0)).2 = 2 → s.waits x ≠ [id]) : Gdk s id (k + 1) zs := by
  refine ⟨h.1, Nat.le_succ_of_le h.2.1, fun y => ?_⟩
  rw [h.2.2]
  constructor
  · rintro ⟨j, q, r⟩
    exact ⟨j, by omega, r⟩
  · rintro ⟨j, q, r1, r2, r3⟩
    by_cases e : j = k
    · subst e; exact absurd (by rw [← r1.symm.trans h1]; exact r3) (hn r2)
    · exact ⟨j, by omega, r1, r2, r3⟩
theorem Gdk.all {zs : List Int} (hn : (s.ids.map Prod.fst).Nodup) (h : Gdk s id s.ids.length zs) : zs = riseB (fun x => (s.st x = 1 ∨ s.st x = 2) ∧ s.waits x = [id]) (s.ids.map Prod.fst) :=
  rise_ext h.1 rise_rises fun x => by
    rw [h.2.2, mem_rise]
    constructor
    · rintro ⟨j, q, r1, r2, r3⟩
      exact ⟨has_at.2 ⟨j, q, r1⟩, by rw [st_at hn q r1]; exact r2, r3⟩
    · rintro ⟨q, r2, r3⟩
      obtain ⟨j, q, r1⟩ := has_at.1 q
      exact ⟨j, q, r1, by rw [← st_at hn q r1]; exact r2, r3⟩
theorem waits_one {x : Int} (h : s.wt x id) (hl : (s.waits x).length = 1) : s.waits x = [id] := by
  obtain ⟨y, hy⟩ := List.length_eq_one_iff.1 hl
  have := (mem_waits (s := s)).2 h
  rw [hy, List.mem_singleton] at this
  rw [hy, this]
def Gd1 (w : World) (s : BdS) (id : Int) (n k : Nat) (u iv : Value) (wr : World) : Prop := ∃ zs, k ≤ n ∧ iv = .int .i64 k ∧ OwnN w.heap.size wr u zs ∧ Gdk s id k zs ∧ Keep (fun _ => False) w wr
def Bd1 (w w9 : World) (r : Nat) (vs : Nat → Value) (t : BdS) (id : Int) (L : List Int) (n : Nat) (uL : Value) (k : Nat) (u iv : Value) (wr : World) : Prop :=
  k ≤ n ∧ iv = .int .i64 k ∧ OwnN w9.heap.size wr u ((L.take k).filter (fun x => decide (x ≠ id))) ∧ OwnN w.heap.size wr uL L ∧ RB wr r vs t ∧ Keep (fun _ => False) w9 wr ∧ ∀ g, u.ownBlock = some g → uL.ownBlock ≠ some g
set_option maxRecDepth 100000 in
set_option maxHeartbeats 4000000 in
theorem rgood_any (h : RB w r vs s) (hs : s.good id = ((l, c), s')) : Calls Tryd.prog 21 #[.pointer (some ⟨r, 0, .none⟩), .int .i64 id] w fun e w' => ∃ u, e = .returned (.tuple #[u, .int .i64 c]) ∧ OwnN w.heap.size w' u l ∧ RB w' r vs s' ∧ Keep (fun q => (vs 1).ownBlock = some q) w w' := by
  have HH := Lib.hid h
  have S0 : RB w r vs s ∧ Keep (fun q => (vs 1).ownBlock = some q) w w := ⟨h, Keep.refl _ _⟩
  unfold BdS.good at hs
  obtain ⟨y1, ey1⟩ : ∃ y, s.st id = y := ⟨_, rfl⟩
  have st1 := rstate_any (id := id) h
  rw [ey1] at st1 hs
  have fo := rfor_any (id := id) h
  clear h ey1
  by_cases ha : ¬ s.has id
  · rw [if_pos ha] at hs
    obtain ⟨hs1, rfl⟩ := Prod.mk.inj hs
    obtain ⟨rfl, rfl⟩ := Prod.mk.inj hs1
    have p1 := rat_neg HH.out ha
    have LF := Lib.hid S0
    clear hs hs1 S0 st1 fo ha
    go_enter Tryd.func21, Tryd.ntmps21
    go_wp2_with fail
    refine p1.mono ?_
    rintro e w1 ⟨rfl, rfl⟩
    clear p1
    go_wp2_with fail; go_ret2; exact ⟨_, rfl, World.ownsRow_nil _ _ _ _, LF.out⟩
  · rw [if_neg ha] at hs
    have ha : s.has id := Classical.byContradiction ha
    have p1 := rat_pos HH.out ha
    have HP := Lib.hid ha
    clear ha
    by_cases h1 : y1 ≠ 1
    · rw [if_pos h1] at hs
      obtain ⟨hs1, rfl⟩ := Prod.mk.inj hs
      obtain ⟨rfl, rfl⟩ := Prod.mk.inj hs1
      have LF := Lib.hid S0
      have y11 : (y1 != 1) = true := by simpa using h1
      clear hs hs1 S0 fo
      go_enter Tryd.func21, Tryd.ntmps21
      go_wp2_with fail; refine p1.mono ?_; rintro e w1 ⟨rfl, i1, _, rfl⟩; have i0 : ¬ ((i1 : Int) < 0) := (by omega)
      go_wp2_with fail; refine st1.mono ?_; rintro e w3 ⟨rfl, rfl⟩
      clear p1 st1
      go_wp2_with fail; go_ret2; exact ⟨_, rfl, World.ownsRow_nil _ _ _ _, LF.out⟩
    · rw [if_neg h1] at hs
      obtain rfl : y1 = 1 := Classical.byContradiction h1
      clear S0 h1
      obtain ⟨n0, en0⟩ : ∃ n, (s.waits id).length = n := ⟨_, rfl⟩
      by_cases h2 : s.waits id ≠ []
      · rw [if_pos h2] at hs
        obtain ⟨hs1, rfl⟩ := Prod.mk.inj hs
        obtain ⟨rfl, rfl⟩ := Prod.mk.inj hs1
        have n1 : (0 : Int) < (n0 : Int) := by
          have := List.length_pos_iff.2 h2
          omega
        have EN := Lib.hid en0
        clear hs hs1 h2 en0
        go_enter Tryd.func21, Tryd.ntmps21
        go_wp2_with fail; refine p1.mono ?_; rintro e w1 ⟨rfl, i1, _, rfl⟩; have i0 : ¬ ((i1 : Int) < 0) := (by omega)
        go_wp2_with fail; refine st1.mono ?_; rintro e w3 ⟨rfl, rfl⟩
        go_wp2_with fail
        refine fo.mono ?_
        rintro e w9 ⟨u9, rfl, o9, k9⟩
        obtain ⟨A9, c9, rfl, _, _⟩ := OwnN.shapeN o9
        rw [EN.out]
        have LF : RowKit.Hid (RB w9 r vs s ∧ Keep (fun q => (vs 1).ownBlock = some q) w w9) := Lib.hid ⟨HH.out.later k9, k9.mono (fun _ q => q.elim)⟩
        clear p1 st1 fo o9 k9
        go_wp2_with fail; go_ret2; exact ⟨_, rfl, World.ownsRow_nil _ _ _ _, LF.out⟩
      · rw [if_neg h2] at hs
        have h2 : s.waits id = [] := Classical.byContradiction h2
        obtain rfl : n0 = 0 := by rw [← en0, h2]; rfl
        have HS := Lib.hid hs
        have few := HH.out.few.1
        obtain ⟨n, hn⟩ : ∃ n, s.ids.length = n := ⟨_, rfl⟩
        rw [hn] at few
        have HN := Lib.hid hn
        have EN := Lib.hid en0
        clear hs h2 en0 hn
        go_enter Tryd.func21, Tryd.ntmps21
        go_wp2_with fail; refine p1.mono ?_; rintro e w1 ⟨rfl, i1, _, rfl⟩; have i0 : ¬ ((i1 : Int) < 0) := (by omega)
        go_wp2_with fail; refine st1.mono ?_; rintro e w3 ⟨rfl, rfl⟩
        go_wp2_with fail
        refine fo.mono ?_
        rintro e w9 ⟨u9, rfl, o9, k9⟩
        obtain ⟨A9, c9, rfl, _, _⟩ := OwnN.shapeN o9
        rw [EN.out]
        have K9 := Lib.hid k9
        clear p1 st1 fo o9 k9
        go_wp2_with fail
        go_loopg [6, 7, 8] n (fun mm u iv v8 wr => ∃ k : Nat, mm + k = n ∧ Gd1 w s id n k u iv wr)
        case atStart => exact ⟨0, by omega, [], by omega, rfl, World.ownsRow_nil _ _ _ _, Gdk.none, K9.out⟩
        case round =>
          obtain ⟨k, hgk, zs, kn, rfl, ow, gd, kw⟩ := hrel
          have h := HH.out.later kw
          have GD := Lib.hid gd
          clear gd
          by_cases hlt : k < n
          · obtain ⟨A0, c0, d0, _, hr0⟩ := h.row 0 (by omega)
            obtain ⟨A1, c1, d1, _, hr1⟩ := h.row 1 (by omega)
            have fr := h.free
            rw [row_len0, HN.out] at d0 hr0
            rw [row_len1, HN.out] at d1 hr1
            obtain ⟨g0, rfl, hd0⟩ := hr0 (by omega)
            obtain ⟨g1, rfl, hd1⟩ := hr1 (by omega)
            have hc0 := hd0 k hlt
            have hc1 := hd1 k hlt
            clear hd0 hd1 hr0 hr1
            rw [row_id] at hc0
            rw [row_st] at hc1
            obtain ⟨x, ex⟩ : ∃ x, (s.ids.getD k (0, 0)).1 = x := ⟨_, rfl⟩
            obtain ⟨z, ez⟩ : ∃ z, (s.ids.getD k (0, 0)).2 = z := ⟨_, rfl⟩
            rw [ex] at hc0
            rw [ez] at hc1
            have EX := Lib.hid ex
            have EZ := Lib.hid ez
            have wk : IntKind.i64.wrap ((k : Int) + 1) = (k : Int) + 1 := IntWalk.i64_in _ (by omega)
            clear ex ez
            by_cases hz : z = 1 ∨ z = 2
            · have zz := EZ.out.symm ▸ hz
              have wt := rwaits_any (id := x) (tt := id) h
              by_cases hw : s.wt x id
              · rw [yes_of hw] at wt
                have fo := rfor_any (id := x) h
                obtain ⟨m, em⟩ : ∃ m, (s.waits x).length = m := ⟨_, rfl⟩
                by_cases h1 : m = 1
                · have SK := Lib.hid (GD.out.put EX.out zz (waits_one hw (em.trans h1)))
                  have zl := GD.out.2.1
                  have EM := Lib.hid (em.trans h1)
                  clear hw em h1 zz h
                  rcases hz with rfl | rfl
                  · go_wp2_with fail; refine wt.mono ?_; rintro e w7 ⟨rfl, rfl⟩; clear wt; go_wp2_with fail; refine fo.mono ?_; rintro e w8 ⟨u8, rfl, o8, k8⟩; obtain ⟨A8, c8, rfl, _, _⟩ := OwnN.shapeN o8; rw [EM.out]; clear fo o8; have d0 := k8.cell d0 (fun q => q); have hc0 := k8.cell hc0 (fun q => q)
                    have kw := kw.trans k8; have ow := OwnN.keep ow k8 (fun _ _ q => q); have bw := kw.size; have fr := (HH.out.later kw).free; clear k8 d1 hc1; go_wp2_with fail; refine (put_any (o := x) ow (by omega) bw).mono ?_; rintro e w9 ⟨u9, rfl, o9, k9⟩; have ow := o9; have kw := kw.trans k9; clear o9 k9 d0 hc0 fr; go_wp2_with fail; go_roundg (n - (k + 1)); (case measure => omega); exact ⟨k + 1, by omega, _, by omega, by go_num, ow, SK.out, kw⟩
                  · go_wp2_with fail; refine wt.mono ?_; rintro e w7 ⟨rfl, rfl⟩; clear wt; go_wp2_with fail; refine fo.mono ?_; rintro e w8 ⟨u8, rfl, o8, k8⟩; obtain ⟨A8, c8, rfl, _, _⟩ := OwnN.shapeN o8; rw [EM.out]; clear fo o8; have d0 := k8.cell d0 (fun q => q); have hc0 := k8.cell hc0 (fun q => q)
                    have kw := kw.trans k8; have ow := OwnN.keep ow k8 (fun _ _ q => q); have bw := kw.size; have fr := (HH.out.later kw).free; clear k8 d1 hc1; go_wp2_with fail; refine (put_any (o := x) ow (by omega) bw).mono ?_; rintro e w9 ⟨u9, rfl, o9, k9⟩; have ow := o9; have kw := kw.trans k9; clear o9 k9 d0 hc0 fr; go_wp2_with fail; go_roundg (n - (k + 1)); (case measure => omega); exact ⟨k + 1, by omega, _, by omega, by go_num, ow, SK.out, kw⟩
                · have SK := Lib.hid (GD.out.skip EX.out fun _ q => h1 (by rw [← em, q]; rfl))
                  have EM := Lib.hid em
                  have m1 : ((m : Int) == 1) = false := by simp; omega
                  clear hw em h1 zz h
                  rcases hz with rfl | rfl
                  · go_wp2_with fail; refine wt.mono ?_; rintro e w7 ⟨rfl, rfl⟩; clear wt; go_wp2_with fail; refine fo.mono ?_; rintro e w8 ⟨u8, rfl, o8, k8⟩; obtain ⟨A8, c8, rfl, _, _⟩ := OwnN.shapeN o8; rw [EM.out]; clear fo o8; have d0 := k8.cell d0 (fun q => q); have hc0 := k8.cell hc0 (fun q => q)
                    have kw := kw.trans k8
                    have ow := OwnN.keep ow k8 (fun _ _ q => q)
                    clear k8 d0 d1 hc0 hc1 fr
                    go_wp2_with fail
                    go_roundg (n - (k + 1)); (case measure => omega); exact ⟨k + 1, by omega, _, by omega, by go_num, ow, SK.out, kw⟩
                  · go_wp2_with fail; refine wt.mono ?_; rintro e w7 ⟨rfl, rfl⟩; clear wt; go_wp2_with fail; refine fo.mono ?_; rintro e w8 ⟨u8, rfl, o8, k8⟩; obtain ⟨A8, c8, rfl, _, _⟩ := OwnN.shapeN o8; rw [EM.out]; clear fo o8; have d0 := k8.cell d0 (fun q => q); have hc0 := k8.cell hc0 (fun q => q)
                    have kw := kw.trans k8
                    have ow := OwnN.keep ow k8 (fun _ _ q => q)
                    clear k8 d0 d1 hc0 hc1 fr
                    go_wp2_with fail
                    go_roundg (n - (k + 1)); (case measure => omega); exact ⟨k + 1, by omega, _, by omega, by go_num, ow, SK.out, kw⟩
              · rw [yes_not hw] at wt
                have SK := Lib.hid (GD.out.skip EX.out fun _ q => hw (mem_waits.1 (by rw [q]; simp)))
                clear hw zz h
                rcases hz with rfl | rfl
                · go_wp2_with fail
                  refine wt.mono ?_
                  rintro e w7 ⟨rfl, rfl⟩
                  clear wt
                  go_wp2_with fail
                  go_roundg (n - (k + 1)); (case measure => omega); exact ⟨k + 1, by omega, _, by omega, by go_num, ow, SK.out, kw⟩
                · go_wp2_with fail
                  refine wt.mono ?_
                  rintro e w7 ⟨rfl, rfl⟩
                  clear wt
                  go_wp2_with fail
                  go_roundg (n - (k + 1)); (case measure => omega); exact ⟨k + 1, by omega, _, by omega, by go_num, ow, SK.out, kw⟩
            · have SK := Lib.hid (GD.out.skip EX.out fun q => absurd (EZ.out ▸ q) hz)
              have z1 : (z == 1) = false := by simp; omega
              have z2 : (z == 2) = false := by simp; omega
              clear hz h
              go_wp2_with fail
              go_roundg (n - (k + 1)); (case measure => omega); exact ⟨k + 1, by omega, _, by omega, by go_num, ow, SK.out, kw⟩
          · obtain rfl : k = n := by omega
            have ez : zs = _ := Gdk.all HH.out.one (by rw [HN.out]; exact GD.out)
            obtain ⟨hs1, hs2⟩ := Prod.mk.inj HS.out
            obtain ⟨hl, rfl⟩ := Prod.mk.inj hs1
            have RS := Lib.hid hs2
            have RL := Lib.hid (ez.trans hl)
            have HT := Lib.hid h
            have KW0 : RowKit.Hid (Keep (fun q => (vs 1).ownBlock = some q) w wr) := Lib.hid (kw.mono (fun _ q => q.elim))
            obtain ⟨A6, c6, d6, _, _⟩ := h.row 0 (by omega)
            rw [row_len0, HN.out] at d6
            have fr0 := h.free
            clear hs1 hs2 hl ez h kw
            go_wp2_with fail
            go_upto_region 14 with fail
            clear d6 fr0
            obtain ⟨i, hi, ei⟩ := has_at.1 HP.out
            have kd : Keep (fun _ => False) wr wr.drew := (Keep.refl _ _).drew
            have hD := HT.out.later kd
            have hat : ∀ d, Calls Tryd.prog 32 #[.pointer (some ⟨r, 0, .none⟩), .int .i64 id] (wr.drewN d) fun e w' => e = .returned (.int .i64 i) ∧ w' = wr.drewN d := fun d => rat_to (HT.out.later (drewN_keep _ _ d)) hi ei
            obtain ⟨A1, c1, d1, v1, hr1⟩ := hD.row 1 (by omega)
            rw [row_len1] at d1 v1 hr1
            obtain ⟨g1, rfl, hd1⟩ := hr1 (by omega)
            have c1i := hd1 i hi
            have fr1 : wr.drew.frozen? ⟨g1, i, none⟩ = false := by
              have := hD.own 1 (by omega)
              rw [v1] at this
              exact own_free this i
            have fr := hD.free
            have P := hD.put hi ei v1 3
            have kS := kd.mono (T := fun q => (vs 1).ownBlock = some q) (fun _ q => q.elim) |>.trans (Keep.setCell (S := fun q => (vs 1).ownBlock = some q) (Keep.refl _ wr.drew) (p := ⟨g1, i, none⟩) (by rw [v1]; rfl) (.int .i64 3))
            have KW := KW0.out.trans kS
            have OW := OwnN.keep ow kS fun q e1 e2 => by
              have := (OwnN.lt ow e1).1
              have := (OwnN.lt (HH.out.own 1 (by omega)) e2).2
              omega
            obtain ⟨n1, en1⟩ : ∃ n1, (s).ids.length = n1 := ⟨_, rfl⟩
            have n60 := HT.out.few.1
            rw [en1] at d1 hi n60
            have P := Lib.hid P
            have KW := Lib.hid KW
            have OW := Lib.hid OW
            clear hD ow kS v1 hd1 hr1 ei en1
            go_wp2_with fail
            go_still_tail 8, (by kernel_rfl)
            still_call ((hat _).mono (by rintro e w' ⟨rfl, rfl⟩; exact ⟨rfl, rfl⟩))
            repeat still_step
            try refine wpStill_nil ?_
            change wpList _ _ _ _ _ wr.drew
            go_wp2
            go_ret2
            exact ⟨_, rfl, by rw [← RL.out]; exact OW.out, by rw [← RS.out]; exact P.out, KW.out⟩
set_option maxRecDepth 100000 in
set_option maxHeartbeats 4000000 in
theorem rbad_any (h : RB w r vs s) (hs : s.bad id = ((l, c), s')) : Calls Tryd.prog 22 #[.pointer (some ⟨r, 0, .none⟩), .int .i64 id] w fun e w' => ∃ u, e = .returned (.tuple #[u, .int .i64 c]) ∧ OwnN w.heap.size w' u l ∧ RB w' r vs s' ∧ Keep (fun q => (vs 1).ownBlock = some q) w w' := by
  have HH := Lib.hid h
  have S0 : RB w r vs s ∧ Keep (fun q => (vs 1).ownBlock = some q) w w := ⟨h, Keep.refl _ _⟩
  unfold BdS.bad at hs
  obtain ⟨y1, ey1⟩ : ∃ y, s.st id = y := ⟨_, rfl⟩
  have st1 := rstate_any (id := id) h
  rw [ey1] at st1 hs
  clear h ey1
  by_cases ha : ¬ s.has id
  · rw [if_pos ha] at hs
    obtain ⟨hs1, rfl⟩ := Prod.mk.inj hs
    obtain ⟨rfl, rfl⟩ := Prod.mk.inj hs1
    have p1 := rat_neg HH.out ha
    have LF := Lib.hid S0
    clear hs hs1 S0 st1 ha
    go_enter Tryd.func22, Tryd.ntmps22
    go_wp2_with fail
    refine p1.mono ?_
    rintro e w1 ⟨rfl, rfl⟩
    clear p1
    go_wp2_with fail; go_ret2; exact ⟨_, rfl, World.ownsRow_nil _ _ _ _, LF.out⟩
  · rw [if_neg ha] at hs
    have ha : s.has id := Classical.byContradiction ha
    have p1 := rat_pos HH.out ha
    by_cases h1 : y1 = 3 ∨ y1 = 4
    · rw [if_pos h1] at hs
      obtain ⟨hs1, rfl⟩ := Prod.mk.inj hs
      obtain ⟨rfl, rfl⟩ := Prod.mk.inj hs1
      have LF := Lib.hid S0
      clear hs hs1 S0 ha
      rcases h1 with rfl | rfl
      · go_enter Tryd.func22, Tryd.ntmps22
        go_wp2_with fail; refine p1.mono ?_; rintro e w1 ⟨rfl, i1, _, rfl⟩; have i0 : ¬ ((i1 : Int) < 0) := (by omega)
        go_wp2_with fail; refine st1.mono ?_; rintro e w3 ⟨rfl, rfl⟩
        clear p1 st1
        go_wp2_with fail; go_ret2; exact ⟨_, rfl, World.ownsRow_nil _ _ _ _, LF.out⟩
      · go_enter Tryd.func22, Tryd.ntmps22
        go_wp2_with fail; refine p1.mono ?_; rintro e w1 ⟨rfl, i1, _, rfl⟩; have i0 : ¬ ((i1 : Int) < 0) := (by omega)
        go_wp2_with fail; refine st1.mono ?_; rintro e w3 ⟨rfl, rfl⟩
        go_wp2_with fail; refine st1.mono ?_; rintro e w3 ⟨rfl, rfl⟩
        clear p1 st1
        go_wp2_with fail; go_ret2; exact ⟨_, rfl, World.ownsRow_nil _ _ _ _, LF.out⟩
    · rw [if_neg h1] at hs
      have y13 : (y1 == 3) = false := by simp; omega
      have y14 : (y1 == 4) = false := by simp; omega
      have HS := Lib.hid hs
      have few := HH.out.few.1
      have HP : RowKit.Hid ((s.doom id).has id) := Lib.hid (by rw [← mid_doom HH.out.one, mid_has]; exact ha)
      clear S0 h1 hs ha
      go_enter Tryd.func22, Tryd.ntmps22
      go_wp2_with fail; refine p1.mono ?_; rintro e w1 ⟨rfl, i1, _, rfl⟩; have i0 : ¬ ((i1 : Int) < 0) := (by omega)
      go_wp2_with fail; refine st1.mono ?_; rintro e w3 ⟨rfl, rfl⟩
      go_wp2_with fail; refine st1.mono ?_; rintro e w3 ⟨rfl, rfl⟩
      go_wp2_with fail
      refine (rdoom_any (id := id) HH.out).mono ?_
      rintro e w9 ⟨u9, rfl, o9, h9, k9⟩
      obtain ⟨L, eL⟩ : ∃ L, s.dooms id = L := ⟨_, rfl⟩
      rw [eL] at o9
      have Ln : L.length ≤ 60 := by
        rw [← eL]
        have := nodup_le (l := s.dooms id) (m := s.ids.map Prod.fst) (List.Pairwise.imp (fun h => by omega) (rise_rises : (s.dooms id).Pairwise (· < ·))) fun x hx => (mem_rise.1 hx).1
        rw [List.length_map] at this
        omega
      have lt9 := k9.size
      obtain ⟨A, c9, rfl, hA0, hA1⟩ := OwnN.shapeN o9
      obtain ⟨n, hn⟩ : ∃ n, L.length = n := ⟨_, rfl⟩
      have HN := Lib.hid hn
      have EL := Lib.hid eL
      rw [hn] at Ln o9 ⊢
      obtain ⟨b9, eb9⟩ : ∃ b, w9.heap.size = b := ⟨_, rfl⟩
      have R0 : Bd1 w w9 r vs (s.doom id) id L n (.slice A n c9) 0 (.slice none 0 0) (.int .i64 (0 : Nat)) w9 := ⟨Nat.zero_le _, rfl, World.ownsRow_nil _ _ _ _, o9, h9, Keep.refl _ _, by simp [Value.ownBlock]⟩
      have K9 := Lib.hid k9
      clear p1 st1 o9 h9 k9 hn eL
      go_wp2_with fail
      go_loopg [7, 8] n (fun mm u iv wr => ∃ k : Nat, mm + k = n ∧ Bd1 w w9 r vs (s.doom id) id L n (.slice A n c9) k u iv wr)
      case atStart => exact ⟨0, by omega, R0⟩
      case round =>
        clear R0
        obtain ⟨k, hgk, kn, rfl, ow, oL, h, kw, dj⟩ := hrel
        by_cases hlt : k < n
        · have hA : A ≠ none := fun q => by have := congrArg List.length (hA0 q); rw [HN.out, List.length_nil] at this; omega
          obtain ⟨ad, rfl⟩ := Option.ne_none_iff_exists'.1 hA
          obtain ⟨g, rfl⟩ := hA1 _ rfl
          have hc := OwnN.cell (n := n) (c := c9) oL k (by rw [HN.out]; exact hlt)
          obtain ⟨x, ex⟩ : ∃ x, L.getD k 0 = x := ⟨_, rfl⟩
          rw [ex] at hc
          have wk : IntKind.i64.wrap ((k : Int) + 1) = (k : Int) + 1 := IntWalk.i64_in _ (by omega)
          have kl : k < L.length := by rw [HN.out]; exact hlt
          have tk : (L.take (k + 1)).filter (fun x => decide (x ≠ id)) = (L.take k).filter (fun x => decide (x ≠ id)) ++ (if x = id then [] else [x]) := by
            rw [List.take_add_one, List.getElem?_eq_getElem kl, List.filter_append]
            rw [List.getD_eq_getElem?_getD, List.getElem?_eq_getElem kl] at ex
            have ex : L[k] = x := ex
            by_cases q : x = id <;> simp [ex, q]
          have zl : ((L.take k).filter (fun x => decide (x ≠ id))).length ≤ k := Nat.le_trans (List.length_filter_le _ _) (by rw [List.length_take]; omega)
          clear hA hA0 hA1 ex kl
          by_cases hx : x = id
          · rw [if_pos hx, List.append_nil] at tk
            have TK := Lib.hid tk
            have hx2 : (x != id) = false := by simp [hx]
            subst hx
            clear tk
            go_wp2_with fail
            go_roundg (n - (k + 1))
            case measure => omega
            case rel => exact ⟨k + 1, by omega, by omega, by go_num, by rw [TK.out]; exact ow, oL, h, kw, dj⟩
          · rw [if_neg hx] at tk
            have TK := Lib.hid tk
            have hx2 : (x != id) = true := by simpa using hx
            have bz : w.heap.size ≤ wr.heap.size := Nat.le_trans lt9 kw.size
            obtain ⟨zs, ez⟩ : ∃ zs, (L.take k).filter (fun x => decide (x ≠ id)) = zs := ⟨_, rfl⟩
            rw [ez] at ow zl
            have EZ := Lib.hid ez
            have w9r := kw.size
            clear tk ez
            go_wp2_with (with_reducible refine wp_stop 46 rfl ?_)
            intro _
            refine wp_pushN rfl (.tmp 40) (.tmp 45) rfl w9.heap.size w9r u7 zs rfl ow x rfl (by omega) ?_
            intro g8 c8 w8 o8 k8 hg8
            have nf : ∀ q, RFt r vs q → ¬ u7.ownBlock = some q := fun q hq e => by
              have := (OwnN.lt ow e).1
              have := (HH.out.foot hq).2
              omega
            have R : Bd1 w w9 r vs (s.doom id) id L n (.slice (some ⟨g, 0, none⟩) n c9) (k + 1) (.slice (some ⟨g8, 0, none⟩) (zs.length + 1) c8) (.int .i64 ((k : Int) + 1)) w8 := by
              refine ⟨by omega, by go_num, ?_, OwnN.keep oL k8 (fun q e1 e2 => dj q e2 e1), h.keep k8 nf, kw.older k8 (fun q e => (OwnN.lt ow e).1), fun q e1 e2 => ?_⟩
              · rw [TK.out, EZ.out]
                exact o8
              · have e1 : g8 = q := by simpa [Value.ownBlock] using e1
                rcases hg8 with z | z
                · exact dj q (e1 ▸ z) e2
                · have := (OwnN.lt oL e2).2
                  omega
            clear ow oL h kw dj o8 k8 hg8 nf
            go_wp2
            go_roundg (n - (k + 1))
            case measure => omega
            case rel => exact ⟨k + 1, by omega, R⟩
        · obtain rfl : k = n := by omega
          have hl : (L.take k).filter (fun x => decide (x ≠ id)) = L.filter (fun x => decide (x ≠ id)) := by rw [List.take_of_length_le (by rw [HN.out]; exact Nat.le_refl _)]
          rw [hl] at ow
          obtain ⟨hs1, hs2⟩ := Prod.mk.inj HS.out
          obtain ⟨hl2, rfl⟩ := Prod.mk.inj hs1
          rw [EL.out] at hl2
          have RS := Lib.hid hs2
          have RL := Lib.hid hl2
          have HT := Lib.hid h
          have KW0 : RowKit.Hid (Keep (fun q => (vs 1).ownBlock = some q) w wr) := Lib.hid (K9.out.trans (kw.mono (fun q e => e.elim)))
          have ow := OwnN.lower ow lt9
          clear hs1 hs2 hl hl2 h kw oL dj
          go_wp2_with fail
          go_upto_region 12 with fail
          obtain ⟨i, hi, ei⟩ := has_at.1 HP.out
          have kd : Keep (fun _ => False) wr wr.drew := (Keep.refl _ _).drew
          have hD := HT.out.later kd
          have hat : ∀ d, Calls Tryd.prog 32 #[.pointer (some ⟨r, 0, .none⟩), .int .i64 id] (wr.drewN d) fun e w' => e = .returned (.int .i64 i) ∧ w' = wr.drewN d := fun d => rat_to (HT.out.later (drewN_keep _ _ d)) hi ei
          obtain ⟨A1, c1, d1, v1, hr1⟩ := hD.row 1 (by omega)
          rw [row_len1] at d1 v1 hr1
          obtain ⟨g1, rfl, hd1⟩ := hr1 (by omega)
          have c1i := hd1 i hi
          have fr1 : wr.drew.frozen? ⟨g1, i, none⟩ = false := by
            have := hD.own 1 (by omega)
            rw [v1] at this
            exact own_free this i
          have fr := hD.free
          have P := hD.put hi ei v1 4
          have kS := kd.mono (T := fun q => (vs 1).ownBlock = some q) (fun _ q => q.elim) |>.trans (Keep.setCell (S := fun q => (vs 1).ownBlock = some q) (Keep.refl _ wr.drew) (p := ⟨g1, i, none⟩) (by rw [v1]; rfl) (.int .i64 4))
          have KW := KW0.out.trans kS
          have OW := OwnN.keep ow kS fun q e1 e2 => by
            have := (OwnN.lt ow e1).1
            have := (OwnN.lt (HH.out.own 1 (by omega)) e2).2
            omega
          obtain ⟨n1, en1⟩ : ∃ n1, (s.doom id).ids.length = n1 := ⟨_, rfl⟩
          have n60 := HT.out.few.1
          rw [en1] at d1 hi n60
          have P := Lib.hid P
          have KW := Lib.hid KW
          have OW := Lib.hid OW
          clear hD ow kS v1 hd1 hr1 ei en1
          go_wp2_with fail
          go_still_tail 8, (by kernel_rfl)
          still_call ((hat _).mono (by rintro e w' ⟨rfl, rfl⟩; exact ⟨rfl, rfl⟩))
          repeat still_step
          try refine wpStill_nil ?_
          change wpList _ _ _ _ _ wr.drew
          go_wp2
          go_ret2
          exact ⟨_, rfl, by rw [← RL.out]; exact OW.out, by rw [← RS.out]; exact P.out, KW.out⟩
end
end Go.Proofs.YtjobphjpfknfeaaDoor
