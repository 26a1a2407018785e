/- The document's own Bonds: Bind. Conditions: as XRfB's, and fewer than 60 bonds. -/
import Derived.Test.YtjobphjpfknfeaaDoorRfO
namespace Go.Proofs.YtjobphjpfknfeaaDoor
open Go.ChangeShapes Go.WideShapes Go.ChangeAt Go.RowKit
set_option linter.unusedVariables false
open Classical

section
variable {w w' w9 : World} {r : Nat} {vs : Nat → Value} {s s' : BdS} {id tt v c l : Int} {rows : Nat → List Int} {u9 : Value}
theorem rat_pos (h : RB w r vs s) (hh : s.has id) : Calls Tryd.prog 32 #[.pointer (some ⟨r, 0, .none⟩), .int .i64 id] w fun e w' => w = w' ∧ ∃ i : Nat, i < s.ids.length ∧ e = .returned (.int .i64 (i : Int)) := by
  refine (rat_any h).mono ?_
  rintro e w' ⟨rfl, a, rfl, ⟨_, hn⟩ | ⟨i, rfl, hi, _⟩⟩
  · exact absurd hh hn
  · exact ⟨rfl, i, hi, rfl⟩
theorem rat_neg (h : RB w r vs s) (hh : ¬ s.has id) : Calls Tryd.prog 32 #[.pointer (some ⟨r, 0, .none⟩), .int .i64 id] w fun e w' => w = w' ∧ e = .returned (.int .i64 (-1)) := by
  refine (rat_any h).mono ?_
  rintro e w' ⟨rfl, a, rfl, ⟨rfl, hn⟩ | ⟨i, rfl, hi, e⟩⟩
  · exact ⟨rfl, rfl⟩
  · exact absurd (has_at.2 ⟨i, hi, e⟩) hh
theorem bind_rows (hs : s' = { s with ed := s.ed ++ [(id, tt)] }) : ∀ i, i < 4 → rpush (rpush (rowB s) 2 id) 3 tt i = rowB s' i := by
  subst hs
  intro i hi
  match i, hi with
  | 0, _ => simp [rpush, rowB]
  | 1, _ => simp [rpush, rowB]
  | 2, _ => simp [rpush, rowB]
  | 3, _ => simp [rpush, rowB]
/-- What Bind leaves. -/
def BPost (w : World) (r : Nat) (vs : Nat → Value) (s' : BdS) (w' : World) : Prop := ∃ vs', RB w' r vs' s' ∧ VKeep (RFt r vs) (RFt r vs') w w'
theorem BPost.same (h : RB w' r vs s) (k : Keep (fun _ => False) w w') : BPost w r vs s w' := ⟨vs, h, VKeep.quiet k⟩
theorem BPost.one (h : RB w' r vs s) (k : Keep (fun q => (vs 1).ownBlock = some q) w w') : BPost w r vs s w' := ⟨vs, h, k.mono (fun q e => .inr ⟨1, by omega, e⟩), fun _ q => .inl q⟩
set_option maxRecDepth 100000 in
set_option maxHeartbeats 4000000 in
theorem rbind_any (h : RB w r vs s) (room : s.ed.length + 1 ≤ 60) (hs : s.bind id tt = (c, s')) : Calls Tryd.prog 20 #[.pointer (some ⟨r, 0, .none⟩), .int .i64 id, .int .i64 tt] w fun e w' => e = .returned (.int .i64 c) ∧ BPost w r vs s' w' := by
  have HH := Lib.hid h
  have S0 : BPost w r vs s w := BPost.same h (Keep.refl _ _)
  unfold BdS.bind at hs
  obtain ⟨y1, ey1⟩ : ∃ y, s.st id = y := ⟨_, rfl⟩
  obtain ⟨y2, ey2⟩ : ∃ y, s.st tt = y := ⟨_, rfl⟩
  have st1 := rstate_any (id := id) h
  have st2 := rstate_any (id := tt) h
  have wt := rwaits_any (id := id) (tt := tt) h
  rw [ey1] at st1 hs
  rw [ey2] at st2 hs
  have EY2 := Lib.hid ey2
  clear h ey1 ey2
  by_cases ha : s.has id
  · by_cases hb : s.has tt
    · rw [if_neg (fun q => q.elim (fun q => q ha) (fun q => q hb))] at hs
      have p1 := rat_pos HH.out ha
      have p2 := rat_pos HH.out hb
      clear ha hb
      by_cases hid : id = tt
      · rw [if_pos hid] at hs
        obtain ⟨rfl, rfl⟩ := Prod.mk.inj hs
        have LF := Lib.hid S0
        subst hid
        clear hs S0 wt st1 st2
        go_enter Tryd.func20, Tryd.ntmps20
        go_wp2_with fail; refine p1.mono ?_; rintro e w1 ⟨rfl, i1, _, rfl⟩; have i0 : ¬ ((i1 : Int) < 0) := (by omega); go_wp2_with fail; refine p2.mono ?_; rintro e w2 ⟨rfl, i2, _, rfl⟩; have i02 : ¬ ((i2 : Int) < 0) := (by omega)
        clear HH; go_wp2_with fail; go_ret; exact ⟨rfl, LF.out⟩
      · rw [if_neg hid] at hs
        have hid2 : (id == tt) = false := by simpa using hid
        by_cases h1 : y1 = 3 ∨ y1 = 4
        · rw [if_pos h1] at hs
          obtain ⟨rfl, rfl⟩ := Prod.mk.inj hs
          have LF := Lib.hid S0
          clear hs S0 wt st2
          rcases h1 with rfl | rfl
          · go_enter Tryd.func20, Tryd.ntmps20
            go_wp2_with fail; refine p1.mono ?_; rintro e w1 ⟨rfl, i1, _, rfl⟩; have i0 : ¬ ((i1 : Int) < 0) := (by omega); go_wp2_with fail; refine p2.mono ?_; rintro e w2 ⟨rfl, i2, _, rfl⟩; have i02 : ¬ ((i2 : Int) < 0) := (by omega)
            go_wp2_with fail; refine st1.mono ?_; rintro e w3 ⟨rfl, rfl⟩
            clear HH; go_wp2_with fail; go_ret; exact ⟨rfl, LF.out⟩
          · go_enter Tryd.func20, Tryd.ntmps20
            go_wp2_with fail; refine p1.mono ?_; rintro e w1 ⟨rfl, i1, _, rfl⟩; have i0 : ¬ ((i1 : Int) < 0) := (by omega); go_wp2_with fail; refine p2.mono ?_; rintro e w2 ⟨rfl, i2, _, rfl⟩; have i02 : ¬ ((i2 : Int) < 0) := (by omega)
            go_wp2_with fail; refine st1.mono ?_; rintro e w3 ⟨rfl, rfl⟩
            go_wp2_with fail; refine st1.mono ?_; rintro e w3 ⟨rfl, rfl⟩
            clear HH; go_wp2_with fail; go_ret; exact ⟨rfl, LF.out⟩
        · rw [if_neg h1] at hs
          have y13 : (y1 == 3) = false := by simp; omega
          have y14 : (y1 == 4) = false := by simp; omega
          clear h1
          by_cases h2 : y2 = 3 ∨ s.wt id tt
          · rw [if_pos h2] at hs
            obtain ⟨rfl, rfl⟩ := Prod.mk.inj hs
            have LF := Lib.hid S0
            clear hs S0
            by_cases h3 : y2 = 3
            · subst h3
              clear h2 wt
              go_enter Tryd.func20, Tryd.ntmps20
              go_wp2_with fail; refine p1.mono ?_; rintro e w1 ⟨rfl, i1, _, rfl⟩; have i0 : ¬ ((i1 : Int) < 0) := (by omega); go_wp2_with fail; refine p2.mono ?_; rintro e w2 ⟨rfl, i2, _, rfl⟩; have i02 : ¬ ((i2 : Int) < 0) := (by omega)
              go_wp2_with fail; refine st1.mono ?_; rintro e w3 ⟨rfl, rfl⟩
              go_wp2_with fail; refine st1.mono ?_; rintro e w3 ⟨rfl, rfl⟩
              go_wp2_with fail; refine st2.mono ?_; rintro e w4 ⟨rfl, rfl⟩
              clear HH; go_wp2_with fail; go_ret; exact ⟨rfl, LF.out⟩
            · have y23 : (y2 == 3) = false := by simpa using h3
              rw [yes_of (h2.resolve_left h3)] at wt
              clear h2
              go_enter Tryd.func20, Tryd.ntmps20
              go_wp2_with fail; refine p1.mono ?_; rintro e w1 ⟨rfl, i1, _, rfl⟩; have i0 : ¬ ((i1 : Int) < 0) := (by omega); go_wp2_with fail; refine p2.mono ?_; rintro e w2 ⟨rfl, i2, _, rfl⟩; have i02 : ¬ ((i2 : Int) < 0) := (by omega)
              go_wp2_with fail; refine st1.mono ?_; rintro e w3 ⟨rfl, rfl⟩
              go_wp2_with fail; refine st1.mono ?_; rintro e w3 ⟨rfl, rfl⟩
              go_wp2_with fail; refine st2.mono ?_; rintro e w4 ⟨rfl, rfl⟩
              go_wp2_with fail; refine wt.mono ?_; rintro e w5 ⟨rfl, rfl⟩
              clear HH; go_wp2_with fail; go_ret; exact ⟨rfl, LF.out⟩
          · rw [if_neg h2] at hs
            have y23 : (y2 == 3) = false := by simp; exact fun q => h2 (.inl q)
            rw [yes_not (fun q => h2 (.inr q))] at wt
            clear h2
            by_cases h4 : y2 = 4
            · rw [if_pos h4] at hs
              obtain ⟨rfl, rfl⟩ := Prod.mk.inj hs
              subst h4
              clear hs S0
              go_enter Tryd.func20, Tryd.ntmps20
              go_wp2_with fail; refine p1.mono ?_; rintro e w1 ⟨rfl, i1, _, rfl⟩; have i0 : ¬ ((i1 : Int) < 0) := (by omega); go_wp2_with fail; refine p2.mono ?_; rintro e w2 ⟨rfl, i2, _, rfl⟩; have i02 : ¬ ((i2 : Int) < 0) := (by omega)
              go_wp2_with fail; refine st1.mono ?_; rintro e w3 ⟨rfl, rfl⟩
              go_wp2_with fail; refine st1.mono ?_; rintro e w3 ⟨rfl, rfl⟩
              go_wp2_with fail; refine st2.mono ?_; rintro e w4 ⟨rfl, rfl⟩
              go_wp2_with fail; refine wt.mono ?_; rintro e w5 ⟨rfl, rfl⟩
              go_wp2_with fail; refine st2.mono ?_; rintro e w4 ⟨rfl, rfl⟩
              go_wp2_with fail
              refine (rdoom_any (id := id) HH.out).mono ?_
              rintro e w9 ⟨u9, rfl, _, h9, k9⟩
              have LF := Lib.hid (BPost.one h9 k9)
              clear st1 st2 p1 p2 wt k9 h9
              clear HH; go_wp2_with fail; go_ret; exact ⟨rfl, LF.out⟩
            · rw [if_neg h4] at hs
              have y24 : (y2 == 4) = false := by simpa using h4
              clear S0
              have HS := Lib.hid hs
              clear hs
              go_enter Tryd.func20, Tryd.ntmps20
              go_wp2_with fail; refine p1.mono ?_; rintro e w1 ⟨rfl, i1, _, rfl⟩; have i0 : ¬ ((i1 : Int) < 0) := (by omega); go_wp2_with fail; refine p2.mono ?_; rintro e w2 ⟨rfl, i2, _, rfl⟩; have i02 : ¬ ((i2 : Int) < 0) := (by omega)
              go_wp2_with fail; refine st1.mono ?_; rintro e w3 ⟨rfl, rfl⟩
              go_wp2_with fail; refine st1.mono ?_; rintro e w3 ⟨rfl, rfl⟩
              go_wp2_with fail; refine st2.mono ?_; rintro e w4 ⟨rfl, rfl⟩
              go_wp2_with fail; refine wt.mono ?_; rintro e w5 ⟨rfl, rfl⟩
              go_wp2_with fail; refine st2.mono ?_; rintro e w4 ⟨rfl, rfl⟩
              go_wp2_with fail
              refine (rreach_any (id := tt) HH.out).mono ?_
              rintro e w9 ⟨g, off, m, cp, ys, rfl, yl, mc, m60, hy, gw, HY, k9⟩
              have HYC := Lib.hid hy
              have YL := Lib.hid yl
              have H9 := Lib.hid (HH.out.later k9)
              have K9 := Lib.hid k9
              have my := HY id hid
              have MY := Lib.hid my
              clear hy yl HY my st1 p1 p2 wt k9 gw st2
              go_wp2
              by_cases hr : s.Rch tt id
              · have HS := HS.out
                rw [if_pos hr] at HS
                obtain ⟨rfl, rfl⟩ := Prod.mk.inj HS
                have LF := Lib.hid (BPost.same H9.out K9.out)
                have HM := Lib.hid (MY.out.2 hr)
                clear HS hr
                go_loopg [8] m (fun mm iv wz => w9 = wz ∧ ∃ j : Nat, mm + j = m ∧ iv = .int .i64 j ∧ ∀ t, t < j → ys.getD t 0 ≠ id)
                case atStart => exact ⟨rfl, 0, by omega, rfl, fun t ht => by omega⟩
                case round =>
                  obtain ⟨rfl, j, hgj, rfl, ht⟩ := hrel
                  have HT := Lib.hid ht
                  clear ht
                  by_cases hj : j < m
                  · have hq := HYC.out j hj
                    obtain ⟨q, eq⟩ : ∃ q, ys.getD j 0 = q := ⟨_, rfl⟩
                    rw [eq] at hq
                    have EQ := Lib.hid eq
                    have wj : IntKind.i64.wrap ((j : Int) + 1) = (j : Int) + 1 := IntWalk.i64_in _ (by omega)
                    clear eq
                    by_cases hx : q = id
                    · subst hx
                      clear HH; go_wp2_with fail; go_ret; exact ⟨rfl, LF.out⟩
                    · have hx2 : (q == id) = false := by simpa using hx
                      go_wp2_with fail
                      go_roundg (m - (j + 1))
                      case measure => omega
                      case rel => exact ⟨rfl, j + 1, by omega, by go_num, fun t ht => by
                        by_cases e : t = j
                        · subst e; rw [EQ.out]; exact hx
                        · exact HT.out t (by omega)⟩
                  · obtain ⟨t, ht, et⟩ := List.mem_iff_getElem.1 HM.out
                    exact absurd (by rw [List.getD_eq_getElem?_getD, List.getElem?_eq_getElem ht, et]; rfl) (HT.out t (by rw [YL.out] at ht; omega))
              · have HS := HS.out
                rw [if_neg hr] at HS
                obtain ⟨rfl, hs2⟩ := Prod.mk.inj HS
                have HN := Lib.hid (fun q => hr (MY.out.1 q))
                clear HS hr
                have HS2 := Lib.hid hs2
                clear hs2
                go_loopg [8] m (fun mm iv wz => w9 = wz ∧ ∃ j : Nat, mm + j = m ∧ iv = .int .i64 j)
                case atStart => exact ⟨rfl, 0, by omega, rfl⟩
                case round =>
                  obtain ⟨rfl, j, hgj, rfl⟩ := hrel
                  by_cases hj : j < m
                  · have hq := HYC.out j hj
                    obtain ⟨q, eq⟩ : ∃ q, ys.getD j 0 = q := ⟨_, rfl⟩
                    rw [eq] at hq
                    have wj : IntKind.i64.wrap ((j : Int) + 1) = (j : Int) + 1 := IntWalk.i64_in _ (by omega)
                    have hx : q ≠ id := fun e => HN.out (by
                      rw [← e, ← eq, List.getD_eq_getElem?_getD, List.getElem?_eq_getElem (by rw [YL.out]; exact hj)]
                      exact List.getElem_mem _)
                    have hx2 : (q == id) = false := by simpa using hx
                    clear eq
                    go_wp2_with fail
                    go_roundg (m - (j + 1))
                    case measure => omega
                    case rel => exact ⟨rfl, j + 1, by omega, by go_num⟩
                  · obtain rfl : j = m := by omega
                    have st2 := rstate_any (id := tt) H9.out
                    rw [EY2.out] at st2
                    clear hj hgj
                    go_wp2_with fail
                    refine st2.mono ?_
                    rintro e w4 ⟨rfl, rfl⟩
                    clear st2
                    by_cases h5 : y2 = 2
                    · have EQ := HS2.out.symm
                      rw [if_pos h5] at EQ
                      have EQ := Lib.hid EQ
                      subst h5
                      go_wp2_with fail
                      refine (rdoom_any (id := id) H9.out).mono ?_
                      rintro e y0 ⟨u9, rfl, _, h0, k0⟩
                      have HT := Lib.hid h0
                      have VK0 : RowKit.Hid (VKeep (RFt r vs) (RFt r vs) w y0) := Lib.hid ((VKeep.quiet (S := RFt r vs) K9.out).then ⟨k0.mono (fun q e => .inr ⟨1, by omega, e⟩), fun _ q => .inl q⟩)
                      clear h0 k0 H9 K9
                      obtain ⟨A0, c0, d0, v0, _⟩ := HT.out.row 2 (by omega)
                      obtain ⟨A1, c1, d1, v1, _⟩ := HT.out.row 3 (by omega)
                      have fr := HT.out.free
                      have lt := HT.out.lt
                      have o0 := HT.out.own 2 (by omega)
                      obtain ⟨n, hn⟩ : ∃ n, (rowB (s.doom id) 2).length = n := ⟨_, rfl⟩
                      obtain ⟨n1, hn1⟩ : ∃ n1, (rowB (s.doom id) 3).length = n1 := ⟨_, rfl⟩
                      have nn : n ≤ 60 := by rw [← hn, row_len2]; exact HT.out.few.2
                      have nn1 : n1 ≤ 60 := by rw [← hn1, row_len3]; exact HT.out.few.2
                      rw [hn] at d0 v0
                      rw [hn1] at d1 v1
                      rw [v0] at o0
                      have L0 := Lib.hid hn
                      have L1 := Lib.hid hn1
                      have V0 := Lib.hid v0
                      have V1 := Lib.hid v1
                      have HR := Lib.hid HT.out.raw
                      clear v0 v1 hn hn1
                      go_wp2_with (with_reducible refine wp_stop 83 rfl ?_)
                      intro _
                      refine wp_pushN rfl (.tmp 80) (.tmp 82) rfl (r + 1) lt (.slice A0 n c0) (rowB (s.doom id) 2) rfl o0 id rfl (by rw [L0.out]; omega) ?_
                      intro g9 c9 y9 o9 k9 hg9
                      rw [← V0.out] at k9 hg9
                      obtain ⟨P1, K1⟩ := HR.out.push (i := 2) (by omega) k9 o9 (fun g e => by
                        have e : g9 = g := by simpa [Value.ownBlock] using e
                        exact e ▸ hg9)
                      have f9 : ∀ i, y9.frozen? ⟨r, i, none⟩ = false := fun i => by simpa using P1.free i
                      have e9 := k9.cell (HR.out.cell 2 (by omega)) (fun e => by have := (OwnN.lt (HR.out.own 2 (by omega)) (g := r) e).1; omega)
                      rw [V0.out] at e9
                      rw [L0.out] at P1 K1 ⊢
                      have P1 := Lib.hid P1
                      have K1 := Lib.hid K1
                      clear o9 k9 hg9 d0 d1 fr lt o0
                      go_upto_region 21 with fail
                      generalize y9.setCell ⟨r, 2, none⟩ (.slice (some ⟨g9, 0, none⟩) (n + 1) c9) = y2 at P1 K1 ⊢
                      have d1 : y2.cell? ⟨r, 3, none⟩ = some (.slice A1 n1 c1) := by
                        have := P1.out.cell 3 (by omega)
                        rw [show vset vs 2 (.slice (some ⟨g9, 0, none⟩) (n + 1) c9) 3 = vs 3 from rfl, V1.out] at this
                        exact this
                      have o1 : OwnN (r + 1) y2 (.slice A1 n1 c1) (rowB (s.doom id) 3) := by
                        have := P1.out.own 3 (by omega)
                        rw [show vset vs 2 (.slice (some ⟨g9, 0, none⟩) (n + 1) c9) 3 = vs 3 from rfl, V1.out] at this
                        exact this
                      have lt := P1.out.lt
                      have fr := P1.out.free
                      clear f9 e9
                      go_wp2_with (with_reducible refine wp_stop 93 rfl ?_)
                      intro _
                      refine wp_pushN rfl (.tmp 90) (.tmp 92) rfl (r + 1) lt (.slice A1 n1 c1) (rowB (s.doom id) 3) rfl o1 tt rfl (by rw [L1.out]; omega) ?_
                      intro g8 c8 y8 o8 k8 hg8
                      have V2 : vset vs 2 (.slice (some ⟨g9, 0, none⟩) (n + 1) c9) 3 = .slice A1 n1 c1 := by
                        show vs 3 = _
                        rw [V1.out]
                      rw [← V2] at k8 hg8
                      obtain ⟨P2, K2⟩ := P1.out.push (i := 3) (by omega) k8 o8 (fun g e => by
                        have e : g8 = g := by simpa [Value.ownBlock] using e
                        exact e ▸ hg8)
                      have f8 : ∀ i, y8.frozen? ⟨r, i, none⟩ = false := fun i => by simpa using P2.free i
                      have e8 := k8.cell (P1.out.cell 3 (by omega)) (fun e => by have := (OwnN.lt (P1.out.own 3 (by omega)) (g := r) e).1; omega)
                      rw [V2] at e8
                      rw [L1.out] at P2 K2 ⊢
                      have RES : RB _ r _ s' := P2.as (bind_rows (s := (s.doom id)) EQ.out) (by rw [EQ.out]; exact HT.out.one) (by
                        rw [EQ.out]
                        refine ⟨HT.out.few.1, ?_⟩
                        show ((s.doom id).ed ++ [(id, tt)]).length ≤ 60
                        rw [List.length_append]
                        exact room)
                      have VK := VK0.out.then (K1.out.then K2)
                      have RES := Lib.hid RES
                      have VK := Lib.hid VK
                      clear o8 k8 hg8 d1 fr lt o1 P2 K2 V2
                      go_wp2
                      go_ret
                      exact ⟨rfl, _, RES.out, VK.out⟩
                    · have EQ := HS2.out.symm
                      rw [if_neg h5] at EQ
                      have EQ := Lib.hid EQ
                      have y22 : (y2 == 2) = false := by simpa using h5
                      have HT := H9
                      have VK0 : RowKit.Hid (VKeep (RFt r vs) (RFt r vs) w w9) := Lib.hid (VKeep.quiet (S := RFt r vs) K9.out)
                      clear h5 H9 K9
                      obtain ⟨A0, c0, d0, v0, _⟩ := HT.out.row 2 (by omega)
                      obtain ⟨A1, c1, d1, v1, _⟩ := HT.out.row 3 (by omega)
                      have fr := HT.out.free
                      have lt := HT.out.lt
                      have o0 := HT.out.own 2 (by omega)
                      obtain ⟨n, hn⟩ : ∃ n, (rowB s 2).length = n := ⟨_, rfl⟩
                      obtain ⟨n1, hn1⟩ : ∃ n1, (rowB s 3).length = n1 := ⟨_, rfl⟩
                      have nn : n ≤ 60 := by rw [← hn, row_len2]; exact HT.out.few.2
                      have nn1 : n1 ≤ 60 := by rw [← hn1, row_len3]; exact HT.out.few.2
                      rw [hn] at d0 v0
                      rw [hn1] at d1 v1
                      rw [v0] at o0
                      have L0 := Lib.hid hn
                      have L1 := Lib.hid hn1
                      have V0 := Lib.hid v0
                      have V1 := Lib.hid v1
                      have HR := Lib.hid HT.out.raw
                      clear v0 v1 hn hn1
                      go_wp2_with (with_reducible refine wp_stop 83 rfl ?_)
                      intro _
                      refine wp_pushN rfl (.tmp 80) (.tmp 82) rfl (r + 1) lt (.slice A0 n c0) (rowB s 2) rfl o0 id rfl (by rw [L0.out]; omega) ?_
                      intro g9 c9 y9 o9 k9 hg9
                      rw [← V0.out] at k9 hg9
                      obtain ⟨P1, K1⟩ := HR.out.push (i := 2) (by omega) k9 o9 (fun g e => by
                        have e : g9 = g := by simpa [Value.ownBlock] using e
                        exact e ▸ hg9)
                      have f9 : ∀ i, y9.frozen? ⟨r, i, none⟩ = false := fun i => by simpa using P1.free i
                      have e9 := k9.cell (HR.out.cell 2 (by omega)) (fun e => by have := (OwnN.lt (HR.out.own 2 (by omega)) (g := r) e).1; omega)
                      rw [V0.out] at e9
                      rw [L0.out] at P1 K1 ⊢
                      have P1 := Lib.hid P1
                      have K1 := Lib.hid K1
                      clear o9 k9 hg9 d0 d1 fr lt o0
                      go_upto_region 21 with fail
                      generalize y9.setCell ⟨r, 2, none⟩ (.slice (some ⟨g9, 0, none⟩) (n + 1) c9) = y2 at P1 K1 ⊢
                      have d1 : y2.cell? ⟨r, 3, none⟩ = some (.slice A1 n1 c1) := by
                        have := P1.out.cell 3 (by omega)
                        rw [show vset vs 2 (.slice (some ⟨g9, 0, none⟩) (n + 1) c9) 3 = vs 3 from rfl, V1.out] at this
                        exact this
                      have o1 : OwnN (r + 1) y2 (.slice A1 n1 c1) (rowB s 3) := by
                        have := P1.out.own 3 (by omega)
                        rw [show vset vs 2 (.slice (some ⟨g9, 0, none⟩) (n + 1) c9) 3 = vs 3 from rfl, V1.out] at this
                        exact this
                      have lt := P1.out.lt
                      have fr := P1.out.free
                      clear f9 e9
                      go_wp2_with (with_reducible refine wp_stop 93 rfl ?_)
                      intro _
                      refine wp_pushN rfl (.tmp 90) (.tmp 92) rfl (r + 1) lt (.slice A1 n1 c1) (rowB s 3) rfl o1 tt rfl (by rw [L1.out]; omega) ?_
                      intro g8 c8 y8 o8 k8 hg8
                      have V2 : vset vs 2 (.slice (some ⟨g9, 0, none⟩) (n + 1) c9) 3 = .slice A1 n1 c1 := by
                        show vs 3 = _
                        rw [V1.out]
                      rw [← V2] at k8 hg8
                      obtain ⟨P2, K2⟩ := P1.out.push (i := 3) (by omega) k8 o8 (fun g e => by
                        have e : g8 = g := by simpa [Value.ownBlock] using e
                        exact e ▸ hg8)
                      have f8 : ∀ i, y8.frozen? ⟨r, i, none⟩ = false := fun i => by simpa using P2.free i
                      have e8 := k8.cell (P1.out.cell 3 (by omega)) (fun e => by have := (OwnN.lt (P1.out.own 3 (by omega)) (g := r) e).1; omega)
                      rw [V2] at e8
                      rw [L1.out] at P2 K2 ⊢
                      have RES : RB _ r _ s' := P2.as (bind_rows (s := s) EQ.out) (by rw [EQ.out]; exact HT.out.one) (by
                        rw [EQ.out]
                        refine ⟨HT.out.few.1, ?_⟩
                        show (s.ed ++ [(id, tt)]).length ≤ 60
                        rw [List.length_append]
                        exact room)
                      have VK := VK0.out.then (K1.out.then K2)
                      have RES := Lib.hid RES
                      have VK := Lib.hid VK
                      clear o8 k8 hg8 d1 fr lt o1 P2 K2 V2
                      go_wp2
                      go_ret
                      exact ⟨rfl, _, RES.out, VK.out⟩
    · rw [if_pos (.inr hb)] at hs
      obtain ⟨rfl, rfl⟩ := Prod.mk.inj hs
      have p1 := rat_pos HH.out ha
      have p2 := rat_neg HH.out hb
      have LF := Lib.hid S0
      clear hs S0 wt st1 st2 ha hb
      go_enter Tryd.func20, Tryd.ntmps20
      go_wp2_with fail
      refine p1.mono ?_
      rintro e w1 ⟨rfl, i, hi, rfl⟩
      have i0 : ¬ ((i : Int) < 0) := by omega
      go_wp2_with fail
      refine p2.mono ?_
      rintro e w1 ⟨rfl, rfl⟩
      clear p1 p2
      clear HH; go_wp2_with fail; go_ret; exact ⟨rfl, LF.out⟩
  · rw [if_pos (.inl ha)] at hs
    obtain ⟨rfl, rfl⟩ := Prod.mk.inj hs
    have p1 := rat_neg HH.out ha
    have LF := Lib.hid S0
    clear hs S0 wt st1 st2 ha
    go_enter Tryd.func20, Tryd.ntmps20
    go_wp2_with fail
    refine p1.mono ?_
    rintro e w1 ⟨rfl, rfl⟩
    clear p1
    clear HH; go_wp2_with fail; go_ret; exact ⟨rfl, LF.out⟩
end
end Go.Proofs.YtjobphjpfknfeaaDoor
