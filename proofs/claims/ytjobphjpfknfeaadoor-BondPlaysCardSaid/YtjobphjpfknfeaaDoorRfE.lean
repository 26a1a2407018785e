/- The document's own Bonds: whom an end dooms (doom), in memory. Conditions: as XRfB's. -/
import Derived.Test.YtjobphjpfknfeaaDoorRfD
namespace Go.Proofs.YtjobphjpfknfeaaDoor
open Go.ChangeShapes Go.WideShapes Go.ChangeAt Go.RowKit
set_option linter.unusedVariables false
open Classical

section
variable {w w' : World} {r : Nat} {vs : Nat → Value} {s : BdS} {id v : Int}
def Dm1 (w : World) (s : BdS) (id : Int) (n k : Nat) (u iv : Value) (wr : World) : Prop := ∃ zs, k ≤ n ∧ iv = .int .i64 k ∧ OwnN w.heap.size wr u zs ∧ Dmk s id k zs ∧ Keep (fun _ => False) w wr
def Dm2 (x : World) (x1 : Prop) (ys : List Int) (id : Int) (j : Nat) (hv jv : Value) (wr : World) : Prop := x = wr ∧ jv = .int .i64 j ∧ ∃ h : Bool, hv = .bool h ∧ (h = true ↔ x1 ∨ ∃ t, t < j ∧ ys.getD t 0 = id)
def Dm3 (w : World) (r : Nat) (vs : Nat → Value) (s : BdS) (zs : List Int) (u : Value) (k : Nat) (iv : Value) (wr : World) : Prop := k ≤ zs.length ∧ iv = .int .i64 k ∧ OwnN w.heap.size wr u zs ∧ RB wr r vs (mid s (zs.take k)) ∧ Keep (fun q => (vs 1).ownBlock = some q) w wr
set_option maxRecDepth 100000 in
set_option maxHeartbeats 4000000 in
theorem rdoom_any (h : RB w r vs s) : Calls Tryd.prog 34 #[.pointer (some ⟨r, 0, .none⟩), .int .i64 id] w fun e w' => ∃ u, e = .returned u ∧ OwnN w.heap.size w' u (s.dooms id) ∧ RB w' r vs (s.doom id) ∧ Keep (fun q => (vs 1).ownBlock = some q) w w' := by
  have few := h.few.1
  obtain ⟨n, hn⟩ : ∃ n, s.ids.length = n := ⟨_, rfl⟩
  rw [hn] at few
  have HN := Lib.hid hn
  have HH := Lib.hid h
  clear h hn
  go_enter Tryd.func34, Tryd.ntmps34
  go_wp2
  go_loopg [5, 6, 7, 8, 9, 10] n (fun mm u iv v7 v8 v9 v10 wr => ∃ k : Nat, mm + k = n ∧ Dm1 w s id n k u iv wr)
  case atStart => exact ⟨0, by omega, [], by omega, rfl, World.ownsRow_nil _ _ _ _, Dmk.none, Keep.refl _ _⟩
  case round =>
    obtain ⟨k, hgk, zs, kn, rfl, ow, dm, kw⟩ := hrel
    have h := HH.out.later kw
    have DM := Lib.hid dm
    clear dm
    by_cases hlt : k < n
    · obtain ⟨A0, c0, d0, _, hr0⟩ := h.row 0 (by omega)
      obtain ⟨A1, c1, d1, _, hr1⟩ := h.row 1 (by omega)
      have fr := h.free
      rw [row_len0, HN.out] at d0 hr0
      rw [row_len1, HN.out] at d1 hr1
      obtain ⟨g0, rfl, hd0⟩ := hr0 (by omega)
      obtain ⟨g1, rfl, hd1⟩ := hr1 (by omega)
      have hc0 := hd0 k hlt
      have hc1 := hd1 k hlt
      clear hd0 hd1 hr0 hr1
      rw [row_id] at hc0
      rw [row_st] at hc1
      obtain ⟨x, ex⟩ : ∃ x, (s.ids.getD k (0, 0)).1 = x := ⟨_, rfl⟩
      obtain ⟨z, ez⟩ : ∃ z, (s.ids.getD k (0, 0)).2 = z := ⟨_, rfl⟩
      rw [ex] at hc0
      rw [ez] at hc1
      have EX := Lib.hid ex
      have EZ := Lib.hid ez
      have wk : IntKind.i64.wrap ((k : Int) + 1) = (k : Int) + 1 := IntWalk.i64_in _ (by omega)
      have rr := rreach_any (id := x) h
      clear h ex ez
      go_wp2_with fail
      refine rr.mono ?_
      rintro e w2 ⟨g, off, m, c, ys, rfl, yl, mc, m60, hy, gw, HY, k2⟩
      have kw := kw.trans k2
      have ow := OwnN.keep ow k2 (fun _ _ q => q)
      have hc1 := k2.cell hc1 (fun q => q)
      have d1 := k2.cell d1 (fun q => q)
      have h2 := HH.out.later kw
      have fr2 := h2.free
      have hxx : ((x == id) = true ↔ x = id) := by simp
      have HY := Lib.hid HY
      have HYC := Lib.hid hy
      have YL := Lib.hid yl
      clear rr k2 hc0 d0 fr h2 yl gw hy
      go_wp2
      go_loopg [8, 10] m (fun mm hv jv wz => ∃ j : Nat, mm + j = m ∧ Dm2 w2 (x = id) ys id j hv jv wz)
      case atStart => exact ⟨0, by omega, rfl, rfl, (x == id), rfl, by simp⟩
      case round =>
        obtain ⟨j, hgj, rfl, rfl, hb, rfl, hh⟩ := hrel
        have wj : IntKind.i64.wrap ((j : Int) + 1) = (j : Int) + 1 := IntWalk.i64_in _ (by omega)
        have H2 := Lib.hid hh
        clear hh
        by_cases hj : j < m
        · have hq := HYC.out j hj
          obtain ⟨q, eq⟩ : ∃ q, ys.getD j 0 = q := ⟨_, rfl⟩
          rw [eq] at hq
          have EQ := Lib.hid eq
          clear eq
          cases hb
          · by_cases hx : q = id
            · subst hx
              go_wp2_with fail
              go_roundg (m - (j + 1))
              case measure => omega
              case rel => exact ⟨j + 1, by omega, rfl, by go_num, true, rfl, ⟨fun _ => .inr ⟨j, by omega, EQ.out⟩, fun _ => rfl⟩⟩
            · have hx2 : (q == id) = false := by simpa using hx
              go_wp2_with fail
              go_roundg (m - (j + 1))
              case measure => omega
              case rel => exact ⟨j + 1, by omega, rfl, by go_num, false, rfl, ⟨(fun q => by cases q), fun q' => by
                have : x = id ∨ ∃ t, t < j ∧ ys.getD t 0 = id := q'.imp_right fun ⟨t, ht, et⟩ => ⟨t, by
                  by_cases e : t = j
                  · subst e; exact absurd (EQ.out.symm.trans et) hx
                  · omega, et⟩
                simpa using H2.out.2 this⟩⟩
          · go_wp2_with fail
            go_roundg (m - (j + 1))
            case measure => omega
            case rel => exact ⟨j + 1, by omega, rfl, by go_num, true, rfl, ⟨fun _ => (H2.out.1 (by simp)).imp_right fun ⟨t, ht, et⟩ => ⟨t, by omega, et⟩, fun _ => rfl⟩⟩
        · obtain rfl : j = m := by omega
          have hit : hb = true ↔ x = id ∨ s.Rch x id := by
            rw [H2.out]
            by_cases e : x = id
            · simp [e]
            · rw [← HY.out id (fun q => e q.symm)]
              refine or_congr_right ?_
              constructor
              · rintro ⟨t, ht, et⟩
                rw [← et, List.getD_eq_getElem?_getD, List.getElem?_eq_getElem (by rw [YL.out]; exact ht)]
                exact List.getElem_mem _
              · intro q
                obtain ⟨t, ht, et⟩ := List.mem_iff_getElem.1 q
                exact ⟨t, by rw [YL.out] at ht; exact ht, by rw [List.getD_eq_getElem?_getD, List.getElem?_eq_getElem ht, et]; rfl⟩
          by_cases hh : hb = true ∧ z = 1
          · obtain ⟨rfl, rfl⟩ := hh
            have SK := Lib.hid (DM.out.put EX.out EZ.out (hit.1 rfl))
            have zl := DM.out.2.1
            have bw := kw.size
            obtain ⟨A0, c0, d0, _, hr0⟩ := (HH.out.later kw).row 0 (by omega)
            clear hit d0 hr0
            go_wp2_with fail
            refine (put_any (o := x) ow (by omega) bw).mono ?_
            rintro e w9 ⟨u9, rfl, o9, k9⟩
            have ow := o9
            have kw := kw.trans k9
            clear o9 k9 hc1 d1 fr2
            go_wp2_with fail
            go_roundg (n - (k + 1)); (case measure => omega); exact ⟨k + 1, by omega, _, by omega, by go_num, ow, SK.out, kw⟩
          · have SK := Lib.hid (DM.out.skip EX.out fun e1 e2 => hh ⟨hit.2 e2, EZ.out.symm.trans e1⟩)
            cases hb
            · clear hit hh
              go_wp2_with fail
              go_roundg (n - (k + 1)); (case measure => omega); exact ⟨k + 1, by omega, _, by omega, by go_num, ow, SK.out, kw⟩
            · have z1 : (z == 1) = false := by
                have : z ≠ 1 := fun e => hh ⟨rfl, e⟩
                simpa using this
              clear hit hh
              go_wp2_with fail
              go_roundg (n - (k + 1)); (case measure => omega); exact ⟨k + 1, by omega, _, by omega, by go_num, ow, SK.out, kw⟩
    · obtain rfl : k = n := by omega
      have ez : zs = s.dooms id := Dmk.all HH.out.one (by rw [HN.out]; exact DM.out)
      have zl := DM.out.2.1
      obtain ⟨A0, c0, d0, _, hr0⟩ := h.row 0 (by omega)
      rw [row_len0, HN.out] at d0
      have fr := h.free
      have R3 : Dm3 w r vs s zs u5 0 (.int .i64 (0 : Nat)) wr := ⟨Nat.zero_le _, rfl, ow, by rw [List.take_zero, mid_none]; exact h, kw.mono (fun _ q => q.elim)⟩
      obtain ⟨A, c, rfl, hA0, hA1⟩ := OwnN.shapeN ow
      obtain ⟨m, hm⟩ : ∃ m, zs.length = m := ⟨_, rfl⟩
      have HM := Lib.hid hm
      have EZ := Lib.hid ez
      rw [hm] at R3 zl ⊢
      clear h ow kw hr0 hm ez
      go_wp2
      go_loopg [11] m (fun mm iv wr => ∃ k : Nat, mm + k = m ∧ Dm3 w r vs s zs (.slice A m c) k iv wr)
      case atStart => exact ⟨0, by omega, R3⟩
      case round =>
        clear R3 d0 fr
        obtain ⟨j, hgj, jm, rfl, ow, h, kw⟩ := hrel
        rw [HM.out] at jm
        by_cases hj : j < m
        · have hA : A ≠ none := fun q => by have := congrArg List.length (hA0 q); rw [HM.out, List.length_nil] at this; omega
          obtain ⟨ad, rfl⟩ := Option.ne_none_iff_exists'.1 hA
          obtain ⟨g, rfl⟩ := hA1 _ rfl
          have jz : j < zs.length := by rw [HM.out]; exact hj
          obtain ⟨x, ex⟩ : ∃ x, zs.getD j 0 = x := ⟨_, rfl⟩
          have hx : s.has x := by
            have : x ∈ s.dooms id := by
              rw [← EZ.out, ← ex, List.getD_eq_getElem?_getD, List.getElem?_eq_getElem jz]
              exact List.getElem_mem jz
            exact (mem_rise.1 this).1
          have NX := mid_next (s := s) jz ex
          obtain ⟨i, hi, ei⟩ := has_at.1 (mid_has (L := zs.take j).2 hx)
          have kd : Keep (fun _ => False) wr wr.drew := (Keep.refl _ _).drew
          have hD := h.later kd
          have hat : ∀ d, Calls Tryd.prog 32 #[.pointer (some ⟨r, 0, .none⟩), .int .i64 x] (wr.drewN d) fun e w' => e = .returned (.int .i64 i) ∧ w' = wr.drewN d := fun d => rat_to (h.later (drewN_keep _ _ d)) hi ei
          obtain ⟨A1, c1, d1, v1, hr1⟩ := hD.row 1 (by omega)
          rw [row_len1] at d1 v1 hr1
          obtain ⟨g1, rfl, hd1⟩ := hr1 (by omega)
          have c1i := hd1 i hi
          have ox := OwnN.cell (n := m) (c := c) ow j jz
          rw [ex] at ox
          have ox : wr.drew.cell? ⟨g, j, none⟩ = some (.int .i64 x) := ox
          have fr1 : wr.drew.frozen? ⟨g1, i, none⟩ = false := by
            have := hD.own 1 (by omega)
            rw [v1] at this
            exact own_free this i
          have fr := hD.free
          have wj : IntKind.i64.wrap ((j : Int) + 1) = (j : Int) + 1 := IntWalk.i64_in _ (by omega)
          have P := hD.put hi ei v1 2
          rw [← NX] at P
          have kS := kd.mono (T := fun q => (vs 1).ownBlock = some q) (fun _ q => q.elim) |>.trans (Keep.setCell (S := fun q => (vs 1).ownBlock = some q) (Keep.refl _ wr.drew) (p := ⟨g1, i, none⟩) (by rw [v1]; rfl) (.int .i64 2))
          have KW := kw.trans kS
          have ne1 : ∀ q, (Value.slice (some ⟨g, 0, none⟩) m c).ownBlock = some q → ¬ (vs 1).ownBlock = some q := fun q e1 e2 => by
            have := (OwnN.lt ow e1).1
            have := (OwnN.lt (HH.out.own 1 (by omega)) e2).2
            omega
          have OW := OwnN.keep ow kS ne1
          obtain ⟨n1, en1⟩ : ∃ n1, (mid s (List.take j zs)).ids.length = n1 := ⟨_, rfl⟩
          have n60 := h.few.1
          rw [en1] at d1 hi n60
          have P := Lib.hid P
          have KW := Lib.hid KW
          have OW := Lib.hid OW
          clear hA h hD ow kw NX kS ne1 v1 hd1 hr1 ei en1 ex hx jz
          go_wp2_with fail
          go_still_tail 11, (by kernel_rfl)
          still_call ((hat _).mono (by rintro e w' ⟨rfl, rfl⟩; exact ⟨rfl, rfl⟩))
          repeat still_step
          try refine wpStill_nil ?_
          change wpList _ _ _ _ _ wr.drew
          go_wp2
          go_roundg (m - (j + 1))
          case measure => omega
          case rel => exact ⟨j + 1, by omega, by rw [HM.out]; omega, by go_num, OW.out, P.out, KW.out⟩
        · obtain rfl : j = m := by omega
          have hd : RB wr r vs (s.doom id) := by
            rw [← mid_doom HH.out.one, ← EZ.out]
            rw [List.take_of_length_le (by rw [HM.out]; exact Nat.le_refl _)] at h
            exact h
          have HD := Lib.hid hd
          clear h hd
          go_wp2_with fail
          go_ret
          exact ⟨_, rfl, by rw [← EZ.out]; exact ow, HD.out, kw⟩
end
end Go.Proofs.YtjobphjpfknfeaaDoor
