/- vinculumlaw20.TaleBonds where first is true: the walk. Condition: the words and the table of strconv as they are laid. (Written by wip/tools/bondsgen.py.) -/
import Derived.Test.YtalkfnblnlcklaaDoorTlZ
namespace Go.Proofs.YtalkfnblnlcklaaDoor
open Go.ChangeShapes Go.WideShapes Go.ChangeAt Go.RowKit
set_option linter.unusedVariables false
set_option linter.unusedSimpArgs false
theorem state_inT (st : Int) : (bits .and .i64 st 255).tmod 3 = 0 ∨ (bits .and .i64 st 255).tmod 3 = 1 ∨ (bits .and .i64 st 255).tmod 3 = 2 := by
  rw [i64_mask8, Int.tmod_eq_emod_of_nonneg (by omega)]
  omega
set_option maxRecDepth 100000 in
set_option maxHeartbeats 40000000 in
theorem bondsT (second turn : Bool) (st : Int) (early : Bool) (w : World) (hTab : LdW w) : Calls Tryd.prog 3 #[.bool true, .bool second, .bool turn, .int .i64 st, .bool early] w fun e w' => e = .returned (.bool true) ∧ Below w.heap.size w w' := by
  obtain ⟨wr, eV, H0⟩ := bl_new w
  obtain ⟨A, c, H1⟩ : ∃ A c, BL w wr (w.heap.size + 1) (w.heap.size + 1 + 1) A c [be 1, be 2] 2 := ⟨_, _, H0⟩
  have H := Lib.hid H1
  have hs := state_inT st
  clear H0 H1
  go_enter Tryd.func3, Tryd.ntmps3
  rcases second with _ | _
  ·
    rcases turn with _ | _
    ·
      go_wp2_with fail
      refine (prep_any H.out (by decide) (by decide) 1).mono ?_
      rintro e wr ⟨rfl, A, c, H'⟩
      have H2 := Lib.hid (show BL w wr (w.heap.size + 1) (w.heap.size + 1 + 1) A c [be 1, be 2, kE 3 1 3] 3 from H')
      clear H' H
      have H := H2
      clear H2
      rcases early with _ | _
      ·
        rcases hs with hr | hr | hr
        ·
          have d0 : wr.cell? ⟨w.heap.size + 1, 0, none⟩ = some (.slice A 3 c) := H.out.cl
          go_wp2_with (with_reducible refine wp_stop 71 rfl ?_)
          intro _
          refine wp_pushM Tryd.underlying31 info_ev rfl (by decide) (by decide) evF0_len evF0_one rfl (.tmp 68) (.tmp 70) rfl _ [be 1, be 2, kE 3 1 3] (by rfl) H.out.ow (kE 4 2 1) (by rfl) (by decide) ?_
          intro g cn y o4 k4 hg
          obtain ⟨⟨xx, cx⟩, fx, W, eW', BB⟩ := H.out.push (kE 4 2 1) g cn y o4 k4 hg
          have eW : y.setCell ⟨w.heap.size + 1, 0, none⟩ (.slice (some ⟨g, 0, none⟩) 4 cn) = W := eW'
          have H2 := Lib.hid (show BL w W (w.heap.size + 1) (w.heap.size + 1 + 1) (some ⟨g, 0, none⟩) cn [be 1, be 2, kE 3 1 3, kE 4 2 1] 3 from BB)
          clear o4 k4 hg BB eW' d0 H
          have H := H2
          clear H2
          have d0 : W.cell? ⟨w.heap.size + 1, 0, none⟩ = some (.slice (some ⟨g, 0, none⟩) 4 cn) := H.out.cl
          have OK := Lib.hid (H.out.ok (by decide) (by rfl) (-1) (by decide))
          go_wp2_with fail
          refine OK.out.mono ?_
          rintro e w3 ⟨rfl, H'⟩
          have H2 := Lib.hid H'
          clear H' H OK d0 cx fx eW
          have H := H2
          clear H2
          have AW := Lib.hid (awake20_any (hTab.on H.out.k))
          go_wp2_with fail
          refine AW.out.mono ?_
          rintro e w4 ⟨rfl, k4⟩
          have KF := Lib.hid (H.out.k.trans k4)
          clear k4
          go_wp2
          go_ret
          exact ⟨rfl, (KF.out.bk (Nat.le_refl _)).b⟩
        ·
          have d0 : wr.cell? ⟨w.heap.size + 1, 0, none⟩ = some (.slice A 3 c) := H.out.cl
          go_wp2_with (with_reducible refine wp_stop 59 rfl ?_)
          intro _
          refine wp_pushM Tryd.underlying31 info_ev rfl (by decide) (by decide) evF0_len evF0_one rfl (.tmp 56) (.tmp 58) rfl _ [be 1, be 2, kE 3 1 3] (by rfl) H.out.ow (kE 5 1 0) (by rfl) (by decide) ?_
          intro g cn y o4 k4 hg
          obtain ⟨⟨xx, cx⟩, fx, W, eW', BB⟩ := H.out.push (kE 5 1 0) g cn y o4 k4 hg
          have eW : y.setCell ⟨w.heap.size + 1, 0, none⟩ (.slice (some ⟨g, 0, none⟩) 4 cn) = W := eW'
          have H2 := Lib.hid (show BL w W (w.heap.size + 1) (w.heap.size + 1 + 1) (some ⟨g, 0, none⟩) cn [be 1, be 2, kE 3 1 3, kE 5 1 0] 3 from BB)
          clear o4 k4 hg BB eW' d0 H
          have H := H2
          clear H2
          have d0 : W.cell? ⟨w.heap.size + 1, 0, none⟩ = some (.slice (some ⟨g, 0, none⟩) 4 cn) := H.out.cl
          go_wp2_with (with_reducible refine wp_stop 71 rfl ?_)
          intro _
          clear cx fx eW
          refine wp_pushM Tryd.underlying31 info_ev rfl (by decide) (by decide) evF0_len evF0_one rfl (.tmp 68) (.tmp 70) rfl _ [be 1, be 2, kE 3 1 3, kE 5 1 0] (by rfl) H.out.ow (kE 4 2 1) (by rfl) (by decide) ?_
          intro g2 cn2 y o4 k4 hg
          obtain ⟨⟨xx, cx⟩, fx, W2, eW', BB⟩ := H.out.push (kE 4 2 1) g2 cn2 y o4 k4 hg
          have eW : y.setCell ⟨w.heap.size + 1, 0, none⟩ (.slice (some ⟨g2, 0, none⟩) 5 cn2) = W2 := eW'
          have H2 := Lib.hid (show BL w W2 (w.heap.size + 1) (w.heap.size + 1 + 1) (some ⟨g2, 0, none⟩) cn2 [be 1, be 2, kE 3 1 3, kE 5 1 0, kE 4 2 1] 3 from BB)
          clear o4 k4 hg BB eW' d0 H
          have H := H2
          clear H2
          have d0 : W2.cell? ⟨w.heap.size + 1, 0, none⟩ = some (.slice (some ⟨g2, 0, none⟩) 5 cn2) := H.out.cl
          have OK := Lib.hid (H.out.ok (by decide) (by rfl) (-1) (by decide))
          go_wp2_with fail
          refine OK.out.mono ?_
          rintro e w3 ⟨rfl, H'⟩
          have H2 := Lib.hid H'
          clear H' H OK d0 cx fx eW
          have H := H2
          clear H2
          have AW := Lib.hid (awake20_any (hTab.on H.out.k))
          go_wp2_with fail
          refine AW.out.mono ?_
          rintro e w4 ⟨rfl, k4⟩
          have KF := Lib.hid (H.out.k.trans k4)
          clear k4
          go_wp2
          go_ret
          exact ⟨rfl, (KF.out.bk (Nat.le_refl _)).b⟩
        ·
          have d0 : wr.cell? ⟨w.heap.size + 1, 0, none⟩ = some (.slice A 3 c) := H.out.cl
          go_wp2_with (with_reducible refine wp_stop 65 rfl ?_)
          intro _
          refine wp_pushM Tryd.underlying31 info_ev rfl (by decide) (by decide) evF0_len evF0_one rfl (.tmp 62) (.tmp 64) rfl _ [be 1, be 2, kE 3 1 3] (by rfl) H.out.ow (kE 6 1 0) (by rfl) (by decide) ?_
          intro g cn y o4 k4 hg
          obtain ⟨⟨xx, cx⟩, fx, W, eW', BB⟩ := H.out.push (kE 6 1 0) g cn y o4 k4 hg
          have eW : y.setCell ⟨w.heap.size + 1, 0, none⟩ (.slice (some ⟨g, 0, none⟩) 4 cn) = W := eW'
          have H2 := Lib.hid (show BL w W (w.heap.size + 1) (w.heap.size + 1 + 1) (some ⟨g, 0, none⟩) cn [be 1, be 2, kE 3 1 3, kE 6 1 0] 3 from BB)
          clear o4 k4 hg BB eW' d0 H
          have H := H2
          clear H2
          have d0 : W.cell? ⟨w.heap.size + 1, 0, none⟩ = some (.slice (some ⟨g, 0, none⟩) 4 cn) := H.out.cl
          go_wp2_with (with_reducible refine wp_stop 71 rfl ?_)
          intro _
          clear cx fx eW
          refine wp_pushM Tryd.underlying31 info_ev rfl (by decide) (by decide) evF0_len evF0_one rfl (.tmp 68) (.tmp 70) rfl _ [be 1, be 2, kE 3 1 3, kE 6 1 0] (by rfl) H.out.ow (kE 4 2 1) (by rfl) (by decide) ?_
          intro g2 cn2 y o4 k4 hg
          obtain ⟨⟨xx, cx⟩, fx, W2, eW', BB⟩ := H.out.push (kE 4 2 1) g2 cn2 y o4 k4 hg
          have eW : y.setCell ⟨w.heap.size + 1, 0, none⟩ (.slice (some ⟨g2, 0, none⟩) 5 cn2) = W2 := eW'
          have H2 := Lib.hid (show BL w W2 (w.heap.size + 1) (w.heap.size + 1 + 1) (some ⟨g2, 0, none⟩) cn2 [be 1, be 2, kE 3 1 3, kE 6 1 0, kE 4 2 1] 3 from BB)
          clear o4 k4 hg BB eW' d0 H
          have H := H2
          clear H2
          have d0 : W2.cell? ⟨w.heap.size + 1, 0, none⟩ = some (.slice (some ⟨g2, 0, none⟩) 5 cn2) := H.out.cl
          have OK := Lib.hid (H.out.ok (by decide) (by rfl) (4) (by decide))
          go_wp2_with fail
          refine OK.out.mono ?_
          rintro e w3 ⟨rfl, H'⟩
          have H2 := Lib.hid H'
          clear H' H OK d0 cx fx eW
          have H := H2
          clear H2
          have AW := Lib.hid (awake20_any (hTab.on H.out.k))
          go_wp2_with fail
          refine AW.out.mono ?_
          rintro e w4 ⟨rfl, k4⟩
          have KF := Lib.hid (H.out.k.trans k4)
          clear k4
          go_wp2
          go_ret
          exact ⟨rfl, (KF.out.bk (Nat.le_refl _)).b⟩
      ·
        obtain ⟨r, hr⟩ : ∃ r, (bits .and .i64 st 255).tmod 3 = r := ⟨_, rfl⟩
        rw [hr] at hs
        rcases (by omega : r = 0 ∨ 0 < r) with rfl | hp
        ·
          have d0 : wr.cell? ⟨w.heap.size + 1, 0, none⟩ = some (.slice A 3 c) := H.out.cl
          go_wp2_with (with_reducible refine wp_stop 71 rfl ?_)
          intro _
          refine wp_pushM Tryd.underlying31 info_ev rfl (by decide) (by decide) evF0_len evF0_one rfl (.tmp 68) (.tmp 70) rfl _ [be 1, be 2, kE 3 1 3] (by rfl) H.out.ow (kE 4 2 1) (by rfl) (by decide) ?_
          intro g cn y o4 k4 hg
          obtain ⟨⟨xx, cx⟩, fx, W, eW', BB⟩ := H.out.push (kE 4 2 1) g cn y o4 k4 hg
          have eW : y.setCell ⟨w.heap.size + 1, 0, none⟩ (.slice (some ⟨g, 0, none⟩) 4 cn) = W := eW'
          have H2 := Lib.hid (show BL w W (w.heap.size + 1) (w.heap.size + 1 + 1) (some ⟨g, 0, none⟩) cn [be 1, be 2, kE 3 1 3, kE 4 2 1] 3 from BB)
          clear o4 k4 hg BB eW' d0 H
          have H := H2
          clear H2
          have d0 : W.cell? ⟨w.heap.size + 1, 0, none⟩ = some (.slice (some ⟨g, 0, none⟩) 4 cn) := H.out.cl
          have OK := Lib.hid (H.out.ok (by decide) (by rfl) (-1) (by decide))
          go_wp2_with fail
          refine OK.out.mono ?_
          rintro e w3 ⟨rfl, H'⟩
          have H2 := Lib.hid H'
          clear H' H OK d0 cx fx eW
          have H := H2
          clear H2
          have AW := Lib.hid (awake20_any (hTab.on H.out.k))
          go_wp2_with fail
          refine AW.out.mono ?_
          rintro e w4 ⟨rfl, k4⟩
          have KF := Lib.hid (H.out.k.trans k4)
          clear k4
          go_wp2
          go_ret
          exact ⟨rfl, (KF.out.bk (Nat.le_refl _)).b⟩
        ·
          have dp : decide (0 < r) = true := decide_eq_true hp
          have d0 : wr.cell? ⟨w.heap.size + 1, 0, none⟩ = some (.slice A 3 c) := H.out.cl
          go_wp2_with (with_reducible refine wp_stop 71 rfl ?_)
          intro _
          refine wp_pushM Tryd.underlying31 info_ev rfl (by decide) (by decide) evF0_len evF0_one rfl (.tmp 68) (.tmp 70) rfl _ [be 1, be 2, kE 3 1 3] (by rfl) H.out.ow (kE 4 2 1) (by rfl) (by decide) ?_
          intro g cn y o4 k4 hg
          obtain ⟨⟨xx, cx⟩, fx, W, eW', BB⟩ := H.out.push (kE 4 2 1) g cn y o4 k4 hg
          have eW : y.setCell ⟨w.heap.size + 1, 0, none⟩ (.slice (some ⟨g, 0, none⟩) 4 cn) = W := eW'
          have H2 := Lib.hid (show BL w W (w.heap.size + 1) (w.heap.size + 1 + 1) (some ⟨g, 0, none⟩) cn [be 1, be 2, kE 3 1 3, kE 4 2 1] 3 from BB)
          clear o4 k4 hg BB eW' d0 H
          have H := H2
          clear H2
          have d0 : W.cell? ⟨w.heap.size + 1, 0, none⟩ = some (.slice (some ⟨g, 0, none⟩) 4 cn) := H.out.cl
          have OK := Lib.hid (H.out.ok (by decide) (by rfl) (-1) (by decide))
          go_wp2_with fail
          refine OK.out.mono ?_
          rintro e w3 ⟨rfl, H'⟩
          have H2 := Lib.hid H'
          clear H' H OK d0 cx fx eW
          have H := H2
          clear H2
          have AW := Lib.hid (awake20_any (hTab.on H.out.k))
          go_wp2_with fail
          refine AW.out.mono ?_
          rintro e w4 ⟨rfl, k4⟩
          have KF := Lib.hid (H.out.k.trans k4)
          clear k4
          go_wp2
          go_ret
          exact ⟨rfl, (KF.out.bk (Nat.le_refl _)).b⟩
    ·
      go_wp2_with fail
      refine (prep_any H.out (by decide) (by decide) 1).mono ?_
      rintro e wr ⟨rfl, A, c, H'⟩
      have H2 := Lib.hid (show BL w wr (w.heap.size + 1) (w.heap.size + 1 + 1) A c [be 1, be 2, kE 3 1 3] 3 from H')
      clear H' H
      have H := H2
      clear H2
      rcases early with _ | _
      ·
        rcases hs with hr | hr | hr
        ·
          have d0 : wr.cell? ⟨w.heap.size + 1, 0, none⟩ = some (.slice A 3 c) := H.out.cl
          go_wp2_with (with_reducible refine wp_stop 71 rfl ?_)
          intro _
          refine wp_pushM Tryd.underlying31 info_ev rfl (by decide) (by decide) evF0_len evF0_one rfl (.tmp 68) (.tmp 70) rfl _ [be 1, be 2, kE 3 1 3] (by rfl) H.out.ow (kE 4 2 1) (by rfl) (by decide) ?_
          intro g cn y o4 k4 hg
          obtain ⟨⟨xx, cx⟩, fx, W, eW', BB⟩ := H.out.push (kE 4 2 1) g cn y o4 k4 hg
          have eW : y.setCell ⟨w.heap.size + 1, 0, none⟩ (.slice (some ⟨g, 0, none⟩) 4 cn) = W := eW'
          have H2 := Lib.hid (show BL w W (w.heap.size + 1) (w.heap.size + 1 + 1) (some ⟨g, 0, none⟩) cn [be 1, be 2, kE 3 1 3, kE 4 2 1] 3 from BB)
          clear o4 k4 hg BB eW' d0 H
          have H := H2
          clear H2
          have d0 : W.cell? ⟨w.heap.size + 1, 0, none⟩ = some (.slice (some ⟨g, 0, none⟩) 4 cn) := H.out.cl
          have OK := Lib.hid (H.out.ok (by decide) (by rfl) (-1) (by decide))
          go_wp2_with fail
          refine OK.out.mono ?_
          rintro e w3 ⟨rfl, H'⟩
          have H2 := Lib.hid H'
          clear H' H OK d0 cx fx eW
          have H := H2
          clear H2
          have AW := Lib.hid (awake20_any (hTab.on H.out.k))
          go_wp2_with fail
          refine AW.out.mono ?_
          rintro e w4 ⟨rfl, k4⟩
          have KF := Lib.hid (H.out.k.trans k4)
          clear k4
          go_wp2
          go_ret
          exact ⟨rfl, (KF.out.bk (Nat.le_refl _)).b⟩
        ·
          have d0 : wr.cell? ⟨w.heap.size + 1, 0, none⟩ = some (.slice A 3 c) := H.out.cl
          go_wp2_with (with_reducible refine wp_stop 59 rfl ?_)
          intro _
          refine wp_pushM Tryd.underlying31 info_ev rfl (by decide) (by decide) evF0_len evF0_one rfl (.tmp 56) (.tmp 58) rfl _ [be 1, be 2, kE 3 1 3] (by rfl) H.out.ow (kE 5 1 0) (by rfl) (by decide) ?_
          intro g cn y o4 k4 hg
          obtain ⟨⟨xx, cx⟩, fx, W, eW', BB⟩ := H.out.push (kE 5 1 0) g cn y o4 k4 hg
          have eW : y.setCell ⟨w.heap.size + 1, 0, none⟩ (.slice (some ⟨g, 0, none⟩) 4 cn) = W := eW'
          have H2 := Lib.hid (show BL w W (w.heap.size + 1) (w.heap.size + 1 + 1) (some ⟨g, 0, none⟩) cn [be 1, be 2, kE 3 1 3, kE 5 1 0] 3 from BB)
          clear o4 k4 hg BB eW' d0 H
          have H := H2
          clear H2
          have d0 : W.cell? ⟨w.heap.size + 1, 0, none⟩ = some (.slice (some ⟨g, 0, none⟩) 4 cn) := H.out.cl
          go_wp2_with (with_reducible refine wp_stop 71 rfl ?_)
          intro _
          clear cx fx eW
          refine wp_pushM Tryd.underlying31 info_ev rfl (by decide) (by decide) evF0_len evF0_one rfl (.tmp 68) (.tmp 70) rfl _ [be 1, be 2, kE 3 1 3, kE 5 1 0] (by rfl) H.out.ow (kE 4 2 1) (by rfl) (by decide) ?_
          intro g2 cn2 y o4 k4 hg
          obtain ⟨⟨xx, cx⟩, fx, W2, eW', BB⟩ := H.out.push (kE 4 2 1) g2 cn2 y o4 k4 hg
          have eW : y.setCell ⟨w.heap.size + 1, 0, none⟩ (.slice (some ⟨g2, 0, none⟩) 5 cn2) = W2 := eW'
          have H2 := Lib.hid (show BL w W2 (w.heap.size + 1) (w.heap.size + 1 + 1) (some ⟨g2, 0, none⟩) cn2 [be 1, be 2, kE 3 1 3, kE 5 1 0, kE 4 2 1] 3 from BB)
          clear o4 k4 hg BB eW' d0 H
          have H := H2
          clear H2
          have d0 : W2.cell? ⟨w.heap.size + 1, 0, none⟩ = some (.slice (some ⟨g2, 0, none⟩) 5 cn2) := H.out.cl
          have OK := Lib.hid (H.out.ok (by decide) (by rfl) (-1) (by decide))
          go_wp2_with fail
          refine OK.out.mono ?_
          rintro e w3 ⟨rfl, H'⟩
          have H2 := Lib.hid H'
          clear H' H OK d0 cx fx eW
          have H := H2
          clear H2
          have AW := Lib.hid (awake20_any (hTab.on H.out.k))
          go_wp2_with fail
          refine AW.out.mono ?_
          rintro e w4 ⟨rfl, k4⟩
          have KF := Lib.hid (H.out.k.trans k4)
          clear k4
          go_wp2
          go_ret
          exact ⟨rfl, (KF.out.bk (Nat.le_refl _)).b⟩
        ·
          have d0 : wr.cell? ⟨w.heap.size + 1, 0, none⟩ = some (.slice A 3 c) := H.out.cl
          go_wp2_with (with_reducible refine wp_stop 65 rfl ?_)
          intro _
          refine wp_pushM Tryd.underlying31 info_ev rfl (by decide) (by decide) evF0_len evF0_one rfl (.tmp 62) (.tmp 64) rfl _ [be 1, be 2, kE 3 1 3] (by rfl) H.out.ow (kE 6 1 0) (by rfl) (by decide) ?_
          intro g cn y o4 k4 hg
          obtain ⟨⟨xx, cx⟩, fx, W, eW', BB⟩ := H.out.push (kE 6 1 0) g cn y o4 k4 hg
          have eW : y.setCell ⟨w.heap.size + 1, 0, none⟩ (.slice (some ⟨g, 0, none⟩) 4 cn) = W := eW'
          have H2 := Lib.hid (show BL w W (w.heap.size + 1) (w.heap.size + 1 + 1) (some ⟨g, 0, none⟩) cn [be 1, be 2, kE 3 1 3, kE 6 1 0] 3 from BB)
          clear o4 k4 hg BB eW' d0 H
          have H := H2
          clear H2
          have d0 : W.cell? ⟨w.heap.size + 1, 0, none⟩ = some (.slice (some ⟨g, 0, none⟩) 4 cn) := H.out.cl
          go_wp2_with (with_reducible refine wp_stop 71 rfl ?_)
          intro _
          clear cx fx eW
          refine wp_pushM Tryd.underlying31 info_ev rfl (by decide) (by decide) evF0_len evF0_one rfl (.tmp 68) (.tmp 70) rfl _ [be 1, be 2, kE 3 1 3, kE 6 1 0] (by rfl) H.out.ow (kE 4 2 1) (by rfl) (by decide) ?_
          intro g2 cn2 y o4 k4 hg
          obtain ⟨⟨xx, cx⟩, fx, W2, eW', BB⟩ := H.out.push (kE 4 2 1) g2 cn2 y o4 k4 hg
          have eW : y.setCell ⟨w.heap.size + 1, 0, none⟩ (.slice (some ⟨g2, 0, none⟩) 5 cn2) = W2 := eW'
          have H2 := Lib.hid (show BL w W2 (w.heap.size + 1) (w.heap.size + 1 + 1) (some ⟨g2, 0, none⟩) cn2 [be 1, be 2, kE 3 1 3, kE 6 1 0, kE 4 2 1] 3 from BB)
          clear o4 k4 hg BB eW' d0 H
          have H := H2
          clear H2
          have d0 : W2.cell? ⟨w.heap.size + 1, 0, none⟩ = some (.slice (some ⟨g2, 0, none⟩) 5 cn2) := H.out.cl
          have OK := Lib.hid (H.out.ok (by decide) (by rfl) (4) (by decide))
          go_wp2_with fail
          refine OK.out.mono ?_
          rintro e w3 ⟨rfl, H'⟩
          have H2 := Lib.hid H'
          clear H' H OK d0 cx fx eW
          have H := H2
          clear H2
          have AW := Lib.hid (awake20_any (hTab.on H.out.k))
          go_wp2_with fail
          refine AW.out.mono ?_
          rintro e w4 ⟨rfl, k4⟩
          have KF := Lib.hid (H.out.k.trans k4)
          clear k4
          go_wp2
          go_ret
          exact ⟨rfl, (KF.out.bk (Nat.le_refl _)).b⟩
      ·
        obtain ⟨r, hr⟩ : ∃ r, (bits .and .i64 st 255).tmod 3 = r := ⟨_, rfl⟩
        rw [hr] at hs
        rcases (by omega : r = 0 ∨ 0 < r) with rfl | hp
        ·
          have d0 : wr.cell? ⟨w.heap.size + 1, 0, none⟩ = some (.slice A 3 c) := H.out.cl
          go_wp2_with (with_reducible refine wp_stop 71 rfl ?_)
          intro _
          refine wp_pushM Tryd.underlying31 info_ev rfl (by decide) (by decide) evF0_len evF0_one rfl (.tmp 68) (.tmp 70) rfl _ [be 1, be 2, kE 3 1 3] (by rfl) H.out.ow (kE 4 2 1) (by rfl) (by decide) ?_
          intro g cn y o4 k4 hg
          obtain ⟨⟨xx, cx⟩, fx, W, eW', BB⟩ := H.out.push (kE 4 2 1) g cn y o4 k4 hg
          have eW : y.setCell ⟨w.heap.size + 1, 0, none⟩ (.slice (some ⟨g, 0, none⟩) 4 cn) = W := eW'
          have H2 := Lib.hid (show BL w W (w.heap.size + 1) (w.heap.size + 1 + 1) (some ⟨g, 0, none⟩) cn [be 1, be 2, kE 3 1 3, kE 4 2 1] 3 from BB)
          clear o4 k4 hg BB eW' d0 H
          have H := H2
          clear H2
          have d0 : W.cell? ⟨w.heap.size + 1, 0, none⟩ = some (.slice (some ⟨g, 0, none⟩) 4 cn) := H.out.cl
          have OK := Lib.hid (H.out.ok (by decide) (by rfl) (-1) (by decide))
          go_wp2_with fail
          refine OK.out.mono ?_
          rintro e w3 ⟨rfl, H'⟩
          have H2 := Lib.hid H'
          clear H' H OK d0 cx fx eW
          have H := H2
          clear H2
          have AW := Lib.hid (awake20_any (hTab.on H.out.k))
          go_wp2_with fail
          refine AW.out.mono ?_
          rintro e w4 ⟨rfl, k4⟩
          have KF := Lib.hid (H.out.k.trans k4)
          clear k4
          go_wp2
          go_ret
          exact ⟨rfl, (KF.out.bk (Nat.le_refl _)).b⟩
        ·
          have dp : decide (0 < r) = true := decide_eq_true hp
          have d0 : wr.cell? ⟨w.heap.size + 1, 0, none⟩ = some (.slice A 3 c) := H.out.cl
          go_wp2_with (with_reducible refine wp_stop 71 rfl ?_)
          intro _
          refine wp_pushM Tryd.underlying31 info_ev rfl (by decide) (by decide) evF0_len evF0_one rfl (.tmp 68) (.tmp 70) rfl _ [be 1, be 2, kE 3 1 3] (by rfl) H.out.ow (kE 4 2 1) (by rfl) (by decide) ?_
          intro g cn y o4 k4 hg
          obtain ⟨⟨xx, cx⟩, fx, W, eW', BB⟩ := H.out.push (kE 4 2 1) g cn y o4 k4 hg
          have eW : y.setCell ⟨w.heap.size + 1, 0, none⟩ (.slice (some ⟨g, 0, none⟩) 4 cn) = W := eW'
          have H2 := Lib.hid (show BL w W (w.heap.size + 1) (w.heap.size + 1 + 1) (some ⟨g, 0, none⟩) cn [be 1, be 2, kE 3 1 3, kE 4 2 1] 3 from BB)
          clear o4 k4 hg BB eW' d0 H
          have H := H2
          clear H2
          have d0 : W.cell? ⟨w.heap.size + 1, 0, none⟩ = some (.slice (some ⟨g, 0, none⟩) 4 cn) := H.out.cl
          have OK := Lib.hid (H.out.ok (by decide) (by rfl) (-1) (by decide))
          go_wp2_with fail
          refine OK.out.mono ?_
          rintro e w3 ⟨rfl, H'⟩
          have H2 := Lib.hid H'
          clear H' H OK d0 cx fx eW
          have H := H2
          clear H2
          have AW := Lib.hid (awake20_any (hTab.on H.out.k))
          go_wp2_with fail
          refine AW.out.mono ?_
          rintro e w4 ⟨rfl, k4⟩
          have KF := Lib.hid (H.out.k.trans k4)
          clear k4
          go_wp2
          go_ret
          exact ⟨rfl, (KF.out.bk (Nat.le_refl _)).b⟩
  ·
    rcases turn with _ | _
    ·
      go_wp2_with fail
      refine (prep_any H.out (by decide) (by decide) 1).mono ?_
      rintro e wr ⟨rfl, A, c, H'⟩
      have H2 := Lib.hid (show BL w wr (w.heap.size + 1) (w.heap.size + 1 + 1) A c [be 1, be 2, kE 3 1 3] 3 from H')
      clear H' H
      have H := H2
      clear H2
      go_wp2_with fail
      refine (prep_any H.out (by decide) (by decide) 2).mono ?_
      rintro e wr ⟨rfl, A, c, H'⟩
      have H2 := Lib.hid (show BL w wr (w.heap.size + 1) (w.heap.size + 1 + 1) A c [be 1, be 2, kE 3 1 3, kE 3 2 4] 4 from H')
      clear H' H
      have H := H2
      clear H2
      rcases early with _ | _
      ·
        rcases hs with hr | hr | hr
        ·
          have d0 : wr.cell? ⟨w.heap.size + 1, 0, none⟩ = some (.slice A 4 c) := H.out.cl
          go_wp2_with (with_reducible refine wp_stop 71 rfl ?_)
          intro _
          refine wp_pushM Tryd.underlying31 info_ev rfl (by decide) (by decide) evF0_len evF0_one rfl (.tmp 68) (.tmp 70) rfl _ [be 1, be 2, kE 3 1 3, kE 3 2 4] (by rfl) H.out.ow (kE 4 2 1) (by rfl) (by decide) ?_
          intro g cn y o4 k4 hg
          obtain ⟨⟨xx, cx⟩, fx, W, eW', BB⟩ := H.out.push (kE 4 2 1) g cn y o4 k4 hg
          have eW : y.setCell ⟨w.heap.size + 1, 0, none⟩ (.slice (some ⟨g, 0, none⟩) 5 cn) = W := eW'
          have H2 := Lib.hid (show BL w W (w.heap.size + 1) (w.heap.size + 1 + 1) (some ⟨g, 0, none⟩) cn [be 1, be 2, kE 3 1 3, kE 3 2 4, kE 4 2 1] 4 from BB)
          clear o4 k4 hg BB eW' d0 H
          have H := H2
          clear H2
          have d0 : W.cell? ⟨w.heap.size + 1, 0, none⟩ = some (.slice (some ⟨g, 0, none⟩) 5 cn) := H.out.cl
          have OK := Lib.hid (H.out.ok (by decide) (by rfl) (-1) (by decide))
          go_wp2_with fail
          refine OK.out.mono ?_
          rintro e w3 ⟨rfl, H'⟩
          have H2 := Lib.hid H'
          clear H' H OK d0 cx fx eW
          have H := H2
          clear H2
          have d0 : w3.cell? ⟨w.heap.size + 1, 0, none⟩ = some (.slice (some ⟨g, 0, none⟩) 5 cn) := H.out.cl
          have lN : w.heap.size + 1 < w3.heap.size := lt_of_cell (a := ⟨w.heap.size + 1, 0, none⟩) d0
          have nN : w.heap.size + 1 ≠ w3.heap.size := Nat.ne_of_lt lN
          go_wp2_with (with_reducible refine wp_stop 114 rfl ?_)
          intro _
          refine wp_copy rfl (.tmp 112) (.tmp 113) rfl H.out (by rfl : [be 1, be 2, kE 3 1 3, kE 3 2 4, kE 4 2 1].length = 5) (by decide) rfl rfl ?_
          intro A4 c4 w4 o4 b4 k4
          have O4 := Lib.hid o4
          have B4 := Lib.hid b4
          have K4 := Lib.hid k4
          clear o4 b4 k4 d0 H lN nN
          go_wp2_with (with_reducible refine wp_stop 117 rfl ?_)
          intro _
          refine wp_more rfl (.tmp 114) (.tmp 116) rfl O4.out (by rfl) (by rfl : 5 + 1 = 6) (by decide) B4.out K4.out (kE 5 2 0) rfl rfl ?_
          intro g5 c5 w5 o5 k5
          have OQ := Lib.hid (own_ok (es := [be 1, be 2, kE 3 1 3, kE 3 2 4, kE 4 2 1, kE 5 2 0]) o5 (by rfl) (by decide) (5) (by decide))
          have K5 := Lib.hid k5
          clear o5 k5
          go_wp2_with fail
          refine OQ.out.mono ?_
          rintro e w6 ⟨rfl, k6'⟩
          have k6 := K5.out.trans k6'
          clear OQ k6'
          have AW := Lib.hid (awake20_any (hTab.on k6))
          have K6 := Lib.hid k6
          clear k6
          go_wp2_with fail
          refine AW.out.mono ?_
          rintro e w7 ⟨rfl, k7⟩
          have KF := Lib.hid (K6.out.trans k7)
          clear k7
          go_wp2
          go_ret
          exact ⟨rfl, (KF.out.bk (Nat.le_refl _)).b⟩
        ·
          have d0 : wr.cell? ⟨w.heap.size + 1, 0, none⟩ = some (.slice A 4 c) := H.out.cl
          go_wp2_with (with_reducible refine wp_stop 59 rfl ?_)
          intro _
          refine wp_pushM Tryd.underlying31 info_ev rfl (by decide) (by decide) evF0_len evF0_one rfl (.tmp 56) (.tmp 58) rfl _ [be 1, be 2, kE 3 1 3, kE 3 2 4] (by rfl) H.out.ow (kE 5 1 0) (by rfl) (by decide) ?_
          intro g cn y o4 k4 hg
          obtain ⟨⟨xx, cx⟩, fx, W, eW', BB⟩ := H.out.push (kE 5 1 0) g cn y o4 k4 hg
          have eW : y.setCell ⟨w.heap.size + 1, 0, none⟩ (.slice (some ⟨g, 0, none⟩) 5 cn) = W := eW'
          have H2 := Lib.hid (show BL w W (w.heap.size + 1) (w.heap.size + 1 + 1) (some ⟨g, 0, none⟩) cn [be 1, be 2, kE 3 1 3, kE 3 2 4, kE 5 1 0] 4 from BB)
          clear o4 k4 hg BB eW' d0 H
          have H := H2
          clear H2
          have d0 : W.cell? ⟨w.heap.size + 1, 0, none⟩ = some (.slice (some ⟨g, 0, none⟩) 5 cn) := H.out.cl
          go_wp2_with (with_reducible refine wp_stop 71 rfl ?_)
          intro _
          clear cx fx eW
          refine wp_pushM Tryd.underlying31 info_ev rfl (by decide) (by decide) evF0_len evF0_one rfl (.tmp 68) (.tmp 70) rfl _ [be 1, be 2, kE 3 1 3, kE 3 2 4, kE 5 1 0] (by rfl) H.out.ow (kE 4 2 1) (by rfl) (by decide) ?_
          intro g2 cn2 y o4 k4 hg
          obtain ⟨⟨xx, cx⟩, fx, W2, eW', BB⟩ := H.out.push (kE 4 2 1) g2 cn2 y o4 k4 hg
          have eW : y.setCell ⟨w.heap.size + 1, 0, none⟩ (.slice (some ⟨g2, 0, none⟩) 6 cn2) = W2 := eW'
          have H2 := Lib.hid (show BL w W2 (w.heap.size + 1) (w.heap.size + 1 + 1) (some ⟨g2, 0, none⟩) cn2 [be 1, be 2, kE 3 1 3, kE 3 2 4, kE 5 1 0, kE 4 2 1] 4 from BB)
          clear o4 k4 hg BB eW' d0 H
          have H := H2
          clear H2
          have d0 : W2.cell? ⟨w.heap.size + 1, 0, none⟩ = some (.slice (some ⟨g2, 0, none⟩) 6 cn2) := H.out.cl
          have OK := Lib.hid (H.out.ok (by decide) (by rfl) (-1) (by decide))
          go_wp2_with fail
          refine OK.out.mono ?_
          rintro e w3 ⟨rfl, H'⟩
          have H2 := Lib.hid H'
          clear H' H OK d0 cx fx eW
          have H := H2
          clear H2
          have d0 : w3.cell? ⟨w.heap.size + 1, 0, none⟩ = some (.slice (some ⟨g2, 0, none⟩) 6 cn2) := H.out.cl
          have lN : w.heap.size + 1 < w3.heap.size := lt_of_cell (a := ⟨w.heap.size + 1, 0, none⟩) d0
          have nN : w.heap.size + 1 ≠ w3.heap.size := Nat.ne_of_lt lN
          go_wp2_with (with_reducible refine wp_stop 114 rfl ?_)
          intro _
          refine wp_copy rfl (.tmp 112) (.tmp 113) rfl H.out (by rfl : [be 1, be 2, kE 3 1 3, kE 3 2 4, kE 5 1 0, kE 4 2 1].length = 6) (by decide) rfl rfl ?_
          intro A4 c4 w4 o4 b4 k4
          have O4 := Lib.hid o4
          have B4 := Lib.hid b4
          have K4 := Lib.hid k4
          clear o4 b4 k4 d0 H lN nN
          go_wp2_with (with_reducible refine wp_stop 117 rfl ?_)
          intro _
          refine wp_more rfl (.tmp 114) (.tmp 116) rfl O4.out (by rfl) (by rfl : 6 + 1 = 7) (by decide) B4.out K4.out (kE 5 2 0) rfl rfl ?_
          intro g5 c5 w5 o5 k5
          have OQ := Lib.hid (own_ok (es := [be 1, be 2, kE 3 1 3, kE 3 2 4, kE 5 1 0, kE 4 2 1, kE 5 2 0]) o5 (by rfl) (by decide) (-1) (by decide))
          have K5 := Lib.hid k5
          clear o5 k5
          go_wp2_with fail
          refine OQ.out.mono ?_
          rintro e w6 ⟨rfl, k6'⟩
          have k6 := K5.out.trans k6'
          clear OQ k6'
          have AW := Lib.hid (awake20_any (hTab.on k6))
          have K6 := Lib.hid k6
          clear k6
          go_wp2_with fail
          refine AW.out.mono ?_
          rintro e w7 ⟨rfl, k7⟩
          have KF := Lib.hid (K6.out.trans k7)
          clear k7
          go_wp2
          go_ret
          exact ⟨rfl, (KF.out.bk (Nat.le_refl _)).b⟩
        ·
          have d0 : wr.cell? ⟨w.heap.size + 1, 0, none⟩ = some (.slice A 4 c) := H.out.cl
          go_wp2_with (with_reducible refine wp_stop 65 rfl ?_)
          intro _
          refine wp_pushM Tryd.underlying31 info_ev rfl (by decide) (by decide) evF0_len evF0_one rfl (.tmp 62) (.tmp 64) rfl _ [be 1, be 2, kE 3 1 3, kE 3 2 4] (by rfl) H.out.ow (kE 6 1 0) (by rfl) (by decide) ?_
          intro g cn y o4 k4 hg
          obtain ⟨⟨xx, cx⟩, fx, W, eW', BB⟩ := H.out.push (kE 6 1 0) g cn y o4 k4 hg
          have eW : y.setCell ⟨w.heap.size + 1, 0, none⟩ (.slice (some ⟨g, 0, none⟩) 5 cn) = W := eW'
          have H2 := Lib.hid (show BL w W (w.heap.size + 1) (w.heap.size + 1 + 1) (some ⟨g, 0, none⟩) cn [be 1, be 2, kE 3 1 3, kE 3 2 4, kE 6 1 0] 4 from BB)
          clear o4 k4 hg BB eW' d0 H
          have H := H2
          clear H2
          have d0 : W.cell? ⟨w.heap.size + 1, 0, none⟩ = some (.slice (some ⟨g, 0, none⟩) 5 cn) := H.out.cl
          go_wp2_with (with_reducible refine wp_stop 71 rfl ?_)
          intro _
          clear cx fx eW
          refine wp_pushM Tryd.underlying31 info_ev rfl (by decide) (by decide) evF0_len evF0_one rfl (.tmp 68) (.tmp 70) rfl _ [be 1, be 2, kE 3 1 3, kE 3 2 4, kE 6 1 0] (by rfl) H.out.ow (kE 4 2 1) (by rfl) (by decide) ?_
          intro g2 cn2 y o4 k4 hg
          obtain ⟨⟨xx, cx⟩, fx, W2, eW', BB⟩ := H.out.push (kE 4 2 1) g2 cn2 y o4 k4 hg
          have eW : y.setCell ⟨w.heap.size + 1, 0, none⟩ (.slice (some ⟨g2, 0, none⟩) 6 cn2) = W2 := eW'
          have H2 := Lib.hid (show BL w W2 (w.heap.size + 1) (w.heap.size + 1 + 1) (some ⟨g2, 0, none⟩) cn2 [be 1, be 2, kE 3 1 3, kE 3 2 4, kE 6 1 0, kE 4 2 1] 4 from BB)
          clear o4 k4 hg BB eW' d0 H
          have H := H2
          clear H2
          have d0 : W2.cell? ⟨w.heap.size + 1, 0, none⟩ = some (.slice (some ⟨g2, 0, none⟩) 6 cn2) := H.out.cl
          have OK := Lib.hid (H.out.ok (by decide) (by rfl) (5) (by decide))
          go_wp2_with fail
          refine OK.out.mono ?_
          rintro e w3 ⟨rfl, H'⟩
          have H2 := Lib.hid H'
          clear H' H OK d0 cx fx eW
          have H := H2
          clear H2
          have AW := Lib.hid (awake20_any (hTab.on H.out.k))
          go_wp2_with fail
          refine AW.out.mono ?_
          rintro e w4 ⟨rfl, k4⟩
          have KF := Lib.hid (H.out.k.trans k4)
          clear k4
          go_wp2
          go_ret
          exact ⟨rfl, (KF.out.bk (Nat.le_refl _)).b⟩
      ·
        obtain ⟨r, hr⟩ : ∃ r, (bits .and .i64 st 255).tmod 3 = r := ⟨_, rfl⟩
        rw [hr] at hs
        rcases (by omega : r = 0 ∨ 0 < r) with rfl | hp
        ·
          have d0 : wr.cell? ⟨w.heap.size + 1, 0, none⟩ = some (.slice A 4 c) := H.out.cl
          go_wp2_with (with_reducible refine wp_stop 71 rfl ?_)
          intro _
          refine wp_pushM Tryd.underlying31 info_ev rfl (by decide) (by decide) evF0_len evF0_one rfl (.tmp 68) (.tmp 70) rfl _ [be 1, be 2, kE 3 1 3, kE 3 2 4] (by rfl) H.out.ow (kE 4 2 1) (by rfl) (by decide) ?_
          intro g cn y o4 k4 hg
          obtain ⟨⟨xx, cx⟩, fx, W, eW', BB⟩ := H.out.push (kE 4 2 1) g cn y o4 k4 hg
          have eW : y.setCell ⟨w.heap.size + 1, 0, none⟩ (.slice (some ⟨g, 0, none⟩) 5 cn) = W := eW'
          have H2 := Lib.hid (show BL w W (w.heap.size + 1) (w.heap.size + 1 + 1) (some ⟨g, 0, none⟩) cn [be 1, be 2, kE 3 1 3, kE 3 2 4, kE 4 2 1] 4 from BB)
          clear o4 k4 hg BB eW' d0 H
          have H := H2
          clear H2
          have d0 : W.cell? ⟨w.heap.size + 1, 0, none⟩ = some (.slice (some ⟨g, 0, none⟩) 5 cn) := H.out.cl
          have OK := Lib.hid (H.out.ok (by decide) (by rfl) (-1) (by decide))
          go_wp2_with fail
          refine OK.out.mono ?_
          rintro e w3 ⟨rfl, H'⟩
          have H2 := Lib.hid H'
          clear H' H OK d0 cx fx eW
          have H := H2
          clear H2
          have d0 : w3.cell? ⟨w.heap.size + 1, 0, none⟩ = some (.slice (some ⟨g, 0, none⟩) 5 cn) := H.out.cl
          have lN : w.heap.size + 1 < w3.heap.size := lt_of_cell (a := ⟨w.heap.size + 1, 0, none⟩) d0
          have nN : w.heap.size + 1 ≠ w3.heap.size := Nat.ne_of_lt lN
          go_wp2_with (with_reducible refine wp_stop 114 rfl ?_)
          intro _
          refine wp_copy rfl (.tmp 112) (.tmp 113) rfl H.out (by rfl : [be 1, be 2, kE 3 1 3, kE 3 2 4, kE 4 2 1].length = 5) (by decide) rfl rfl ?_
          intro A4 c4 w4 o4 b4 k4
          have O4 := Lib.hid o4
          have B4 := Lib.hid b4
          have K4 := Lib.hid k4
          clear o4 b4 k4 d0 H lN nN
          go_wp2_with (with_reducible refine wp_stop 117 rfl ?_)
          intro _
          refine wp_more rfl (.tmp 114) (.tmp 116) rfl O4.out (by rfl) (by rfl : 5 + 1 = 6) (by decide) B4.out K4.out (kE 5 2 0) rfl rfl ?_
          intro g5 c5 w5 o5 k5
          have OQ := Lib.hid (own_ok (es := [be 1, be 2, kE 3 1 3, kE 3 2 4, kE 4 2 1, kE 5 2 0]) o5 (by rfl) (by decide) (5) (by decide))
          have K5 := Lib.hid k5
          clear o5 k5
          go_wp2_with fail
          refine OQ.out.mono ?_
          rintro e w6 ⟨rfl, k6'⟩
          have k6 := K5.out.trans k6'
          clear OQ k6'
          have AW := Lib.hid (awake20_any (hTab.on k6))
          have K6 := Lib.hid k6
          clear k6
          go_wp2_with fail
          refine AW.out.mono ?_
          rintro e w7 ⟨rfl, k7⟩
          have KF := Lib.hid (K6.out.trans k7)
          clear k7
          go_wp2
          go_ret
          exact ⟨rfl, (KF.out.bk (Nat.le_refl _)).b⟩
        ·
          have dp : decide (0 < r) = true := decide_eq_true hp
          have d0 : wr.cell? ⟨w.heap.size + 1, 0, none⟩ = some (.slice A 4 c) := H.out.cl
          go_wp2_with (with_reducible refine wp_stop 71 rfl ?_)
          intro _
          refine wp_pushM Tryd.underlying31 info_ev rfl (by decide) (by decide) evF0_len evF0_one rfl (.tmp 68) (.tmp 70) rfl _ [be 1, be 2, kE 3 1 3, kE 3 2 4] (by rfl) H.out.ow (kE 4 2 1) (by rfl) (by decide) ?_
          intro g cn y o4 k4 hg
          obtain ⟨⟨xx, cx⟩, fx, W, eW', BB⟩ := H.out.push (kE 4 2 1) g cn y o4 k4 hg
          have eW : y.setCell ⟨w.heap.size + 1, 0, none⟩ (.slice (some ⟨g, 0, none⟩) 5 cn) = W := eW'
          have H2 := Lib.hid (show BL w W (w.heap.size + 1) (w.heap.size + 1 + 1) (some ⟨g, 0, none⟩) cn [be 1, be 2, kE 3 1 3, kE 3 2 4, kE 4 2 1] 4 from BB)
          clear o4 k4 hg BB eW' d0 H
          have H := H2
          clear H2
          have d0 : W.cell? ⟨w.heap.size + 1, 0, none⟩ = some (.slice (some ⟨g, 0, none⟩) 5 cn) := H.out.cl
          have OK := Lib.hid (H.out.ok (by decide) (by rfl) (-1) (by decide))
          go_wp2_with fail
          refine OK.out.mono ?_
          rintro e w3 ⟨rfl, H'⟩
          have H2 := Lib.hid H'
          clear H' H OK d0 cx fx eW
          have H := H2
          clear H2
          have d0 : w3.cell? ⟨w.heap.size + 1, 0, none⟩ = some (.slice (some ⟨g, 0, none⟩) 5 cn) := H.out.cl
          have lN : w.heap.size + 1 < w3.heap.size := lt_of_cell (a := ⟨w.heap.size + 1, 0, none⟩) d0
          have nN : w.heap.size + 1 ≠ w3.heap.size := Nat.ne_of_lt lN
          go_wp2_with (with_reducible refine wp_stop 114 rfl ?_)
          intro _
          refine wp_copy rfl (.tmp 112) (.tmp 113) rfl H.out (by rfl : [be 1, be 2, kE 3 1 3, kE 3 2 4, kE 4 2 1].length = 5) (by decide) rfl rfl ?_
          intro A4 c4 w4 o4 b4 k4
          have O4 := Lib.hid o4
          have B4 := Lib.hid b4
          have K4 := Lib.hid k4
          clear o4 b4 k4 d0 H lN nN
          go_wp2_with (with_reducible refine wp_stop 117 rfl ?_)
          intro _
          refine wp_more rfl (.tmp 114) (.tmp 116) rfl O4.out (by rfl) (by rfl : 5 + 1 = 6) (by decide) B4.out K4.out (kE 5 2 0) rfl rfl ?_
          intro g5 c5 w5 o5 k5
          have OQ := Lib.hid (own_ok (es := [be 1, be 2, kE 3 1 3, kE 3 2 4, kE 4 2 1, kE 5 2 0]) o5 (by rfl) (by decide) (5) (by decide))
          have K5 := Lib.hid k5
          clear o5 k5
          go_wp2_with fail
          refine OQ.out.mono ?_
          rintro e w6 ⟨rfl, k6'⟩
          have k6 := K5.out.trans k6'
          clear OQ k6'
          have AW := Lib.hid (awake20_any (hTab.on k6))
          have K6 := Lib.hid k6
          clear k6
          go_wp2_with fail
          refine AW.out.mono ?_
          rintro e w7 ⟨rfl, k7⟩
          have KF := Lib.hid (K6.out.trans k7)
          clear k7
          go_wp2
          go_ret
          exact ⟨rfl, (KF.out.bk (Nat.le_refl _)).b⟩
    ·
      go_wp2_with fail
      refine (prep_any H.out (by decide) (by decide) 2).mono ?_
      rintro e wr ⟨rfl, A, c, H'⟩
      have H2 := Lib.hid (show BL w wr (w.heap.size + 1) (w.heap.size + 1 + 1) A c [be 1, be 2, kE 3 2 3] 3 from H')
      clear H' H
      have H := H2
      clear H2
      go_wp2_with fail
      refine (prep_any H.out (by decide) (by decide) 1).mono ?_
      rintro e wr ⟨rfl, A, c, H'⟩
      have H2 := Lib.hid (show BL w wr (w.heap.size + 1) (w.heap.size + 1 + 1) A c [be 1, be 2, kE 3 2 3, kE 3 1 4] 4 from H')
      clear H' H
      have H := H2
      clear H2
      rcases early with _ | _
      ·
        rcases hs with hr | hr | hr
        ·
          have d0 : wr.cell? ⟨w.heap.size + 1, 0, none⟩ = some (.slice A 4 c) := H.out.cl
          go_wp2_with (with_reducible refine wp_stop 71 rfl ?_)
          intro _
          refine wp_pushM Tryd.underlying31 info_ev rfl (by decide) (by decide) evF0_len evF0_one rfl (.tmp 68) (.tmp 70) rfl _ [be 1, be 2, kE 3 2 3, kE 3 1 4] (by rfl) H.out.ow (kE 4 2 1) (by rfl) (by decide) ?_
          intro g cn y o4 k4 hg
          obtain ⟨⟨xx, cx⟩, fx, W, eW', BB⟩ := H.out.push (kE 4 2 1) g cn y o4 k4 hg
          have eW : y.setCell ⟨w.heap.size + 1, 0, none⟩ (.slice (some ⟨g, 0, none⟩) 5 cn) = W := eW'
          have H2 := Lib.hid (show BL w W (w.heap.size + 1) (w.heap.size + 1 + 1) (some ⟨g, 0, none⟩) cn [be 1, be 2, kE 3 2 3, kE 3 1 4, kE 4 2 1] 4 from BB)
          clear o4 k4 hg BB eW' d0 H
          have H := H2
          clear H2
          have d0 : W.cell? ⟨w.heap.size + 1, 0, none⟩ = some (.slice (some ⟨g, 0, none⟩) 5 cn) := H.out.cl
          have OK := Lib.hid (H.out.ok (by decide) (by rfl) (4) (by decide))
          go_wp2_with fail
          refine OK.out.mono ?_
          rintro e w3 ⟨rfl, H'⟩
          have H2 := Lib.hid H'
          clear H' H OK d0 cx fx eW
          have H := H2
          clear H2
          have AW := Lib.hid (awake20_any (hTab.on H.out.k))
          go_wp2_with fail
          refine AW.out.mono ?_
          rintro e w4 ⟨rfl, k4⟩
          have KF := Lib.hid (H.out.k.trans k4)
          clear k4
          go_wp2
          go_ret
          exact ⟨rfl, (KF.out.bk (Nat.le_refl _)).b⟩
        ·
          have d0 : wr.cell? ⟨w.heap.size + 1, 0, none⟩ = some (.slice A 4 c) := H.out.cl
          go_wp2_with (with_reducible refine wp_stop 59 rfl ?_)
          intro _
          refine wp_pushM Tryd.underlying31 info_ev rfl (by decide) (by decide) evF0_len evF0_one rfl (.tmp 56) (.tmp 58) rfl _ [be 1, be 2, kE 3 2 3, kE 3 1 4] (by rfl) H.out.ow (kE 5 1 0) (by rfl) (by decide) ?_
          intro g cn y o4 k4 hg
          obtain ⟨⟨xx, cx⟩, fx, W, eW', BB⟩ := H.out.push (kE 5 1 0) g cn y o4 k4 hg
          have eW : y.setCell ⟨w.heap.size + 1, 0, none⟩ (.slice (some ⟨g, 0, none⟩) 5 cn) = W := eW'
          have H2 := Lib.hid (show BL w W (w.heap.size + 1) (w.heap.size + 1 + 1) (some ⟨g, 0, none⟩) cn [be 1, be 2, kE 3 2 3, kE 3 1 4, kE 5 1 0] 4 from BB)
          clear o4 k4 hg BB eW' d0 H
          have H := H2
          clear H2
          have d0 : W.cell? ⟨w.heap.size + 1, 0, none⟩ = some (.slice (some ⟨g, 0, none⟩) 5 cn) := H.out.cl
          go_wp2_with (with_reducible refine wp_stop 71 rfl ?_)
          intro _
          clear cx fx eW
          refine wp_pushM Tryd.underlying31 info_ev rfl (by decide) (by decide) evF0_len evF0_one rfl (.tmp 68) (.tmp 70) rfl _ [be 1, be 2, kE 3 2 3, kE 3 1 4, kE 5 1 0] (by rfl) H.out.ow (kE 4 2 1) (by rfl) (by decide) ?_
          intro g2 cn2 y o4 k4 hg
          obtain ⟨⟨xx, cx⟩, fx, W2, eW', BB⟩ := H.out.push (kE 4 2 1) g2 cn2 y o4 k4 hg
          have eW : y.setCell ⟨w.heap.size + 1, 0, none⟩ (.slice (some ⟨g2, 0, none⟩) 6 cn2) = W2 := eW'
          have H2 := Lib.hid (show BL w W2 (w.heap.size + 1) (w.heap.size + 1 + 1) (some ⟨g2, 0, none⟩) cn2 [be 1, be 2, kE 3 2 3, kE 3 1 4, kE 5 1 0, kE 4 2 1] 4 from BB)
          clear o4 k4 hg BB eW' d0 H
          have H := H2
          clear H2
          have d0 : W2.cell? ⟨w.heap.size + 1, 0, none⟩ = some (.slice (some ⟨g2, 0, none⟩) 6 cn2) := H.out.cl
          have OK := Lib.hid (H.out.ok (by decide) (by rfl) (5) (by decide))
          go_wp2_with fail
          refine OK.out.mono ?_
          rintro e w3 ⟨rfl, H'⟩
          have H2 := Lib.hid H'
          clear H' H OK d0 cx fx eW
          have H := H2
          clear H2
          have AW := Lib.hid (awake20_any (hTab.on H.out.k))
          go_wp2_with fail
          refine AW.out.mono ?_
          rintro e w4 ⟨rfl, k4⟩
          have KF := Lib.hid (H.out.k.trans k4)
          clear k4
          go_wp2
          go_ret
          exact ⟨rfl, (KF.out.bk (Nat.le_refl _)).b⟩
        ·
          have d0 : wr.cell? ⟨w.heap.size + 1, 0, none⟩ = some (.slice A 4 c) := H.out.cl
          go_wp2_with (with_reducible refine wp_stop 65 rfl ?_)
          intro _
          refine wp_pushM Tryd.underlying31 info_ev rfl (by decide) (by decide) evF0_len evF0_one rfl (.tmp 62) (.tmp 64) rfl _ [be 1, be 2, kE 3 2 3, kE 3 1 4] (by rfl) H.out.ow (kE 6 1 0) (by rfl) (by decide) ?_
          intro g cn y o4 k4 hg
          obtain ⟨⟨xx, cx⟩, fx, W, eW', BB⟩ := H.out.push (kE 6 1 0) g cn y o4 k4 hg
          have eW : y.setCell ⟨w.heap.size + 1, 0, none⟩ (.slice (some ⟨g, 0, none⟩) 5 cn) = W := eW'
          have H2 := Lib.hid (show BL w W (w.heap.size + 1) (w.heap.size + 1 + 1) (some ⟨g, 0, none⟩) cn [be 1, be 2, kE 3 2 3, kE 3 1 4, kE 6 1 0] 4 from BB)
          clear o4 k4 hg BB eW' d0 H
          have H := H2
          clear H2
          have d0 : W.cell? ⟨w.heap.size + 1, 0, none⟩ = some (.slice (some ⟨g, 0, none⟩) 5 cn) := H.out.cl
          go_wp2_with (with_reducible refine wp_stop 71 rfl ?_)
          intro _
          clear cx fx eW
          refine wp_pushM Tryd.underlying31 info_ev rfl (by decide) (by decide) evF0_len evF0_one rfl (.tmp 68) (.tmp 70) rfl _ [be 1, be 2, kE 3 2 3, kE 3 1 4, kE 6 1 0] (by rfl) H.out.ow (kE 4 2 1) (by rfl) (by decide) ?_
          intro g2 cn2 y o4 k4 hg
          obtain ⟨⟨xx, cx⟩, fx, W2, eW', BB⟩ := H.out.push (kE 4 2 1) g2 cn2 y o4 k4 hg
          have eW : y.setCell ⟨w.heap.size + 1, 0, none⟩ (.slice (some ⟨g2, 0, none⟩) 6 cn2) = W2 := eW'
          have H2 := Lib.hid (show BL w W2 (w.heap.size + 1) (w.heap.size + 1 + 1) (some ⟨g2, 0, none⟩) cn2 [be 1, be 2, kE 3 2 3, kE 3 1 4, kE 6 1 0, kE 4 2 1] 4 from BB)
          clear o4 k4 hg BB eW' d0 H
          have H := H2
          clear H2
          have d0 : W2.cell? ⟨w.heap.size + 1, 0, none⟩ = some (.slice (some ⟨g2, 0, none⟩) 6 cn2) := H.out.cl
          have OK := Lib.hid (H.out.ok (by decide) (by rfl) (5) (by decide))
          go_wp2_with fail
          refine OK.out.mono ?_
          rintro e w3 ⟨rfl, H'⟩
          have H2 := Lib.hid H'
          clear H' H OK d0 cx fx eW
          have H := H2
          clear H2
          have AW := Lib.hid (awake20_any (hTab.on H.out.k))
          go_wp2_with fail
          refine AW.out.mono ?_
          rintro e w4 ⟨rfl, k4⟩
          have KF := Lib.hid (H.out.k.trans k4)
          clear k4
          go_wp2
          go_ret
          exact ⟨rfl, (KF.out.bk (Nat.le_refl _)).b⟩
      ·
        obtain ⟨r, hr⟩ : ∃ r, (bits .and .i64 st 255).tmod 3 = r := ⟨_, rfl⟩
        rw [hr] at hs
        rcases (by omega : r = 0 ∨ 0 < r) with rfl | hp
        ·
          have d0 : wr.cell? ⟨w.heap.size + 1, 0, none⟩ = some (.slice A 4 c) := H.out.cl
          go_wp2_with (with_reducible refine wp_stop 71 rfl ?_)
          intro _
          refine wp_pushM Tryd.underlying31 info_ev rfl (by decide) (by decide) evF0_len evF0_one rfl (.tmp 68) (.tmp 70) rfl _ [be 1, be 2, kE 3 2 3, kE 3 1 4] (by rfl) H.out.ow (kE 4 2 1) (by rfl) (by decide) ?_
          intro g cn y o4 k4 hg
          obtain ⟨⟨xx, cx⟩, fx, W, eW', BB⟩ := H.out.push (kE 4 2 1) g cn y o4 k4 hg
          have eW : y.setCell ⟨w.heap.size + 1, 0, none⟩ (.slice (some ⟨g, 0, none⟩) 5 cn) = W := eW'
          have H2 := Lib.hid (show BL w W (w.heap.size + 1) (w.heap.size + 1 + 1) (some ⟨g, 0, none⟩) cn [be 1, be 2, kE 3 2 3, kE 3 1 4, kE 4 2 1] 4 from BB)
          clear o4 k4 hg BB eW' d0 H
          have H := H2
          clear H2
          have d0 : W.cell? ⟨w.heap.size + 1, 0, none⟩ = some (.slice (some ⟨g, 0, none⟩) 5 cn) := H.out.cl
          have OK := Lib.hid (H.out.ok (by decide) (by rfl) (4) (by decide))
          go_wp2_with fail
          refine OK.out.mono ?_
          rintro e w3 ⟨rfl, H'⟩
          have H2 := Lib.hid H'
          clear H' H OK d0 cx fx eW
          have H := H2
          clear H2
          have AW := Lib.hid (awake20_any (hTab.on H.out.k))
          go_wp2_with fail
          refine AW.out.mono ?_
          rintro e w4 ⟨rfl, k4⟩
          have KF := Lib.hid (H.out.k.trans k4)
          clear k4
          go_wp2
          go_ret
          exact ⟨rfl, (KF.out.bk (Nat.le_refl _)).b⟩
        ·
          have dp : decide (0 < r) = true := decide_eq_true hp
          have d0 : wr.cell? ⟨w.heap.size + 1, 0, none⟩ = some (.slice A 4 c) := H.out.cl
          go_wp2_with (with_reducible refine wp_stop 71 rfl ?_)
          intro _
          refine wp_pushM Tryd.underlying31 info_ev rfl (by decide) (by decide) evF0_len evF0_one rfl (.tmp 68) (.tmp 70) rfl _ [be 1, be 2, kE 3 2 3, kE 3 1 4] (by rfl) H.out.ow (kE 4 2 1) (by rfl) (by decide) ?_
          intro g cn y o4 k4 hg
          obtain ⟨⟨xx, cx⟩, fx, W, eW', BB⟩ := H.out.push (kE 4 2 1) g cn y o4 k4 hg
          have eW : y.setCell ⟨w.heap.size + 1, 0, none⟩ (.slice (some ⟨g, 0, none⟩) 5 cn) = W := eW'
          have H2 := Lib.hid (show BL w W (w.heap.size + 1) (w.heap.size + 1 + 1) (some ⟨g, 0, none⟩) cn [be 1, be 2, kE 3 2 3, kE 3 1 4, kE 4 2 1] 4 from BB)
          clear o4 k4 hg BB eW' d0 H
          have H := H2
          clear H2
          have d0 : W.cell? ⟨w.heap.size + 1, 0, none⟩ = some (.slice (some ⟨g, 0, none⟩) 5 cn) := H.out.cl
          have OK := Lib.hid (H.out.ok (by decide) (by rfl) (4) (by decide))
          go_wp2_with fail
          refine OK.out.mono ?_
          rintro e w3 ⟨rfl, H'⟩
          have H2 := Lib.hid H'
          clear H' H OK d0 cx fx eW
          have H := H2
          clear H2
          have AW := Lib.hid (awake20_any (hTab.on H.out.k))
          go_wp2_with fail
          refine AW.out.mono ?_
          rintro e w4 ⟨rfl, k4⟩
          have KF := Lib.hid (H.out.k.trans k4)
          clear k4
          go_wp2
          go_ret
          exact ⟨rfl, (KF.out.bk (Nat.le_refl _)).b⟩
end Go.Proofs.YtalkfnblnlcklaaDoor
