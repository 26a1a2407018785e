/- Proved here: vinculumlaw19.ModelBounds returns true and leaves its arguments as they were, for any Conf, any two ints and any Op; no further condition. -/
import Derived.Test.YtkkjofefjepodaaLawModelPlaysZab
import Derived.Test.YtkkjofefjepodaaLawModelPlaysZbb
import Derived.ChangeOld
import Derived.Lib.SmallJoins
import Derived.Deep.LoopGhost
import Derived.Deep.CutRange
import Derived.Deep.CutBlock
import Derived.Deep.RegionHeld3
namespace Go.Proofs.Ytkkjofefjepodaa.modelBounds
open Go.ChangeShapes Go.WideShapes Go.ChangeAt Go.RowKit Go.Joins
set_option linter.unusedVariables false
set_option linter.unusedSimpArgs false
theorem st_eql (l : Bool) (a b c d f : Int) (w : World) : (binOp .eql 56 (.agg #[.bool l, .bool false, .bool false, .int .i64 a, .int .i64 b, .int .i64 c, .int .u64 d, .int .u64 0, .int .i64 f]) (.agg #[.bool l, .bool false, .bool false, .int .i64 a, .int .i64 b, .int .i64 c, .int .u64 d, .int .u64 0, .int .i64 f])).run Try.prog w = .ok (.bool true) w := by
 simp [go_sem]
set_option maxRecDepth 100000 in
set_option maxHeartbeats 16000000 in
theorem walk (c0 c1 s lv ok oy oh ov : Int) (w : World) (w00 : (Lit.int .i64 c0).wf = true) (w01 : (Lit.int .u64 c1).wf = true) (w1 : (Lit.int .i64 s).wf = true) (w2 : (Lit.int .i64 lv).wf = true) (w30 : (Lit.int .i64 ok).wf = true) (w31 : (Lit.int .i64 oy).wf = true) (w32 : (Lit.int .i64 oh).wf = true) (w33 : (Lit.int .i64 ov).wf = true) :
    Calls Try.prog 17 #[.agg #[.int .i64 c0, .int .u64 c1], .int .i64 s, .int .i64 lv, .agg #[.int .i64 ok, .int .i64 oy, .int .i64 oh, .int .i64 ov]] w fun e w' => e = .returned (.bool true) ∧ Below w.heap.size w w' := by
  have bc0 := bounds_i64 w00
  have bc1 := bounds_u64 w01
  have b1 := bounds_i64 w1
  have b2 := bounds_i64 w2
  have b3 := bounds_i64 w30
  have b4 := bounds_i64 w31
  have b5 := bounds_i64 w32
  have b6 := bounds_i64 w33
  obtain ⟨W, eW⟩ : ∃ W, (w.alloc (.cells #[.int .i64 c0, .int .u64 c1] 48)).alloc (.cells #[.int .i64 ok, .int .i64 oy, .int .i64 oh, .int .i64 ov] 25) = W := ⟨_, rfl⟩
  have kW : Keep (fun _ => False) w W := by rw [← eW]; exact ((Keep.refl _ _).alloc _).alloc _
  have zW : W.heap.size = w.heap.size + 1 + 1 := by rw [← eW, World.size_alloc, World.size_alloc]
  have g : W.cell? ⟨w.heap.size, 0, none⟩ = some (.int .i64 c0) ∧ W.cell? ⟨w.heap.size, 1, none⟩ = some (.int .u64 c1) ∧ W.cell? ⟨w.heap.size + 1, 0, none⟩ = some (.int .i64 ok) ∧ W.cell? ⟨w.heap.size + 1, 1, none⟩ = some (.int .i64 oy) ∧ W.cell? ⟨w.heap.size + 1, 2, none⟩ = some (.int .i64 oh) ∧ W.cell? ⟨w.heap.size + 1, 3, none⟩ = some (.int .i64 ov) := by
    obtain ⟨U, eU⟩ : ∃ U, w.alloc (.cells #[.int .i64 c0, .int .u64 c1] 48) = U := ⟨_, rfl⟩
    have u0 : U.cell? ⟨w.heap.size, 0, none⟩ = some (.int .i64 c0) := by rw [← eU]; simp
    have u1 : U.cell? ⟨w.heap.size, 1, none⟩ = some (.int .u64 c1) := by rw [← eU]; simp
    have uz : U.heap.size = w.heap.size + 1 := by rw [← eU, World.size_alloc]
    rw [eU] at eW
    have kU : Keep (fun _ => False) U W := by rw [← eW]; exact (Keep.refl _ _).alloc _
    refine ⟨kU.cell u0 id, kU.cell u1 id, ?_, ?_, ?_, ?_⟩ <;> (rw [← eW, ← uz]; simp)
  obtain ⟨g0, g1, g2, g3, g4, g5⟩ := g
  clear w00 w01 w1 w2 w30 w31 w32 w33
  cases hcf : confI c0 c1 with
  | false =>
    have MN := md_none W c0 c1 bc0 bc1 hcf
    have HC := Lib.hid hcf
    clear hcf g2 g3 g4 g5
    unfold cfV at MN
    go_enter Try.func17, Try.ntmps17
    go_wp2_with fail
    refine MN.mono ?_
    rintro e y1 ⟨rfl, b⟩
    have h0 := (b.cell (p := ⟨w.heap.size, 0, none⟩) (show w.heap.size < W.heap.size by omega)).trans g0
    have h1 := (b.cell (p := ⟨w.heap.size, 1, none⟩) (show w.heap.size < W.heap.size by omega)).trans g1
    clear MN g0 g1 eW
    have RN := rm_none y1 c0 c1 HC.out
    unfold cfV at RN
    go_wp2_with fail
    refine RN.mono ?_
    rintro e y2 ⟨rfl, k2⟩
    have kA : Below W.heap.size W y2 := b.trans (k2.below b.size (fun _ e => e.elim))
    clear RN h0 h1 b k2
    go_wp2_with fail
    refine (awake19_any _).mono ?_
    rintro e y3 ⟨rfl, b3⟩
    go_wp2
    go_ret
    exact ⟨rfl, below_of kW (kA.trans (b3.mono kA.size))⟩
  | true =>
    have MN := md_new W c0 c1 bc0 bc1 hcf
    have HC := Lib.hid hcf
    clear hcf
    unfold cfV at MN
    go_enter Try.func17, Try.ntmps17
    go_wp2_with fail
    refine MN.mono ?_
    rintro e y1 ⟨m, S2, rfl, M2⟩
    have h0 := (M2.b.cell (p := ⟨w.heap.size, 0, none⟩) (show w.heap.size < W.heap.size by omega)).trans g0
    have h1 := (M2.b.cell (p := ⟨w.heap.size, 1, none⟩) (show w.heap.size < W.heap.size by omega)).trans g1
    clear MN g0 g1 eW
    have RN := rm_new y1 c0 c1 HC.out
    unfold cfV at RN
    go_wp2_with fail
    refine RN.mono ?_
    rintro e y2 ⟨r, T3, rfl, R3⟩
    have D := Duo.made M2 R3
    clear M2 R3 RN h0 h1
    obtain ⟨x, ex⟩ : ∃ x, new0 c0 c1 = x := ⟨_, rfl⟩
    rw [ex] at D
    clear ex
    obtain ⟨n, hn⟩ : ∃ n, x.begN s lv = n := ⟨_, rfl⟩
    obtain ⟨e0, he⟩ : ∃ n, x.begE s lv = n := ⟨_, rfl⟩
    obtain ⟨x1, hx⟩ : ∃ n, x.beg s lv = n := ⟨_, rfl⟩
    have MB := md_begin D.md s lv b1 b2 n e0 x1 hn he hx
    have HN := Lib.hid hn
    have HE := Lib.hid he
    have HX := Lib.hid hx
    clear hn he hx
    go_wp2_with fail
    refine MB.mono ?_
    rintro e v1 ⟨rfl, S1, M1, k1⟩
    have D1 := D.stepM M1 k1
    clear D M1 k1 MB
    go_wp2_with fail
    refine (rm_begin D1.rm s lv n e0 x1 HN.out HE.out HX.out).mono ?_
    rintro e v2 ⟨rfl, T1, M2, k2⟩
    have D2 := D1.stepR M2 k2
    clear D1 M2 k2
    obtain ⟨rs, hr⟩ : ∃ n, x1.doR s ⟨ok, oy, oh, ov⟩ = n := ⟨_, rfl⟩
    obtain ⟨e1, hf⟩ : ∃ n, x1.doE s ⟨ok, oy, oh, ov⟩ = n := ⟨_, rfl⟩
    obtain ⟨y, hy⟩ : ∃ n, x1.doM s ⟨ok, oy, oh, ov⟩ = n := ⟨_, rfl⟩
    have MD := md_do D2.md s ⟨ok, oy, oh, ov⟩ b1 ⟨b3, b4, b5, b6⟩ rs e1 y hr hf hy
    have rl : rs.pairs.length ≤ 100000 := by rw [← hr]; exact Nat.le_trans (doR_len _ _ _) (by decide)
    have HR := Lib.hid hr
    have HF := Lib.hid hf
    have HY := Lib.hid hy
    clear hr hf hy
    have i0 := (D2.md.b.cell (p := ⟨w.heap.size + 1, 0, none⟩) (show w.heap.size + 1 < W.heap.size by omega)).trans g2
    have i1 := (D2.md.b.cell (p := ⟨w.heap.size + 1, 1, none⟩) (show w.heap.size + 1 < W.heap.size by omega)).trans g3
    have i2 := (D2.md.b.cell (p := ⟨w.heap.size + 1, 2, none⟩) (show w.heap.size + 1 < W.heap.size by omega)).trans g4
    have i3 := (D2.md.b.cell (p := ⟨w.heap.size + 1, 3, none⟩) (show w.heap.size + 1 < W.heap.size by omega)).trans g5
    have tl := Lib.hid D2.rm.lt
    unfold reV opV at MD
    go_wp2_with fail
    refine MD.mono ?_
    rintro e v3 ⟨u1, S3, rfl, o1, n1, M3, k3⟩
    clear MD i0 i1 i2 i3
    obtain ⟨A1, q1', cc1, rfl⟩ := ownPr_shape o1
    have D3 := D2.stepM M3 k3
    clear D2 M3 k3
    have kb : Keep (fun _ => False) v3 (v3.alloc (.cells #[.int .i64 rs.e, .int .i64 rs.val, .slice A1 q1' cc1, .int .i64 rs.over, .int .i64 rs.reason] 30)) := (Keep.refl _ _).alloc _
    have D3b := D3.quiet kb
    have i0 := (D3.md.b.cell (p := ⟨w.heap.size + 1, 0, none⟩) (show w.heap.size + 1 < W.heap.size by omega)).trans g2
    have i1 := (D3.md.b.cell (p := ⟨w.heap.size + 1, 1, none⟩) (show w.heap.size + 1 < W.heap.size by omega)).trans g3
    have i2 := (D3.md.b.cell (p := ⟨w.heap.size + 1, 2, none⟩) (show w.heap.size + 1 < W.heap.size by omega)).trans g4
    have i3 := (D3.md.b.cell (p := ⟨w.heap.size + 1, 3, none⟩) (show w.heap.size + 1 < W.heap.size by omega)).trans g5
    have iz : w.heap.size + 1 < v3.heap.size := by have := D3.md.b.size; omega
    have RB := rm_do D3b.rm s ⟨ok, oy, oh, ov⟩ rs e1 y HR.out HF.out HY.out
    unfold reV opV at RB
    go_wp2_with fail
    refine RB.mono ?_
    rintro e v4 ⟨u2, T4, rfl, o2, n2', M4, k4⟩
    obtain ⟨A2, q2', cc2, rfl⟩ := ownPr_shape o2
    have D4 := D3b.stepR M4 k4
    have bx := res5 (v := rs) D3.rm.lt k4.1
    have o1b := (o1.keep kb (fun _ _ => id)).keep k4.1 (fun g hg ht => by have := (n1 g hg).1; have := tl.out g ht; omega)
    have zz : v3.heap.size < v4.heap.size := by have := k4.1.size; rw [World.size_alloc] at this; omega
    have l3 := D3.md.lt
    have kc : Keep (fun _ => False) v4 (v4.alloc (.cells #[.int .i64 rs.e, .int .i64 rs.val, .slice A2 q2' cc2, .int .i64 rs.over, .int .i64 rs.reason] 30)) := (Keep.refl _ _).alloc _
    have SR := fun w9 k9 => same_res (w := w9) ((o1b.keep kc (fun _ _ => id)).keep (k9 : Keep (fun _ => False) _ w9) (fun _ _ => id)) ((o2.keep kc (fun _ _ => id)).keep k9 (fun _ _ => id)) rl
    unfold reV at SR
    have D5 := D4.quiet kc
    have cT := D5.rm.time
    obtain ⟨tm, eT⟩ : ∃ t, y.time = t := ⟨_, rfl⟩
    rw [eT] at cT
    have ET := Lib.hid eT
    obtain ⟨l, ids, lvs, st, sr, ops, hst⟩ := stat_form y s
    have HST := Lib.hid hst
    have SQ := st_eql
    clear eT hst
    obtain ⟨xa, xb, xs, xc, xd⟩ := bx
    obtain ⟨V, eV⟩ : ∃ V, v4.alloc (.cells #[.int .i64 rs.e, .int .i64 rs.val, .slice A2 q2' cc2, .int .i64 rs.over, .int .i64 rs.reason] 30) = V := ⟨_, rfl⟩
    have ya : V.cell? ⟨v4.heap.size, 0, none⟩ = some (.int .i64 rs.e) := by rw [← eV]; simp
    have yb : V.cell? ⟨v4.heap.size, 1, none⟩ = some (.int .i64 rs.val) := by rw [← eV]; simp
    have ys : V.cell? ⟨v4.heap.size, 2, none⟩ = some (.slice A2 q2' cc2) := by rw [← eV]; simp
    have yc : V.cell? ⟨v4.heap.size, 3, none⟩ = some (.int .i64 rs.over) := by rw [← eV]; simp
    have yd : V.cell? ⟨v4.heap.size, 4, none⟩ = some (.int .i64 rs.reason) := by rw [← eV]; simp
    have xa := kc.cell xa id
    have xb := kc.cell xb id
    have xs := kc.cell xs id
    have xc := kc.cell xc id
    have xd := kc.cell xd id
    have zV : v4.heap.size < V.heap.size := by rw [← eV, World.size_alloc]; omega
    have SRH := Lib.hid SR
    clear SR
    rw [eV] at D5 cT xa xb xs xc xd SRH
    clear D3 D3b D4 M4 k4 o1 o2 o1b n1 n2' i0 i1 i2 i3 RB tl
    go_upto_region 11 with fail
    clear eV kb kc
    have Dd := D5.quiet (Keep.refl (fun _ => False) V).drew
    obtain ⟨N1, eN1⟩ : ∃ N, v3.heap.size = N := ⟨_, rfl⟩
    obtain ⟨N2, eN2⟩ : ∃ N, v4.heap.size = N := ⟨_, rfl⟩
    rw [eN1] at xa xb xs xc xd zz l3 ⊢
    rw [eN2] at ya yb ys yc yd zz zV ⊢
    clear eN1 eN2 D5
    refine wp_region_held_drew (S := (fun w' => w'.cell? ⟨r, 51, none⟩ = some (.int .u64 tm) ∧ (w'.cell? ⟨N1, 0, none⟩ = some (.int .i64 rs.e) ∧ w'.cell? ⟨N1, 1, none⟩ = some (.int .i64 rs.val) ∧ w'.cell? ⟨N1, 2, none⟩ = some (.slice A1 q1' cc1) ∧ w'.cell? ⟨N1, 3, none⟩ = some (.int .i64 rs.over) ∧ w'.cell? ⟨N1, 4, none⟩ = some (.int .i64 rs.reason)) ∧ (w'.cell? ⟨N2, 0, none⟩ = some (.int .i64 rs.e) ∧ w'.cell? ⟨N2, 1, none⟩ = some (.int .i64 rs.val) ∧ w'.cell? ⟨N2, 2, none⟩ = some (.slice A2 q2' cc2) ∧ w'.cell? ⟨N2, 3, none⟩ = some (.int .i64 rs.over) ∧ w'.cell? ⟨N2, 4, none⟩ = some (.int .i64 rs.reason)))) (by kernel_rfl) ⟨cT, ⟨xa, xb, xs, xc, xd⟩, ⟨ya, yb, ys, yc, yd⟩⟩ (fun hHeld => ?_)
    refine wpAnyH_take (i := 0) (v := ?qvu1286) rfl (by kernel_rfl) (by kernel_rfl) (by kernel_rfl) (fun _ _ _ h => h) (Or.inl ⟨by rfl, ?qyu1286⟩) (by assumption) ?qru1286; case qyu1286 => ((intro w hSw; (try dsimp only at hSw); go_simp); try (with_reducible rfl))
    (try simp only [tA, tS, tZ, Act.put, uA, uS, uZ])
    refine wpAnyH_take (i := 1) (v := ?qvu1287) rfl (by kernel_rfl) (by kernel_rfl) (by kernel_rfl) (fun _ _ _ h => h) (Or.inl ⟨by rfl, ?qyu1287⟩) (by assumption) ?qru1287; case qyu1287 => ((intro w hSw; (try dsimp only at hSw); go_simp); try (with_reducible rfl))
    (try simp only [tA, tS, tZ, Act.put, uA, uS, uZ])
    refine wpAnyH_take (i := 2) (v := ?qvu1288) rfl (by kernel_rfl) (by kernel_rfl) (by kernel_rfl) (fun _ _ _ h => h) (Or.inl ⟨by rfl, ?qyu1288⟩) (by assumption) ?qru1288; case qyu1288 => ((intro w hSw; (try dsimp only at hSw); go_simp); try (with_reducible rfl))
    (try simp only [tA, tS, tZ, Act.put, uA, uS, uZ])
    refine wpAnyH_take (i := 3) (v := ?qvu1289) rfl (by kernel_rfl) (by kernel_rfl) (by kernel_rfl) (fun _ _ _ h => h) (Or.inl ⟨by rfl, ?qyu1289⟩) (by assumption) ?qru1289; case qyu1289 => ((intro w hSw; (try dsimp only at hSw); go_simp); try (with_reducible rfl))
    (try simp only [tA, tS, tZ, Act.put, uA, uS, uZ])
    refine wpAnyH_take (i := 4) (v := ?qvu1290) rfl (by kernel_rfl) (by kernel_rfl) (by kernel_rfl) (fun _ _ _ h => h) (Or.inl ⟨by rfl, ?qyu1290⟩) (by assumption) ?qru1290; case qyu1290 => ((intro w hSw; (try dsimp only at hSw); go_simp); try (with_reducible rfl))
    (try simp only [tA, tS, tZ, Act.put, uA, uS, uZ])
    refine wpAnyH_take (i := 5) (v := ?qvu1291) rfl (by kernel_rfl) (by kernel_rfl) (by kernel_rfl) (fun _ _ _ h => h) (Or.inl ⟨by rfl, ?qyu1291⟩) (by assumption) ?qru1291; case qyu1291 => ((intro w hSw; (try dsimp only at hSw); go_simp); try (with_reducible rfl))
    (try simp only [tA, tS, tZ, Act.put, uA, uS, uZ])
    refine wpAnyH_take (i := 6) (v := ?qvu1292) rfl (by kernel_rfl) (by kernel_rfl) (by kernel_rfl) (fun _ _ _ h => h) (Or.inl ⟨by rfl, ?qyu1292⟩) (by assumption) ?qru1292; case qyu1292 => ((intro w hSw; (try dsimp only at hSw); go_simp); try (with_reducible rfl))
    (try simp only [tA, tS, tZ, Act.put, uA, uS, uZ])
    refine wpAnyH_take (i := 7) (v := ?qvu1293) rfl (by kernel_rfl) (by kernel_rfl) (by kernel_rfl) (fun _ _ _ h => h) (Or.inl ⟨by rfl, ?qyu1293⟩) (by assumption) ?qru1293; case qyu1293 => ((intro w hSw; (try dsimp only at hSw); go_simp); try (with_reducible rfl))
    (try simp only [tA, tS, tZ, Act.put, uA, uS, uZ])
    refine wpAnyH_take (i := 8) (v := ?qvu1294) rfl (by kernel_rfl) (by kernel_rfl) (by kernel_rfl) (fun _ _ _ h => h) (Or.inl ⟨by rfl, ?qyu1294⟩) (by assumption) ?qru1294; case qyu1294 => ((intro w hSw; (try dsimp only at hSw); go_simp); try (with_reducible rfl))
    (try simp only [tA, tS, tZ, Act.put, uA, uS, uZ])
    refine wpAnyH_take (i := 9) (v := ?qvu1295) rfl (by kernel_rfl) (by kernel_rfl) (by kernel_rfl) (fun _ _ _ h => h) (Or.inl ⟨by rfl, ?qyu1295⟩) (by assumption) ?qru1295; case qyu1295 => ((intro w hSw; (try dsimp only at hSw); go_simp); try (with_reducible rfl))
    (try simp only [tA, tS, tZ, Act.put, uA, uS, uZ])
    refine wpAnyH_take (i := 10) (v := ?qvu1296) rfl (by kernel_rfl) (by kernel_rfl) (by kernel_rfl) (fun _ _ _ h => h) (Or.inl ⟨by rfl, ?qyu1296⟩) (by assumption) ?qru1296; case qyu1296 => ((intro w hSw; (try dsimp only at hSw); go_simp); try (with_reducible rfl))
    (try simp only [tA, tS, tZ, Act.put, uA, uS, uZ])
    refine wpAnyH_ready (rs := [11]) (by kernel_rfl) (by simp) ?_
    refine AllReadyH.cons rfl (fun K hK => ?_) AllReadyH.nil
    go_simp
    refine (SRH.out _ (Keep.refl (fun _ => False) V).drew).mono ?_
    rintro e z1 ⟨rfl, ka⟩
    have D6 := Dd.quiet ka
    have zA : V.heap.size ≤ z1.heap.size := ka.size
    refine hK.out _ _ ⟨ka.cell hHeld.1 id, ⟨ka.cell hHeld.2.1.1 id, ka.cell hHeld.2.1.2.1 id, ka.cell hHeld.2.1.2.2.1 id, ka.cell hHeld.2.1.2.2.2.1 id, ka.cell hHeld.2.1.2.2.2.2 id⟩, ⟨ka.cell hHeld.2.2.1 id, ka.cell hHeld.2.2.2.1 id, ka.cell hHeld.2.2.2.2.1 id, ka.cell hHeld.2.2.2.2.2.1 id, ka.cell hHeld.2.2.2.2.2.2 id⟩⟩ (fun hHeld => ?_)
    clear hK K
    (try simp only [tA, tS, tZ, Act.put, uA, uS, uZ])
    refine wpAnyH_take (i := 12) (v := ?qvu1297) rfl (by kernel_rfl) (by kernel_rfl) (by kernel_rfl) (fun _ _ _ h => h) (Or.inl ⟨by rfl, ?qyu1297⟩) (by assumption) ?qru1297; case qyu1297 => ((intro w hSw; (try dsimp only at hSw); go_simp); try (with_reducible rfl))
    (try simp only [tA, tS, tZ, Act.put, uA, uS, uZ])
    refine wpAnyH_take (i := 13) (v := ?qvu1298) rfl (by kernel_rfl) (by kernel_rfl) (by kernel_rfl) (fun _ _ _ h => h) (Or.inl ⟨by rfl, ?qyu1298⟩) (by assumption) ?qru1298; case qyu1298 => ((intro w hSw; (try dsimp only at hSw); go_simp); try (with_reducible rfl))
    (try simp only [tA, tS, tZ, Act.put, uA, uS, uZ])
    refine wpAnyH_take (i := 14) (v := ?qvu1299) rfl (by kernel_rfl) (by kernel_rfl) (by kernel_rfl) (fun _ _ _ h => h) (Or.inl ⟨by rfl, ?qyu1299⟩) (by assumption) ?qru1299; case qyu1299 => ((intro w hSw; (try dsimp only at hSw); go_simp); try (with_reducible rfl))
    (try simp only [tA, tS, tZ, Act.put, uA, uS, uZ])
    refine wpAnyH_take (i := 15) (v := ?qvu1300) rfl (by kernel_rfl) (by kernel_rfl) (by kernel_rfl) (fun _ _ _ h => h) (Or.inl ⟨by rfl, ?qyu1300⟩) (by assumption) ?qru1300; case qyu1300 => ((intro w hSw; (try dsimp only at hSw); go_simp); try (with_reducible rfl))
    (try simp only [tA, tS, tZ, Act.put, uA, uS, uZ])
    refine wpAnyH_take (i := 16) (v := ?qvu1301) rfl (by kernel_rfl) (by kernel_rfl) (by kernel_rfl) (fun _ _ _ h => h) (Or.inl ⟨by rfl, ?qyu1301⟩) (by assumption) ?qru1301; case qyu1301 => ((intro w hSw; (try dsimp only at hSw); go_simp); try (with_reducible rfl))
    (try simp only [tA, tS, tZ, Act.put, uA, uS, uZ])
    refine wpAnyH_take (i := 17) (v := ?qvu1302) rfl (by kernel_rfl) (by kernel_rfl) (by kernel_rfl) (fun _ _ _ h => h) (Or.inl ⟨by rfl, ?qyu1302⟩) (by assumption) ?qru1302; case qyu1302 => ((intro w hSw; (try dsimp only at hSw); go_simp); try (with_reducible rfl))
    (try simp only [tA, tS, tZ, Act.put, uA, uS, uZ])
    refine wpAnyH_take (i := 18) (v := ?qvu1303) rfl (by kernel_rfl) (by kernel_rfl) (by kernel_rfl) (fun _ _ _ h => h) (Or.inl ⟨by rfl, ?qyu1303⟩) (by assumption) ?qru1303; case qyu1303 => ((intro w hSw; (try dsimp only at hSw); go_simp); try (with_reducible rfl))
    (try simp only [tA, tS, tZ, Act.put, uA, uS, uZ])
    refine wpAnyH_take (i := 19) (v := ?qvu1304) rfl (by kernel_rfl) (by kernel_rfl) (by kernel_rfl) (fun _ _ _ h => h) (Or.inl ⟨by rfl, ?qyu1304⟩) (by assumption) ?qru1304; case qyu1304 => ((intro w hSw; (try dsimp only at hSw); go_simp); try (with_reducible rfl))
    (try simp only [tA, tS, tZ, Act.put, uA, uS, uZ])
    refine wpAnyH_take (i := 21) (v := ?qvu1305) rfl (by kernel_rfl) (by kernel_rfl) (by kernel_rfl) (fun _ _ _ h => h) (Or.inl ⟨by rfl, ?qyu1305⟩) (by assumption) ?qru1305; case qyu1305 => ((intro w hSw; (try dsimp only at hSw); go_simp); try (with_reducible rfl))
    (try simp only [tA, tS, tZ, Act.put, uA, uS, uZ])
    refine wpAnyH_take (i := 22) (v := ?qvu1306) rfl (by kernel_rfl) (by kernel_rfl) (by kernel_rfl) (fun _ _ _ h => h) (Or.inl ⟨by rfl, ?qyu1306⟩) (by assumption) ?qru1306; case qyu1306 => ((intro w hSw; (try dsimp only at hSw); go_simp); try (with_reducible rfl))
    (try simp only [tA, tS, tZ, Act.put, uA, uS, uZ])
    refine wpAnyH_take (i := 23) (v := ?qvu1307) rfl (by kernel_rfl) (by kernel_rfl) (by kernel_rfl) (fun _ _ _ h => h) (Or.inl ⟨by rfl, ?qyu1307⟩) (by assumption) ?qru1307; case qyu1307 => ((intro w hSw; (try dsimp only at hSw); go_simp); try (with_reducible rfl))
    (try simp only [tA, tS, tZ, Act.put, uA, uS, uZ])
    refine wpAnyH_take (i := 24) (v := ?qvu1308) rfl (by kernel_rfl) (by kernel_rfl) (by kernel_rfl) (fun _ _ _ h => h) (Or.inl ⟨by rfl, ?qyu1308⟩) (by assumption) ?qru1308; case qyu1308 => ((intro w hSw; (try dsimp only at hSw); go_simp); try (with_reducible rfl))
    (try simp only [tA, tS, tZ, Act.put, uA, uS, uZ])
    refine wpAnyH_ready (rs := [20]) (by kernel_rfl) (by simp) ?_
    refine AllReadyH.cons rfl (fun K hK => ?_) AllReadyH.nil
    go_simp
    refine (md_now D6.md tm ET.out).mono ?_
    rintro e z2 ⟨rfl, Sb, Mb, kb⟩
    have D7 := D6.stepM Mb kb
    have nA : ¬ S3 N1 := fun e => absurd (l3 _ e) (Nat.lt_irrefl _)
    have nB : ¬ S3 N2 := fun e => by have := l3 _ e; omega
    have nC : ¬ Sb N1 := fun e => by rcases kb.2 _ e with c | c; exact nA c; omega
    have nD : ¬ Sb N2 := fun e => by rcases kb.2 _ e with c | c; exact nB c; omega
    refine hK.out _ _ ⟨kb.1.cell hHeld.1 D6.nr, ⟨kb.1.cell hHeld.2.1.1 nA, kb.1.cell hHeld.2.1.2.1 nA, kb.1.cell hHeld.2.1.2.2.1 nA, kb.1.cell hHeld.2.1.2.2.2.1 nA, kb.1.cell hHeld.2.1.2.2.2.2 nA⟩, ⟨kb.1.cell hHeld.2.2.1 nB, kb.1.cell hHeld.2.2.2.1 nB, kb.1.cell hHeld.2.2.2.2.1 nB, kb.1.cell hHeld.2.2.2.2.2.1 nB, kb.1.cell hHeld.2.2.2.2.2.2 nB⟩⟩ (fun hHeld => ?_)
    clear hK K
    (try simp only [tA, tS, tZ, Act.put, uA, uS, uZ])
    refine wpAnyH_take (i := 25) (v := ?qvu1309) rfl (by kernel_rfl) (by kernel_rfl) (by kernel_rfl) (fun _ _ _ h => h) (Or.inl ⟨by rfl, ?qyu1309⟩) (by assumption) ?qru1309; case qyu1309 => ((intro w hSw; (try dsimp only at hSw); go_simp); try (with_reducible rfl))
    (try simp only [tA, tS, tZ, Act.put, uA, uS, uZ])
    refine wpAnyH_take (i := 26) (v := ?qvu1310) rfl (by kernel_rfl) (by kernel_rfl) (by kernel_rfl) (fun _ _ _ h => h) (Or.inl ⟨by rfl, ?qyu1310⟩) (by assumption) ?qru1310; case qyu1310 => ((intro w hSw; (try dsimp only at hSw); go_simp); try (with_reducible rfl))
    (try simp only [tA, tS, tZ, Act.put, uA, uS, uZ])
    refine wpAnyH_take (i := 27) (v := ?qvu1311) rfl (by kernel_rfl) (by kernel_rfl) (by kernel_rfl) (fun _ _ _ h => h) (Or.inl ⟨by rfl, ?qyu1311⟩) (by assumption) ?qru1311; case qyu1311 => ((intro w hSw; (try dsimp only at hSw); go_simp); try (with_reducible rfl))
    (try simp only [tA, tS, tZ, Act.put, uA, uS, uZ])
    refine wpAnyH_take (i := 28) (v := ?qvu1312) rfl (by kernel_rfl) (by kernel_rfl) (by kernel_rfl) (fun _ _ _ h => h) (Or.inl ⟨by rfl, ?qyu1312⟩) (by assumption) ?qru1312; case qyu1312 => ((intro w hSw; (try dsimp only at hSw); go_simp); try (with_reducible rfl))
    (try simp only [tA, tS, tZ, Act.put, uA, uS, uZ])
    refine wpAnyH_take (i := 29) (v := ?qvu1313) rfl (by kernel_rfl) (by kernel_rfl) (by kernel_rfl) (fun _ _ _ h => h) (Or.inl ⟨by rfl, ?qyu1313⟩) (by assumption) ?qru1313; case qyu1313 => ((intro w hSw; (try dsimp only at hSw); go_simp); try (with_reducible rfl))
    (try simp only [tA, tS, tZ, Act.put, uA, uS, uZ])
    refine wpAnyH_take (i := 31) (v := ?qvu1314) rfl (by kernel_rfl) (by kernel_rfl) (by kernel_rfl) (fun _ _ _ h => h) (Or.inl ⟨by rfl, ?qyu1314⟩) (by assumption) ?qru1314; case qyu1314 => ((intro w hSw; (try dsimp only at hSw); go_simp); try (with_reducible rfl))
    (try simp only [tA, tS, tZ, Act.put, uA, uS, uZ])
    refine wpAnyH_take (i := 32) (v := ?qvu1315) rfl (by kernel_rfl) (by kernel_rfl) (by kernel_rfl) (fun _ _ _ h => h) (Or.inl ⟨by rfl, ?qyu1315⟩) (by assumption) ?qru1315; case qyu1315 => ((intro w hSw; (try dsimp only at hSw); go_simp); try (with_reducible rfl))
    (try simp only [tA, tS, tZ, Act.put, uA, uS, uZ])
    refine wpAnyH_ready (rs := [30]) (by kernel_rfl) (by simp) ?_
    refine AllReadyH.cons rfl (fun K hK => ?_) AllReadyH.nil
    go_simp
    refine (md_status D7.md s b1 _ HST.out).mono ?_
    rintro e z3 ⟨rfl, Sf, Mf, kf⟩
    have D8 := D7.stepM Mf kf
    refine hK.out _ _ ⟨kf.1.cell hHeld.1 D7.nr, ⟨kf.1.cell hHeld.2.1.1 nC, kf.1.cell hHeld.2.1.2.1 nC, kf.1.cell hHeld.2.1.2.2.1 nC, kf.1.cell hHeld.2.1.2.2.2.1 nC, kf.1.cell hHeld.2.1.2.2.2.2 nC⟩, ⟨kf.1.cell hHeld.2.2.1 nD, kf.1.cell hHeld.2.2.2.1 nD, kf.1.cell hHeld.2.2.2.2.1 nD, kf.1.cell hHeld.2.2.2.2.2.1 nD, kf.1.cell hHeld.2.2.2.2.2.2 nD⟩⟩ (fun hHeld => ?_)
    clear hK K
    (try simp only [tA, tS, tZ, Act.put, uA, uS, uZ])
    refine wpAnyH_ready (rs := [33]) (by kernel_rfl) (by simp) ?_
    refine AllReadyH.cons rfl (fun K hK => ?_) AllReadyH.nil
    go_simp
    refine (rm_status D8.rm s _ HST.out).mono ?_
    rintro e z4 ⟨rfl, _, kg⟩
    have D9 := D8.quiet kg
    refine hK.out _ _ ⟨kg.cell hHeld.1 id, ⟨kg.cell hHeld.2.1.1 id, kg.cell hHeld.2.1.2.1 id, kg.cell hHeld.2.1.2.2.1 id, kg.cell hHeld.2.1.2.2.2.1 id, kg.cell hHeld.2.1.2.2.2.2 id⟩, ⟨kg.cell hHeld.2.2.1 id, kg.cell hHeld.2.2.2.1 id, kg.cell hHeld.2.2.2.2.1 id, kg.cell hHeld.2.2.2.2.2.1 id, kg.cell hHeld.2.2.2.2.2.2 id⟩⟩ (fun hHeld => ?_)
    clear hK K
    (try simp only [tA, tS, tZ, Act.put, uA, uS, uZ])
    refine wpAnyH_take (i := 34) (v := ?qvu1316) rfl (by kernel_rfl) (by kernel_rfl) (by kernel_rfl) (fun _ _ _ h => h) (Or.inl ⟨by rfl, ?qyu1316⟩) (by assumption) ?qru1316; case qyu1316 => ((intro w hSw; (try dsimp only at hSw); go_simp); try (with_reducible rfl))
    (try simp only [tA, tS, tZ, Act.put, uA, uS, uZ])
    refine wpAnyH_take (i := 35) (v := ?qvu1317) rfl (by kernel_rfl) (by kernel_rfl) (by kernel_rfl) (fun _ _ _ h => h) (Or.inl ⟨by rfl, ?qyu1317⟩) (by assumption) ?qru1317; case qyu1317 => ((intro w hSw; (try dsimp only at hSw); go_simp); try (with_reducible rfl))
    (try simp only [tA, tS, tZ, Act.put, uA, uS, uZ])
    refine wpAnyH_take (i := 36) (v := ?qvu1318) rfl (by kernel_rfl) (by kernel_rfl) (by kernel_rfl) (fun _ _ _ h => h) (Or.inl ⟨by rfl, ?qyu1318⟩) (by assumption) ?qru1318; case qyu1318 => ((intro w hSw; (try dsimp only at hSw); go_simp); try (with_reducible rfl))
    (try simp only [tA, tS, tZ, Act.put, uA, uS, uZ])
    refine wpAnyH_ready (rs := [37]) (by kernel_rfl) (by simp) ?_
    refine AllReadyH.cons rfl (fun K hK => ?_) AllReadyH.nil
    go_simp
    refine (awake19_any _).mono ?_
    rintro e z5 ⟨rfl, bA⟩
    have kh := Keep.of_below bA (fun _ => False)
    refine hK.out _ _ ⟨kh.cell hHeld.1 id, ⟨kh.cell hHeld.2.1.1 id, kh.cell hHeld.2.1.2.1 id, kh.cell hHeld.2.1.2.2.1 id, kh.cell hHeld.2.1.2.2.2.1 id, kh.cell hHeld.2.1.2.2.2.2 id⟩, ⟨kh.cell hHeld.2.2.1 id, kh.cell hHeld.2.2.2.1 id, kh.cell hHeld.2.2.2.2.1 id, kh.cell hHeld.2.2.2.2.2.1 id, kh.cell hHeld.2.2.2.2.2.2 id⟩⟩ (fun hHeld => ?_)
    clear hK K
    (try simp only [tA, tS, tZ, Act.put, uA, uS, uZ])
    refine wpAnyH_take (i := 38) (v := ?qvu1319) rfl (by kernel_rfl) (by kernel_rfl) (by kernel_rfl) (fun _ _ _ h => h) (Or.inl ⟨by rfl, ?qyu1319⟩) (by assumption) ?qru1319; case qyu1319 => ((intro w hSw; (try dsimp only at hSw); go_simp); try (with_reducible rfl))
    (try simp only [tA, tS, tZ, Act.put, uA, uS, uZ])
    refine wpAnyH_take (i := 39) (v := ?qvu1320) rfl (by kernel_rfl) (by kernel_rfl) (by kernel_rfl) (fun _ _ _ h => h) (Or.inl ⟨by rfl, ?qyu1320⟩) (by assumption) ?qru1320; case qyu1320 => ((intro w hSw; (try dsimp only at hSw); go_simp); try (with_reducible rfl))
    (try simp only [tA, tS, tZ, Act.put, uA, uS, uZ])
    refine wpAnyH_done (by kernel_rfl) ?_ _
    go_wp2_with fail
    go_ret
    exact ⟨rfl, below_of kW (D9.md.b.trans (bA.mono D9.md.b.size))⟩
theorem own : ownKnob Try.prog.godebug = none := by kernel_rfl
theorem laidOut : laidOutB Try.prog = true := by kernel_rfl
theorem cells_0 : Try.prog.cellsOf 48 = 2 := by kernel_rfl
theorem cells_3 : Try.prog.cellsOf 25 = 4 := by kernel_rfl
set_option maxRecDepth 100000 in
theorem lifted (os : Os) (started : os.Started) (H : Type) (enc : TypeId × Value → H) :
  ReturnsInHanded {} Try.checked os 17 .any (Rows.modelBoundsSpec.pre6 enc Try.prog Try.f17 Rows.modelBoundsRow.domain false) (Rows.modelBoundsSpec.post enc Try.prog Try.f17 false true false false) := by
 refine returnsInHanded_of_change (C := Try.checked) own started (by kernel_rfl) Try.func17
  (ChangeSpec.witness6 (enc := enc) (C := Try.checked) false ⟨#[], #[.agg #[.int .i64 0, .int .u64 0], .int .i64 0, .int .i64 0, .agg #[.int .i64 0, .int .i64 0, .int .i64 0, .int .i64 0]], []⟩ 8 (by kernel_rfl) (by kernel_rfl) (by kernel_rfl) (by kernel_rfl)) ?_
 intro W base args ds gs before hval0 hW hcnd _
 have hval : ∀ (j : Nat) t v, Try.f17.params[j]? = some t → args[j]? = some v → Value.okWide Try.prog W .any base t v := hval0
 have hW' := hW
 obtain ⟨p, q, hA0, hV, rfl, hfz, hnd⟩ := hW
 have hA : DataW.TrodAll enc Try.prog W 0 (fun _ => true) true Try.f17.params.toList args.toList ds p := hA0
 rw [Try.params17] at hA hval
 obtain ⟨v0, vs0, d0, ds0, p0, q0, hargs, rfl, rfl, h0, r0⟩ := trodAll_cons hA
 obtain ⟨v1, vs1, d1, ds1, p1, q1, rfl, rfl, rfl, h1, r1⟩ := trodAll_cons r0
 obtain ⟨v2, vs2, d2, ds2, p2, q2, rfl, rfl, rfl, h2, r2⟩ := trodAll_cons r1
 obtain ⟨v3, vs3, d3, ds3, p3, q3, rfl, rfl, rfl, h3, r3⟩ := trodAll_cons r2
 obtain ⟨rfl, rfl, rfl⟩ := trodAll_nil r3
 obtain rfl : args = #[v0, v1, v2, v3] := by cases args; simp_all
 obtain ⟨rfl, rfl⟩ := trodVars_none hV
 have k0 := h0
 have lt0 : ∀ x ∈ p0, x.block < W.heap.size := by obtain ⟨m, hm⟩ := k0; exact DataW.trod_lt m _ _ _ hm
 obtain ⟨c0_0, c0_1, y0_0, y0_1, m0, rfl, rfl, rfl, hy0_0, hy0_1⟩ := open_agg2 Try.underlying48 (by kernel_rfl) cells_0 (hval 0 48 v0 rfl rfl) h0
 obtain ⟨a0_0, e0_0, rfl, w0_0⟩ := DataW.trod_int Try.underlying3 hy0_0
 simp at e0_0; subst e0_0
 obtain ⟨a0_1, e0_1, rfl, w0_1⟩ := DataW.trod_int Try.underlying46 hy0_1
 simp at e0_1; subst e0_1
 obtain ⟨a1, rfl, rfl, rfl, w1⟩ := open_int Try.underlying3 (hval 1 3 v1 rfl rfl) h1
 obtain ⟨a2, rfl, rfl, rfl, w2⟩ := open_int Try.underlying3 (hval 2 3 v2 rfl rfl) h2
 have k3 := h3
 have lt3 : ∀ x ∈ p3, x.block < W.heap.size := by obtain ⟨m, hm⟩ := k3; exact DataW.trod_lt m _ _ _ hm
 obtain ⟨c3_0, c3_1, c3_2, c3_3, y3_0, y3_1, y3_2, y3_3, m3, rfl, rfl, rfl, hy3_0, hy3_1, hy3_2, hy3_3⟩ := open_agg4 Try.underlying25 (by kernel_rfl) cells_3 (hval 3 25 v3 rfl rfl) h3
 obtain ⟨a3_0, e3_0, rfl, w3_0⟩ := DataW.trod_int Try.underlying3 hy3_0
 simp at e3_0; subst e3_0
 obtain ⟨a3_1, e3_1, rfl, w3_1⟩ := DataW.trod_int Try.underlying3 hy3_1
 simp at e3_1; subst e3_1
 obtain ⟨a3_2, e3_2, rfl, w3_2⟩ := DataW.trod_int Try.underlying3 hy3_2
 simp at e3_2; subst e3_2
 obtain ⟨a3_3, e3_3, rfl, w3_3⟩ := DataW.trod_int Try.underlying3 hy3_3
 simp at e3_3; subst e3_3
 clear hA0 hval0
 refine (walk a0_0 a0_1 a1 a2 a3_0 a3_1 a3_2 a3_3 W w0_0 w0_1 w1 w2 w3_0 w3_1 w3_2 w3_3).mono fun e W' ⟨he, bel⟩ => ?_
 subst he
 exact ⟨_, rfl, _, _, _, [], _, [], hW', trodAll_mk1 (shut_bool Try.underlying4 _), (trodAll_cons_mk (Below.trod laidOut (by kernel_rfl) (of_decide_eq_true (by kernel_rfl)) k0 bel lt0) (trodAll_cons_mk (shut_int Try.underlying3 w1) (trodAll_cons_mk (shut_int Try.underlying3 w2) (trodAll_cons_mk (Below.trod laidOut (by kernel_rfl) (of_decide_eq_true (by kernel_rfl)) k3 bel lt3) trodAll_mk0)))), rfl, bel.frame _, fun h => by cases h⟩
theorem over : Rows.modelBoundsRow.holds Try.pinned (OpenSpec.ofChange Rows.modelBoundsSpec) :=
 OpenClaim.holds_of_wide 17 Try.f17 rfl rfl rfl rfl rfl rfl rfl ⟨rfl, rfl, rfl, rfl, rfl⟩ rfl rfl rfl rfl rfl (by kernel_rfl) Try.func17 (by kernel_rfl)
  (of_decide_eq_true (by kernel_rfl)) (by unfold Func.isWrapper; first | (rw [if_pos (by decide +kernel)]; kernel_rfl) | (rw [if_neg (by decide +kernel)]; exact ⟨rfl, rfl⟩))
  (fun os started H enc _ => lifted os started H enc)
theorem proved : Rows.ModelBoundsSaid := over
end Go.Proofs.Ytkkjofefjepodaa.modelBounds
