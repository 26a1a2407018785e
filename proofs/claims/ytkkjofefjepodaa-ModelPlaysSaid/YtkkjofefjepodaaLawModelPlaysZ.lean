/- Proved here: vinculumlaw19.ModelPlays returns true and leaves its arguments as they were, for any int, any uint64 and any slice of Acts; no further condition. -/
import Derived.Test.YtkkjofefjepodaaLawModelPlaysZab
import Derived.Test.YtkkjofefjepodaaLawModelPlaysZbb
import Derived.Test.YtkkjofefjepodaaLawModelPlaysZbc
import Derived.ChangeOld
import Derived.Deep.LoopGhost
import Derived.Deep.CutRange
import Derived.Deep.CutBlock
import Derived.Deep.RegionHeld3
namespace Go.Proofs.Ytkkjofefjepodaa.modelPlays
open Go.ChangeShapes Go.WideShapes Go.ChangeAt Go.RowKit
set_option linter.unusedVariables false
set_option linter.unusedSimpArgs false
def Rel (W : World) (m r n2 k : Nat) (iv : Value) (wr : World) : Prop := ∃ (S T : Nat → Prop) (x : MoI), k ≤ n2 ∧ k ≤ 80 ∧ iv = .int .i64 k ∧ Duo W wr m S r T x x
set_option maxRecDepth 100000 in
set_option maxHeartbeats 16000000 in
theorem walk (a0 a1 : Int) (a2 : Option Addr) (n2 c2 : Nat) (f2 : Nat → ActI) (w : World) (w0 : (Lit.int .i64 a0).wf = true) (w1 : (Lit.int .u64 a1).wf = true) (w2 : IsActs w a2 n2 c2 f2) :
  Calls Try.prog 13 #[.int .i64 a0, .int .u64 a1, .slice a2 n2 c2] w fun e w' => e = .returned (.bool true) ∧ Below w.heap.size w w' := by
 have u1 := bounds_u64 w1
 have x2 := w2.max
 have lc := w2.cell
 have lo := w2.ok
 obtain ⟨m0, hm0⟩ : ∃ m0, a0 % 256 % 40 = m0 := ⟨_, rfl⟩
 obtain ⟨q, hq⟩ : ∃ q, a1 % 256 = q := ⟨_, rfl⟩
 have hb : bits .and .u64 a1 255 = q := (mask_u8 a1 u1.1 u1.2).trans hq
 have CF := conf_any a0 a1 m0 q hm0 hb (by omega) w
 have hcf : confI (m0 + 1) (q + 20) = true := by unfold confI; exact decide_eq_true (by omega)
 have HB : -1 < q ∧ q ≤ 255 ∧ 0 ≤ m0 ∧ m0 < 40 := by omega
 have HC := Lib.hid hcf
 unfold cfV at CF
 clear w0 w1 w2 hm0 hq hb hcf
 go_enter Try.func13, Try.ntmps13
 go_wp2_with fail
 refine CF.mono ?_
 rintro e y1 ⟨rfl, k1⟩
 clear CF
 go_wp2_with fail
 refine (md_new _ (m0 + 1) (q + 20) (i64_n (by omega)) ⟨by omega, by omega⟩ HC.out).mono ?_
 rintro e y2 ⟨m, S2, rfl, M2⟩
 have g0 : y2.cell? ⟨y1.heap.size, 0, none⟩ = some (.int .i64 (m0 + 1)) := (M2.b.cell (p := ⟨y1.heap.size, 0, none⟩) (by simp)).trans (by simp)
 have g1 : y2.cell? ⟨y1.heap.size, 1, none⟩ = some (.int .u64 (q + 20)) := (M2.b.cell (p := ⟨y1.heap.size, 1, none⟩) (by simp)).trans (by simp)
 have g2 : y1.heap.size < y2.heap.size := by have := M2.b.size; simp at this; omega
 go_wp2_with fail
 refine (rm_new y2 (m0 + 1) (q + 20) HC.out).mono ?_
 rintro e y3 ⟨r, T3, rfl, R3⟩
 have D3 := Duo.made M2 R3
 clear M2 R3 g0 g1 g2
 go_wp2_with fail
 refine (awake19_any _).mono ?_
 rintro e y4 ⟨rfl, b4⟩
 have D4 := D3.quiet (Keep.of_below b4 _)
 clear D3 b4
 have kW : Keep (fun _ => False) w (y1.alloc (.cells #[.int .i64 (m0 + 1), .int .u64 (q + 20)] 48)) := k1.alloc _
 obtain ⟨W, eW⟩ : ∃ W, y1.alloc (.cells #[.int .i64 (m0 + 1), .int .u64 (q + 20)] 48) = W := ⟨_, rfl⟩
 rw [eW] at D4 kW
 clear eW k1
 go_wp2
 go_loopg [11] 80 (fun mm i wr => ∃ k : Nat, mm + k = 80 ∧ Rel W m r n2 k i wr)
 case atStart => exact ⟨0, by omega, S2, T3, _, by omega, by omega, rfl, D4⟩
 case round =>
  obtain ⟨k, hgk, S, T, x, k0, k80, rfl, D⟩ := hrel
  clear D4
  by_cases hlt : k < n2 ∧ k < 80
  ·obtain ⟨hl, h80⟩ := hlt
   obtain ⟨b, off, rfl, hbl, hc⟩ := lc (by omega)
   have ob := lo k hl
   have oc := ((hc k hl).keep kW id).keep (Keep.of_below (Below.mono D.md.b (Nat.le_refl _)) (fun _ => False)) id
   obtain ⟨o, eo⟩ : ∃ o, f2 k = o := ⟨_, rfl⟩
   rw [eo] at ob oc
   clear eo hc lc lo
   obtain ⟨oc0, oc1, oc2, oc3, oc4, oc5, oc6⟩ := oc
   have B0 := D.box o
   have wk : IntKind.i64.wrap ((k : Int) + 1) = (k : Int) + 1 := IntWalk.i64_in _ (by omega)
   have dk : decide ((k : Int) < 80) = true := decide_eq_true (by omega)
   clear D
   go_upto_block 2 with fail
   obtain ⟨V, eV⟩ : ∃ V, wr.alloc (.cells #[.int .i64 o.kind, .int .i64 o.s, .int .i64 o.level, .int .i64 o.o.kind, .int .i64 o.o.key, .int .i64 o.o.hi, .int .i64 o.o.val] 62) = V := ⟨_, rfl⟩
   obtain ⟨N, eN⟩ : ∃ N, wr.heap.size = N := ⟨_, rfl⟩
   rw [eV, eN] at B0 ⊢
   clear eV eN oc0 oc1 oc2 oc3 oc4 oc5 oc6
   obtain ⟨kd, s, lv, ok, oy, oh, ov⟩ := o
   obtain ⟨b0, b1, b2, b3, b4, b5, b6⟩ := ob
   dsimp only at b0 b1 b2 b3 b4 b5 b6
   go_cut [13, 14, 15, 16, 17, 18, 19, 20] from 61 to 122 (fun v1 v2 v3 v4 v5 v6 v7 v8 wx => Mid W m r N ⟨kd, s, lv, ok, oy, oh, ov⟩ wx)
   case first =>
    rename_i J6 K6 hJ6 hK6
    rcases (by omega : kd = 0 ∨ kd = 2 ∨ (kd ≠ 0 ∧ kd ≠ 2)) with rfl | rfl | ⟨hk0, hk2⟩
    ·exact modelPlays.b0 hJ6 hK6 (Lib.hid fun c a d v w h => by cases d <;> exact h) B0 b1 b2 b3 b4 b5 b6
    ·exact modelPlays.b2 hJ6 hK6 (Lib.hid fun c a d v w h => by cases d <;> exact h) B0 b1 b2 b3 b4 b5 b6
    ·exact modelPlays.bd hJ6 hK6 (Lib.hid fun c a d v w h => by cases d <;> exact h) B0 b1 b2 b3 b4 b5 b6 hk0 hk2
   case rest =>
   obtain ⟨S5, T5, y, R5⟩ := hcut
   clear B0
   go_upto_region 23 with fail
   go_cut [179] from 123 to 178 (fun v wx => v = .bool false ∧ Din W m r wx)
   case first =>
    rename_i J7 K7 hJ7 hK7
    by_cases h4 : k % 4 = 0
    ·exact r0 hJ7 hK7 (Lib.hid fun c a d v w h => by cases d <;> exact h) R5 b1 h80 h4
    ·exact r1 hJ7 hK7 (Lib.hid fun c a d v w h => by cases d <;> exact h) R5 b1 h80 h4
   case rest =>
   obtain ⟨rfl, S6, T6, y6, D6⟩ := hcut
   go_wp2_with fail
   go_roundg (80 - (k + 1))
   case measure => omega
   case rel => exact ⟨k + 1, by omega, S6, T6, y6, by omega, by omega, by go_num, D6⟩
  ·have cT := D.rm.time
   obtain ⟨tm, eT⟩ : ∃ t, x.time = t := ⟨_, rfl⟩
   have tb : 0 ≤ tm ∧ tm ≤ 1099511627776 := by have := D.md.gd.time; have := D.md.gd.conf; omega
   rw [eT] at cT
   have EX := Lib.hid eT
   clear eT
   obtain ⟨hf, eH⟩ : ∃ h, tm / 2 = h := ⟨_, rfl⟩
   have d1 : tm.tdiv 2 = hf := by rw [Int.tdiv_eq_ediv_of_nonneg tb.1]; exact eH
   have hb : 0 ≤ hf ∧ hf ≤ 1099511627776 := by omega
   have wh : IntKind.u64.wrap hf = hf := by rw [IntKind.wrap_u64]; omega
   have pl := prs_le D.md.gd hf
   have PL := Lib.hid pl
   clear pl
   have Dd := D.quiet (Keep.refl (fun _ => False) wr).drew
   rcases (by omega : k = n2 ∨ (k < n2 ∧ k = 80)) with rfl | ⟨h1, rfl⟩
   ·clear D
    go_wp2_with fail
    refine wp_region_held_drew (S := (fun w' => w'.cell? ⟨r, 51, none⟩ = some (.int .u64 tm))) (by kernel_rfl) cT (fun hHeld => ?_)
    refine wpAnyH_take (i := 0) (v := ?qvu1260) rfl (by kernel_rfl) (by kernel_rfl) (by kernel_rfl) (fun _ _ _ h => h) (Or.inl ⟨by rfl, ?qyu1260⟩) (by assumption) ?qru1260; case qyu1260 => ((intro w hSw; (try dsimp only at hSw); go_simp); try (with_reducible rfl))
    (try simp only [tA, tS, tZ, Act.put, uA, uS, uZ])
    refine wpAnyH_take (i := 1) (v := ?qvu1261) rfl (by kernel_rfl) (by kernel_rfl) (by kernel_rfl) (fun _ _ _ h => h) (Or.inl ⟨by rfl, ?qyu1261⟩) (by assumption) ?qru1261; case qyu1261 => ((intro w hSw; (try dsimp only at hSw); go_simp); try (with_reducible rfl))
    (try simp only [tA, tS, tZ, Act.put, uA, uS, uZ])
    refine wpAnyH_take (i := 2) (v := ?qvu1262) rfl (by kernel_rfl) (by kernel_rfl) (by kernel_rfl) (fun _ _ _ h => h) (Or.inl ⟨by rfl, ?qyu1262⟩) (by assumption) ?qru1262; case qyu1262 => ((intro w hSw; (try dsimp only at hSw); go_simp); try (with_reducible rfl))
    (try simp only [tA, tS, tZ, Act.put, uA, uS, uZ])
    refine wpAnyH_take (i := 3) (v := ?qvu1263) rfl (by kernel_rfl) (by kernel_rfl) (by kernel_rfl) (fun _ _ _ h => h) (Or.inl ⟨by rfl, ?qyu1263⟩) (by assumption) ?qru1263; case qyu1263 => ((intro w hSw; (try dsimp only at hSw); go_simp); try (with_reducible rfl))
    (try simp only [tA, tS, tZ, Act.put, uA, uS, uZ])
    refine wpAnyH_take (i := 4) (v := ?qvu1264) rfl (by kernel_rfl) (by kernel_rfl) (by kernel_rfl) (fun _ _ _ h => h) (Or.inl ⟨by rfl, ?qyu1264⟩) (by assumption) ?qru1264; case qyu1264 => ((intro w hSw; (try dsimp only at hSw); go_simp); try (with_reducible rfl))
    (try simp only [tA, tS, tZ, Act.put, uA, uS, uZ])
    refine wpAnyH_take (i := 5) (v := ?qvu1265) rfl (by kernel_rfl) (by kernel_rfl) (by kernel_rfl) (fun _ _ _ h => h) (Or.inl ⟨by rfl, ?qyu1265⟩) (by assumption) ?qru1265; case qyu1265 => ((intro w hSw; (try dsimp only at hSw); go_simp); try (with_reducible rfl))
    (try simp only [tA, tS, tZ, Act.put, uA, uS, uZ])
    refine wpAnyH_take (i := 7) (v := ?qvu1266) rfl (by kernel_rfl) (by kernel_rfl) (by kernel_rfl) (fun _ _ _ h => h) (Or.inl ⟨by rfl, ?qyu1266⟩) (by assumption) ?qru1266; case qyu1266 => ((intro w hSw; (try dsimp only at hSw); go_simp); try (with_reducible rfl))
    (try simp only [tA, tS, tZ, Act.put, uA, uS, uZ])
    refine wpAnyH_take (i := 8) (v := ?qvu1267) rfl (by kernel_rfl) (by kernel_rfl) (by kernel_rfl) (fun _ _ _ h => h) (Or.inl ⟨by rfl, ?qyu1267⟩) (by assumption) ?qru1267; case qyu1267 => ((intro w hSw; (try dsimp only at hSw); go_simp); try (with_reducible rfl))
    (try simp only [tA, tS, tZ, Act.put, uA, uS, uZ])
    refine wpAnyH_take (i := 9) (v := ?qvu1268) rfl (by kernel_rfl) (by kernel_rfl) (by kernel_rfl) (fun _ _ _ h => h) (Or.inl ⟨by rfl, ?qyu1268⟩) (by assumption) ?qru1268; case qyu1268 => ((intro w hSw; (try dsimp only at hSw); go_simp); try (with_reducible rfl))
    (try simp only [tA, tS, tZ, Act.put, uA, uS, uZ])
    refine wpAnyH_take (i := 10) (v := ?qvu1269) rfl (by kernel_rfl) (by kernel_rfl) (by kernel_rfl) (fun _ _ _ h => h) (Or.inl ⟨by rfl, ?qyu1269⟩) (by assumption) ?qru1269; case qyu1269 => ((intro w hSw; (try dsimp only at hSw); go_simp); try (with_reducible rfl))
    (try simp only [tA, tS, tZ, Act.put, uA, uS, uZ])
    refine wpAnyH_take (i := 11) (v := ?qvu1270) rfl (by kernel_rfl) (by kernel_rfl) (by kernel_rfl) (fun _ _ _ h => h) (Or.inl ⟨by rfl, ?qyu1270⟩) (by assumption) ?qru1270; case qyu1270 => ((intro w hSw; (try dsimp only at hSw); go_simp); try (with_reducible rfl))
    (try simp only [tA, tS, tZ, Act.put, uA, uS, uZ])
    refine wpAnyH_take (i := 12) (v := ?qvu1271) rfl (by kernel_rfl) (by kernel_rfl) (by kernel_rfl) (fun _ _ _ h => h) (Or.inl ⟨by rfl, ?qyu1271⟩) (by assumption) ?qru1271; case qyu1271 => ((intro w hSw; (try dsimp only at hSw); go_simp); try (with_reducible rfl))
    (try simp only [tA, tS, tZ, Act.put, uA, uS, uZ])
    refine wpAnyH_ready (rs := [6]) (by kernel_rfl) (by simp) ?_
    refine AllReadyH.cons rfl (fun K hK => ?_) AllReadyH.nil
    go_simp
    refine (md_pairs Dd.md hf ⟨by omega, by omega⟩ _ rfl).mono ?_
    rintro e v8 ⟨u8, Sh, rfl, o8, n8, Mh, kh⟩
    have D1 := Dd.stepM Mh kh
    refine hK.out _ _ (kh.1.cell hHeld Dd.nr) (fun hHeld => ?_)
    clear hK K
    (try simp only [tA, tS, tZ, Act.put, uA, uS, uZ])
    refine wpAnyH_ready (rs := [13]) (by kernel_rfl) (by simp) ?_
    refine AllReadyH.cons rfl (fun K hK => ?_) AllReadyH.nil
    go_simp
    refine (rm_pairs' D1.rm hf _ rfl).mono ?_
    rintro e v9 ⟨u9, rfl, o9, ki⟩
    have D2 := D1.quiet ki
    have o8b := o8.keep ki (fun _ _ => id)
    refine hK.out _ _ (ki.cell hHeld id) (fun hHeld => ?_)
    clear hK K
    (try simp only [tA, tS, tZ, Act.put, uA, uS, uZ])
    refine wpAnyH_ready (rs := [14]) (by kernel_rfl) (by simp) ?_
    refine AllReadyH.cons rfl (fun K hK => ?_) AllReadyH.nil
    go_simp
    refine (same_pr o8b o9 PL.out).mono ?_
    rintro e vA ⟨rfl, dA, rfl⟩
    have kj := drewN_keep (fun _ => False) v9 dA
    have D3 := D2.quiet kj
    refine hK.out _ _ (kj.cell hHeld id) (fun hHeld => ?_)
    clear hK K
    (try simp only [tA, tS, tZ, Act.put, uA, uS, uZ])
    refine wpAnyH_take (i := 15) (v := ?qvu1272) rfl (by kernel_rfl) (by kernel_rfl) (by kernel_rfl) (fun _ _ _ h => h) (Or.inl ⟨by rfl, ?qyu1272⟩) (by assumption) ?qru1272; case qyu1272 => ((intro w hSw; (try dsimp only at hSw); go_simp); try (with_reducible rfl))
    (try simp only [tA, tS, tZ, Act.put, uA, uS, uZ])
    refine wpAnyH_done (by kernel_rfl) ?_ _
    go_wp2_with fail
    go_ret
    exact ⟨rfl, below_of kW D3.md.b⟩
   ·clear D
    go_wp2_with fail
    refine wp_region_held_drew (S := (fun w' => w'.cell? ⟨r, 51, none⟩ = some (.int .u64 tm))) (by kernel_rfl) cT (fun hHeld => ?_)
    refine wpAnyH_take (i := 0) (v := ?qvu1273) rfl (by kernel_rfl) (by kernel_rfl) (by kernel_rfl) (fun _ _ _ h => h) (Or.inl ⟨by rfl, ?qyu1273⟩) (by assumption) ?qru1273; case qyu1273 => ((intro w hSw; (try dsimp only at hSw); go_simp); try (with_reducible rfl))
    (try simp only [tA, tS, tZ, Act.put, uA, uS, uZ])
    refine wpAnyH_take (i := 1) (v := ?qvu1274) rfl (by kernel_rfl) (by kernel_rfl) (by kernel_rfl) (fun _ _ _ h => h) (Or.inl ⟨by rfl, ?qyu1274⟩) (by assumption) ?qru1274; case qyu1274 => ((intro w hSw; (try dsimp only at hSw); go_simp); try (with_reducible rfl))
    (try simp only [tA, tS, tZ, Act.put, uA, uS, uZ])
    refine wpAnyH_take (i := 2) (v := ?qvu1275) rfl (by kernel_rfl) (by kernel_rfl) (by kernel_rfl) (fun _ _ _ h => h) (Or.inl ⟨by rfl, ?qyu1275⟩) (by assumption) ?qru1275; case qyu1275 => ((intro w hSw; (try dsimp only at hSw); go_simp); try (with_reducible rfl))
    (try simp only [tA, tS, tZ, Act.put, uA, uS, uZ])
    refine wpAnyH_take (i := 3) (v := ?qvu1276) rfl (by kernel_rfl) (by kernel_rfl) (by kernel_rfl) (fun _ _ _ h => h) (Or.inl ⟨by rfl, ?qyu1276⟩) (by assumption) ?qru1276; case qyu1276 => ((intro w hSw; (try dsimp only at hSw); go_simp); try (with_reducible rfl))
    (try simp only [tA, tS, tZ, Act.put, uA, uS, uZ])
    refine wpAnyH_take (i := 4) (v := ?qvu1277) rfl (by kernel_rfl) (by kernel_rfl) (by kernel_rfl) (fun _ _ _ h => h) (Or.inl ⟨by rfl, ?qyu1277⟩) (by assumption) ?qru1277; case qyu1277 => ((intro w hSw; (try dsimp only at hSw); go_simp); try (with_reducible rfl))
    (try simp only [tA, tS, tZ, Act.put, uA, uS, uZ])
    refine wpAnyH_take (i := 5) (v := ?qvu1278) rfl (by kernel_rfl) (by kernel_rfl) (by kernel_rfl) (fun _ _ _ h => h) (Or.inl ⟨by rfl, ?qyu1278⟩) (by assumption) ?qru1278; case qyu1278 => ((intro w hSw; (try dsimp only at hSw); go_simp); try (with_reducible rfl))
    (try simp only [tA, tS, tZ, Act.put, uA, uS, uZ])
    refine wpAnyH_take (i := 7) (v := ?qvu1279) rfl (by kernel_rfl) (by kernel_rfl) (by kernel_rfl) (fun _ _ _ h => h) (Or.inl ⟨by rfl, ?qyu1279⟩) (by assumption) ?qru1279; case qyu1279 => ((intro w hSw; (try dsimp only at hSw); go_simp); try (with_reducible rfl))
    (try simp only [tA, tS, tZ, Act.put, uA, uS, uZ])
    refine wpAnyH_take (i := 8) (v := ?qvu1280) rfl (by kernel_rfl) (by kernel_rfl) (by kernel_rfl) (fun _ _ _ h => h) (Or.inl ⟨by rfl, ?qyu1280⟩) (by assumption) ?qru1280; case qyu1280 => ((intro w hSw; (try dsimp only at hSw); go_simp); try (with_reducible rfl))
    (try simp only [tA, tS, tZ, Act.put, uA, uS, uZ])
    refine wpAnyH_take (i := 9) (v := ?qvu1281) rfl (by kernel_rfl) (by kernel_rfl) (by kernel_rfl) (fun _ _ _ h => h) (Or.inl ⟨by rfl, ?qyu1281⟩) (by assumption) ?qru1281; case qyu1281 => ((intro w hSw; (try dsimp only at hSw); go_simp); try (with_reducible rfl))
    (try simp only [tA, tS, tZ, Act.put, uA, uS, uZ])
    refine wpAnyH_take (i := 10) (v := ?qvu1282) rfl (by kernel_rfl) (by kernel_rfl) (by kernel_rfl) (fun _ _ _ h => h) (Or.inl ⟨by rfl, ?qyu1282⟩) (by assumption) ?qru1282; case qyu1282 => ((intro w hSw; (try dsimp only at hSw); go_simp); try (with_reducible rfl))
    (try simp only [tA, tS, tZ, Act.put, uA, uS, uZ])
    refine wpAnyH_take (i := 11) (v := ?qvu1283) rfl (by kernel_rfl) (by kernel_rfl) (by kernel_rfl) (fun _ _ _ h => h) (Or.inl ⟨by rfl, ?qyu1283⟩) (by assumption) ?qru1283; case qyu1283 => ((intro w hSw; (try dsimp only at hSw); go_simp); try (with_reducible rfl))
    (try simp only [tA, tS, tZ, Act.put, uA, uS, uZ])
    refine wpAnyH_take (i := 12) (v := ?qvu1284) rfl (by kernel_rfl) (by kernel_rfl) (by kernel_rfl) (fun _ _ _ h => h) (Or.inl ⟨by rfl, ?qyu1284⟩) (by assumption) ?qru1284; case qyu1284 => ((intro w hSw; (try dsimp only at hSw); go_simp); try (with_reducible rfl))
    (try simp only [tA, tS, tZ, Act.put, uA, uS, uZ])
    refine wpAnyH_ready (rs := [6]) (by kernel_rfl) (by simp) ?_
    refine AllReadyH.cons rfl (fun K hK => ?_) AllReadyH.nil
    go_simp
    refine (md_pairs Dd.md hf ⟨by omega, by omega⟩ _ rfl).mono ?_
    rintro e v8 ⟨u8, Sh, rfl, o8, n8, Mh, kh⟩
    have D1 := Dd.stepM Mh kh
    refine hK.out _ _ (kh.1.cell hHeld Dd.nr) (fun hHeld => ?_)
    clear hK K
    (try simp only [tA, tS, tZ, Act.put, uA, uS, uZ])
    refine wpAnyH_ready (rs := [13]) (by kernel_rfl) (by simp) ?_
    refine AllReadyH.cons rfl (fun K hK => ?_) AllReadyH.nil
    go_simp
    refine (rm_pairs' D1.rm hf _ rfl).mono ?_
    rintro e v9 ⟨u9, rfl, o9, ki⟩
    have D2 := D1.quiet ki
    have o8b := o8.keep ki (fun _ _ => id)
    refine hK.out _ _ (ki.cell hHeld id) (fun hHeld => ?_)
    clear hK K
    (try simp only [tA, tS, tZ, Act.put, uA, uS, uZ])
    refine wpAnyH_ready (rs := [14]) (by kernel_rfl) (by simp) ?_
    refine AllReadyH.cons rfl (fun K hK => ?_) AllReadyH.nil
    go_simp
    refine (same_pr o8b o9 PL.out).mono ?_
    rintro e vA ⟨rfl, dA, rfl⟩
    have kj := drewN_keep (fun _ => False) v9 dA
    have D3 := D2.quiet kj
    refine hK.out _ _ (kj.cell hHeld id) (fun hHeld => ?_)
    clear hK K
    (try simp only [tA, tS, tZ, Act.put, uA, uS, uZ])
    refine wpAnyH_take (i := 15) (v := ?qvu1285) rfl (by kernel_rfl) (by kernel_rfl) (by kernel_rfl) (fun _ _ _ h => h) (Or.inl ⟨by rfl, ?qyu1285⟩) (by assumption) ?qru1285; case qyu1285 => ((intro w hSw; (try dsimp only at hSw); go_simp); try (with_reducible rfl))
    (try simp only [tA, tS, tZ, Act.put, uA, uS, uZ])
    refine wpAnyH_done (by kernel_rfl) ?_ _
    go_wp2_with fail
    go_ret
    exact ⟨rfl, below_of kW D3.md.b⟩
theorem own : ownKnob Try.prog.godebug = none := by kernel_rfl
theorem laidOut : laidOutB Try.prog = true := by kernel_rfl
set_option maxRecDepth 100000 in
theorem lifted (os : Os) (started : os.Started) (H : Type) (enc : TypeId × Value → H) :
  ReturnsInHanded {} Try.checked os 13 .any (Rows.modelPlaysSpec.pre6 enc Try.prog Try.f13 Rows.modelPlaysRow.domain false) (Rows.modelPlaysSpec.post enc Try.prog Try.f13 false true false false) := by
 refine returnsInHanded_of_change (C := Try.checked) own started (by kernel_rfl) Try.func13
  (ChangeSpec.witness6 (enc := enc) (C := Try.checked) false ⟨#[], #[.int .i64 0, .int .u64 0, .slice none 0 0], []⟩ 8 (by kernel_rfl) (by kernel_rfl) (by kernel_rfl) (by kernel_rfl)) ?_
 intro W base args ds gs before hval0 hW hcnd _
 have hval : ∀ (j : Nat) t v, Try.f13.params[j]? = some t → args[j]? = some v → Value.okWide Try.prog W .any base t v := hval0
 have hW' := hW
 obtain ⟨p, q, hA0, hV, rfl, hfz, hnd⟩ := hW
 have hA : DataW.TrodAll enc Try.prog W 0 (fun _ => true) true Try.f13.params.toList args.toList ds p := hA0
 rw [Try.params13] at hA hval
 obtain ⟨v0, vs0, d0, ds0, p0, q0, hargs, rfl, rfl, h0, r0⟩ := trodAll_cons hA
 obtain ⟨v1, vs1, d1, ds1, p1, q1, rfl, rfl, rfl, h1, r1⟩ := trodAll_cons r0
 obtain ⟨v2, vs2, d2, ds2, p2, q2, rfl, rfl, rfl, h2, r2⟩ := trodAll_cons r1
 obtain ⟨rfl, rfl, rfl⟩ := trodAll_nil r2
 obtain rfl : args = #[v0, v1, v2] := by cases args; simp_all
 obtain ⟨rfl, rfl⟩ := trodVars_none hV
 obtain ⟨a0, rfl, rfl, rfl, w0⟩ := open_int Try.underlying3 (hval 0 3 v0 rfl rfl) h0
 obtain ⟨a1, rfl, rfl, rfl, w1⟩ := open_int Try.underlying46 (hval 1 46 v1 rfl rfl) h1
 obtain ⟨a2, len2, cap2, rfl⟩ := okWide_slice Try.underlying60 (hval 2 60 v2 rfl rfl)
 have k2 := h2
 have lt2 : ∀ x ∈ p2, x.block < W.heap.size := by obtain ⟨m, hm⟩ := k2; exact DataW.trod_lt m _ _ _ hm
 obtain ⟨z2, w2⟩ : ∃ f, IsActs W a2 len2 cap2 f := is_acts h2
 clear hA0 hval0
 refine (walk a0 a1 a2 len2 cap2 z2 W w0 w1 w2).mono fun e W' ⟨he, bel⟩ => ?_
 subst he
 exact ⟨_, rfl, _, _, _, [], _, [], hW', trodAll_mk1 (shut_bool Try.underlying4 _), (trodAll_cons_mk (shut_int Try.underlying3 w0) (trodAll_cons_mk (shut_int Try.underlying46 w1) (trodAll_cons_mk (Below.trod laidOut (by kernel_rfl) (of_decide_eq_true (by kernel_rfl)) k2 bel lt2) trodAll_mk0))), rfl, bel.frame _, fun h => by cases h⟩
theorem over : Rows.modelPlaysRow.holds Try.pinned (OpenSpec.ofChange Rows.modelPlaysSpec) :=
 OpenClaim.holds_of_wide 13 Try.f13 rfl rfl rfl rfl rfl rfl rfl ⟨rfl, rfl, rfl, rfl, rfl⟩ rfl rfl rfl rfl rfl (by kernel_rfl) Try.func13 (by kernel_rfl)
  (of_decide_eq_true (by kernel_rfl)) (by unfold Func.isWrapper; first | (rw [if_pos (by decide +kernel)]; kernel_rfl) | (rw [if_neg (by decide +kernel)]; exact ⟨rfl, rfl⟩))
  (fun os started H enc _ => lifted os started H enc)
theorem proved : Rows.ModelPlaysSaid := over
end Go.Proofs.Ytkkjofefjepodaa.modelPlays
