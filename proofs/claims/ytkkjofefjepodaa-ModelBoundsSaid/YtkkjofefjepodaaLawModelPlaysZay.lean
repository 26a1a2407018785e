/- Several texts, one behind the other: RmW, RmY, RmWb. -/
import Derived.Test.YtkkjofefjepodaaLawModelPlaysZab
import Derived.Test.YtkkjofefjepodaaLawModelPlaysZax
/- The document's own Model, sixteenth part: an insert of a key not one's own, a new version. -/
namespace Go.Proofs.Ytkkjofefjepodaa
open Go.ChangeShapes Go.WideShapes Go.ChangeAt Go.RowKit
set_option linter.unusedVariables false
set_option linter.unusedSimpArgs false
section
variable {w w' W : World} {m : Nat} {vv vv' : Value} {sw sr sw' sr' : Nat → Value} {x y : MoI} {T : Nat → Prop}
set_option maxRecDepth 100000 in
set_option maxHeartbeats 8000000 in
theorem rwrite_insA (h : RmAt w m vv sw sr x) (f : Few x) (s : Nat) (hs : s < 8) (o : OpI) (hk : o.kind = 2) (hat : seesI x.v (x.s s).id (x.s s).start o.key = none) (hnot : o.key ∉ (x.s s).wrote) (hnt : x.taken (x.s s).id (x.s s).start o.key = false) (hown : x.v.findIdx? (ownV (x.s s).id o.key) = none) (hrm : ¬ x.slots ≤ x.v.length) (z : MoI)
  (hz : ({ (if o.key ∈ (x.s s).wrote then x else x.keepW s o.key) with v := MoI.wroteV x.v (x.s s).id o none (x.v.findIdx? (ownV (x.s s).id o.key)) } : MoI) = z) :
  Calls Try.prog 65 #[.pointer (some ⟨m, 0, none⟩), .int .i64 s, opV o] w (DidR w m vv sw sr re0 z) := by
 obtain ⟨W1, eW1, ob, kW1⟩ := op_box w o
 obtain ⟨W, eW, rb, kW2⟩ := res_box W1
 have kW := kW1.trans kW2
 have fM : ¬ FootR m vv sw sr w.heap.size := fun q => by have := h.lt _ q; omega
 have fN : ¬ FootR m vv sw sr W1.heap.size := fun q => by have := h.lt _ q; have := kW1.size; omega
 have hmw := h.mlt
 have H := Lib.hid (h.same kW)
 obtain ⟨Av, cv, evv, hcv, _⟩ := h.vers
 obtain ⟨nv, env⟩ : ∃ n, x.v.length = n := ⟨_, rfl⟩
 rw [env] at evv hcv
 have EVV := Lib.hid evv
 have ENV := Lib.hid env
 clear evv env
 have s0 := H.out.s0 s hs
 have s1 := H.out.s1 s hs
 have s2 := H.out.s2 s hs
 have s3 := H.out.s3 s hs
 have s4 := H.out.s4 s hs
 have s5 := H.out.s5 s hs
 obtain ⟨A4, c4, e4⟩ := own_n _ _ _ (H.out.ow s hs)
 obtain ⟨A5, c5, e5⟩ := own_r _ _ _ (H.out.or' s hs)
 obtain ⟨t, et⟩ : ∃ t, x.s s = t := ⟨_, rfl⟩
 have OW := Lib.hid (H.out.ow s hs)
 have OR5 := Lib.hid (H.out.or' s hs)
 have FW := Lib.hid (f.w s hs)
 have FRS := Lib.hid (f.r s hs).1
 rw [et] at s0 s1 s2 s3 e4 e5 OW OR5 FW
 have ET := Lib.hid et
 obtain ⟨n4, en4⟩ : ∃ n, t.wrote.length = n := ⟨_, rfl⟩
 obtain ⟨n5, en5⟩ : ∃ n, t.reads.length = n := ⟨_, rfl⟩
 rw [en4] at e4
 rw [en5] at e5
 rw [e4] at s4
 rw [e5] at s5
 have E4 := Lib.hid e4
 have E5 := Lib.hid e5
 have EN4 := Lib.hid en4
 have EN5 := Lib.hid en5
 obtain ⟨M, eM⟩ : ∃ M, w.heap.size = M := ⟨_, rfl⟩
 obtain ⟨N, eN⟩ : ∃ N, W1.heap.size = N := ⟨_, rfl⟩
 have hMN : N = M + 1 := by rw [← eN, ← eW1, World.size_alloc, eM]
 have HMN := Lib.hid hMN
 have EM := Lib.hid eM
 have ES := Lib.hid eN
 have hNW : N < W.heap.size := by rw [← eW, World.size_alloc, eN]; exact Nat.lt_succ_self _
 rw [eM] at ob fM hmw
 rw [eN] at rb fN
 have OB := Lib.hid (ob.keep kW2 (fun e => e))
 have RB := Lib.hid rb
 have FM := Lib.hid fM
 have FN := Lib.hid fN
 have KW := Lib.hid kW
 have FV := Lib.hid f.v
 obtain ⟨o0, o1, o2, o3⟩ := OB.out
 obtain ⟨at', eat⟩ : ∃ at', seesI x.v t.id t.start o.key = at' := ⟨_, rfl⟩
 obtain ⟨mine, emi⟩ : ∃ b, decide (o.key ∈ t.wrote) = b := ⟨_, rfl⟩
 have EAT := Lib.hid eat
 have EMI := Lib.hid emi
 have HS := Lib.hid (fun (wx : World) (k : Keep (fun _ => False) W wx) => rsees_any (H.out.same k) (Nat.le_trans FV.out (by omega)) t (sw s) (sr s) o.key)
 have HW := Lib.hid (fun (wx : World) (k : Keep (fun _ => False) W wx) => rhas_any (OwnN.keep OW.out k (by simp)) (Nat.le_trans FW.out (by omega)) o.key mine EMI.out)
 rw [EAT.out, E4.out, E5.out] at HS
 rw [E4.out] at HW
 unfold txV at HS
 have HT := Lib.hid (fun (wx : World) (k : Keep (fun _ => False) W wx) => rtaken_any (H.out.same k) (Nat.le_trans FV.out (by omega)) (fun i hi => Nat.le_trans (f.w i hi) (by omega)) t (sw s) (sr s) o.key)
 rw [E4.out, E5.out] at HT
 unfold txV at HT
 have HOW := Lib.hid (fun (wx : World) (k : Keep (fun _ => False) W wx) => rown_any (H.out.same k) (Nat.le_trans FV.out (by omega)) t.id o.key)
 obtain ⟨ok, okey, ohi, oval⟩ := o
 rw [ET.out] at hnot hnt hown hat hz
 obtain rfl : none = at' := by rw [← EAT.out]; exact hat.symm
 have hown' : x.v.findIdx? (ownV t.id (OpI.key ⟨ok, okey, ohi, oval⟩)) = none := hown
 rw [hown'] at HOW
 rw [hown] at hz
 obtain rfl : ok = 2 := hk
 have di : idxV none = -1 := rfl
 have HZ := Lib.hid hz
 have EKK := Lib.hid hown
 rw [hnt] at HT
 have HNO := Lib.hid hnot
 have HRM := Lib.hid hrm
 clear hnt hown' hown hz hat hnot hrm
 clear hMN h ob rb fM fN f et e4 e5 en4 en5 eat emi kW kW1 kW2
 unfold DidR opV
 go_enter Try.func65, Try.ntmps65
 go_wp2_with fail
 refine wp_region_held_drew (S := fun w' => w'.cell? ⟨m, 3 + s * 6, none⟩ = some (.int .i64 t.id) ∧ w'.cell? ⟨m, 3 + s * 6 + 1, none⟩ = some (.int .i64 t.level) ∧ w'.cell? ⟨m, 3 + s * 6 + 2, none⟩ = some (.int .i64 t.ops) ∧ w'.cell? ⟨m, 3 + s * 6 + 3, none⟩ = some (.int .u64 t.start) ∧ w'.cell? ⟨m, 3 + s * 6 + 4, none⟩ = some (.slice A4 n4 c4) ∧ w'.cell? ⟨m, 3 + s * 6 + 5, none⟩ = some (.slice A5 n5 c5) ∧ w'.cell? ⟨M, 1, none⟩ = some (.int .i64 okey)) (by kernel_rfl) ⟨s0, s1, s2, s3, s4, s5, o1⟩ (fun hHeld => ?_)
 refine tk 0 (v := ?qvu628) ?qyu628 ?qru628; case qyu628 => ((intro w hSw; (try dsimp only at hSw); go_simp); try (with_reducible rfl))
 (try simp only [tA, tS, tZ, Act.put, uA, uS, uZ])
 refine tk 1 (v := ?qvu629) ?qyu629 ?qru629; case qyu629 => ((intro w hSw; (try dsimp only at hSw); go_simp); try (with_reducible rfl))
 (try simp only [tA, tS, tZ, Act.put, uA, uS, uZ])
 refine tk 2 (v := ?qvu630) ?qyu630 ?qru630; case qyu630 => ((intro w hSw; (try dsimp only at hSw); go_simp); try (with_reducible rfl))
 (try simp only [tA, tS, tZ, Act.put, uA, uS, uZ])
 refine tk 3 (v := ?qvu631) ?qyu631 ?qru631; case qyu631 => ((intro w hSw; (try dsimp only at hSw); go_simp); try (with_reducible rfl))
 (try simp only [tA, tS, tZ, Act.put, uA, uS, uZ])
 refine tk 4 (v := ?qvu632) ?qyu632 ?qru632; case qyu632 => ((intro w hSw; (try dsimp only at hSw); go_simp); try (with_reducible rfl))
 (try simp only [tA, tS, tZ, Act.put, uA, uS, uZ])
 refine tk 5 (v := ?qvu633) ?qyu633 ?qru633; case qyu633 => ((intro w hSw; (try dsimp only at hSw); go_simp); try (with_reducible rfl))
 (try simp only [tA, tS, tZ, Act.put, uA, uS, uZ])
 refine wpAnyH_ready (rs := [6]) (by kernel_rfl) (by simp) ?_
 refine AllReadyH.cons rfl (fun K hK => ?_) AllReadyH.nil
 go_simp
 refine (HS.out _ ((Keep.refl _ W).drew)).mono ?_
 rintro e w3 ⟨rfl, k3⟩
 refine hK.out _ _ ⟨k3.cell hHeld.1 id, k3.cell hHeld.2.1 id, k3.cell hHeld.2.2.1 id, k3.cell hHeld.2.2.2.1 id, k3.cell hHeld.2.2.2.2.1 id, k3.cell hHeld.2.2.2.2.2.1 id, k3.cell hHeld.2.2.2.2.2.2 id⟩ (fun hHeld => ?_)
 clear hK K
 (try simp only [tA, tS, tZ, Act.put, uA, uS, uZ])
 refine tk 7 (v := ?qvu634) ?qyu634 ?qru634; case qyu634 => ((intro w hSw; (try dsimp only at hSw); go_simp); try (with_reducible rfl))
 (try simp only [tA, tS, tZ, Act.put, uA, uS, uZ])
 refine wpAnyH_done (by kernel_rfl) ?_ _
 have K3 : Keep (fun _ => False) W w3 := ((Keep.refl _ W).drew).trans k3
 clear hHeld
 go_wp2_with fail
 refine wp_region_held_drew (S := fun w' => w'.cell? ⟨m, 3 + s * 6 + 4, none⟩ = some (.slice A4 n4 c4) ∧ w'.cell? ⟨M, 1, none⟩ = some (.int .i64 okey)) (by kernel_rfl) ⟨K3.cell s4 id, K3.cell o1 id⟩ (fun hHeld => ?_)
 refine tk 0 (v := ?qvu635) ?qyu635 ?qru635; case qyu635 => ((intro w hSw; (try dsimp only at hSw); go_simp); try (with_reducible rfl))
 (try simp only [tA, tS, tZ, Act.put, uA, uS, uZ])
 refine tk 1 (v := ?qvu636) ?qyu636 ?qru636; case qyu636 => ((intro w hSw; (try dsimp only at hSw); go_simp); try (with_reducible rfl))
 (try simp only [tA, tS, tZ, Act.put, uA, uS, uZ])
 refine tk 2 (v := ?qvu637) ?qyu637 ?qru637; case qyu637 => ((intro w hSw; (try dsimp only at hSw); go_simp); try (with_reducible rfl))
 (try simp only [tA, tS, tZ, Act.put, uA, uS, uZ])
 refine tk 3 (v := ?qvu638) ?qyu638 ?qru638; case qyu638 => ((intro w hSw; (try dsimp only at hSw); go_simp); try (with_reducible rfl))
 (try simp only [tA, tS, tZ, Act.put, uA, uS, uZ])
 refine tk 4 (v := ?qvu639) ?qyu639 ?qru639; case qyu639 => ((intro w hSw; (try dsimp only at hSw); go_simp); try (with_reducible rfl))
 (try simp only [tA, tS, tZ, Act.put, uA, uS, uZ])
 refine tk 5 (v := ?qvu640) ?qyu640 ?qru640; case qyu640 => ((intro w hSw; (try dsimp only at hSw); go_simp); try (with_reducible rfl))
 (try simp only [tA, tS, tZ, Act.put, uA, uS, uZ])
 refine wpAnyH_ready (rs := [6]) (by kernel_rfl) (by simp) ?_
 refine AllReadyH.cons rfl (fun K hK => ?_) AllReadyH.nil
 go_simp
 refine (HW.out _ (K3.drew)).mono ?_
 rintro e w4 ⟨rfl, rfl⟩
 refine hK.out _ _ hHeld (fun hHeld => ?_)
 clear hK K
 (try simp only [tA, tS, tZ, Act.put, uA, uS, uZ])
 refine tk 7 (v := ?qvu641) ?qyu641 ?qru641; case qyu641 => ((intro w hSw; (try dsimp only at hSw); go_simp); try (with_reducible rfl))
 (try simp only [tA, tS, tZ, Act.put, uA, uS, uZ])
 refine wpAnyH_done (by kernel_rfl) ?_ _
 have K4 : Keep (fun _ => False) W w3.drew := K3.drew
 clear hHeld
 obtain ⟨wq, ewq⟩ : ∃ wq, w3.drew = wq := ⟨_, rfl⟩
 rw [ewq] at K4 ⊢
 clear ewq K3 k3
 obtain ⟨p0, p1, p2, p3⟩ := OB.out.keep K4 id
 have H4 := Lib.hid (H.out.same K4)
 have R4 := Lib.hid (RB.out.keep K4 id)
 obtain rfl : mine = false := by rw [← EMI.out]; exact decide_eq_false HNO.out
 have hrm : ¬ x.slots ≤ (nv : Int) := by have := HRM.out; rw [← ENV.out]; omega
 have d5 : decide (x.slots ≤ (nv : Int)) = false := decide_eq_false hrm
 have s0 := H4.out.s0 s hs
 have s1 := H4.out.s1 s hs
 have s2 := H4.out.s2 s hs
 have s3 := H4.out.s3 s hs
 have s4 := H4.out.s4 s hs
 have s5 := H4.out.s5 s hs
 rw [ET.out] at s0 s1 s2 s3
 rw [E4.out] at s4
 rw [E5.out] at s5
 go_wp2_with fail
 refine wp_region_held_drew (S := fun w' => w'.cell? ⟨m, 3 + s * 6, none⟩ = some (.int .i64 t.id) ∧ w'.cell? ⟨m, 3 + s * 6 + 1, none⟩ = some (.int .i64 t.level) ∧ w'.cell? ⟨m, 3 + s * 6 + 2, none⟩ = some (.int .i64 t.ops) ∧ w'.cell? ⟨m, 3 + s * 6 + 3, none⟩ = some (.int .u64 t.start) ∧ w'.cell? ⟨m, 3 + s * 6 + 4, none⟩ = some (.slice A4 n4 c4) ∧ w'.cell? ⟨m, 3 + s * 6 + 5, none⟩ = some (.slice A5 n5 c5) ∧ w'.cell? ⟨M, 1, none⟩ = some (.int .i64 okey)) (by kernel_rfl) ⟨s0, s1, s2, s3, s4, s5, p1⟩ (fun hHeld => ?_)
 refine tk 0 (v := ?qvu642) ?qyu642 ?qru642; case qyu642 => ((intro w hSw; (try dsimp only at hSw); go_simp); try (with_reducible rfl))
 (try simp only [tA, tS, tZ, Act.put, uA, uS, uZ])
 refine tk 1 (v := ?qvu643) ?qyu643 ?qru643; case qyu643 => ((intro w hSw; (try dsimp only at hSw); go_simp); try (with_reducible rfl))
 (try simp only [tA, tS, tZ, Act.put, uA, uS, uZ])
 refine tk 2 (v := ?qvu644) ?qyu644 ?qru644; case qyu644 => ((intro w hSw; (try dsimp only at hSw); go_simp); try (with_reducible rfl))
 (try simp only [tA, tS, tZ, Act.put, uA, uS, uZ])
 refine tk 3 (v := ?qvu645) ?qyu645 ?qru645; case qyu645 => ((intro w hSw; (try dsimp only at hSw); go_simp); try (with_reducible rfl))
 (try simp only [tA, tS, tZ, Act.put, uA, uS, uZ])
 refine tk 4 (v := ?qvu646) ?qyu646 ?qru646; case qyu646 => ((intro w hSw; (try dsimp only at hSw); go_simp); try (with_reducible rfl))
 (try simp only [tA, tS, tZ, Act.put, uA, uS, uZ])
 refine tk 5 (v := ?qvu647) ?qyu647 ?qru647; case qyu647 => ((intro w hSw; (try dsimp only at hSw); go_simp); try (with_reducible rfl))
 (try simp only [tA, tS, tZ, Act.put, uA, uS, uZ])
 refine tk 6 (v := ?qvu648) ?qyu648 ?qru648; case qyu648 => ((intro w hSw; (try dsimp only at hSw); go_simp); try (with_reducible rfl))
 (try simp only [tA, tS, tZ, Act.put, uA, uS, uZ])
 refine tk 7 (v := ?qvu649) ?qyu649 ?qru649; case qyu649 => ((intro w hSw; (try dsimp only at hSw); go_simp); try (with_reducible rfl))
 (try simp only [tA, tS, tZ, Act.put, uA, uS, uZ])
 refine tk 8 (v := ?qvu650) ?qyu650 ?qru650; case qyu650 => ((intro w hSw; (try dsimp only at hSw); go_simp); try (with_reducible rfl))
 (try simp only [tA, tS, tZ, Act.put, uA, uS, uZ])
 refine wpAnyH_ready (rs := [9]) (by kernel_rfl) (by simp) ?_
 refine AllReadyH.cons rfl (fun K hK => ?_) AllReadyH.nil
 go_simp
 refine (HT.out _ (K4.drew)).mono ?_
 rintro e w5 ⟨rfl, k5⟩
 refine hK.out _ _ ⟨k5.cell hHeld.1 id, k5.cell hHeld.2.1 id, k5.cell hHeld.2.2.1 id, k5.cell hHeld.2.2.2.1 id, k5.cell hHeld.2.2.2.2.1 id, k5.cell hHeld.2.2.2.2.2.1 id, k5.cell hHeld.2.2.2.2.2.2 id⟩ (fun hHeld => ?_)
 clear hK K
 (try simp only [tA, tS, tZ, Act.put, uA, uS, uZ])
 refine tk 10 (v := ?qvu651) ?qyu651 ?qru651; case qyu651 => ((intro w hSw; (try dsimp only at hSw); go_simp); try (with_reducible rfl))
 (try simp only [tA, tS, tZ, Act.put, uA, uS, uZ])
 refine wpAnyH_done (by kernel_rfl) ?_ _
 have K5 := (K4.drew).trans k5
 clear hHeld
 go_wp2_with fail
 have KO : Keep (fun _ => False) W w5.drew := K5.drew
 refine wp_region_held_drew (S := fun w' => w'.cell? ⟨m, 3 + s * 6, none⟩ = some (.int .i64 t.id) ∧ w'.cell? ⟨M, 1, none⟩ = some (.int .i64 okey)) (by kernel_rfl) ⟨by have := (H.out.same KO).s0 s hs; rwa [ET.out] at this, KO.cell o1 id⟩ (fun hHeld => ?_)
 refine tk 0 (v := ?qvu652) ?qyu652 ?qru652; case qyu652 => ((intro w hSw; (try dsimp only at hSw); go_simp); try (with_reducible rfl))
 (try simp only [tA, tS, tZ, Act.put, uA, uS, uZ])
 refine tk 1 (v := ?qvu653) ?qyu653 ?qru653; case qyu653 => ((intro w hSw; (try dsimp only at hSw); go_simp); try (with_reducible rfl))
 (try simp only [tA, tS, tZ, Act.put, uA, uS, uZ])
 refine tk 2 (v := ?qvu654) ?qyu654 ?qru654; case qyu654 => ((intro w hSw; (try dsimp only at hSw); go_simp); try (with_reducible rfl))
 (try simp only [tA, tS, tZ, Act.put, uA, uS, uZ])
 refine tk 3 (v := ?qvu655) ?qyu655 ?qru655; case qyu655 => ((intro w hSw; (try dsimp only at hSw); go_simp); try (with_reducible rfl))
 (try simp only [tA, tS, tZ, Act.put, uA, uS, uZ])
 refine tk 4 (v := ?qvu656) ?qyu656 ?qru656; case qyu656 => ((intro w hSw; (try dsimp only at hSw); go_simp); try (with_reducible rfl))
 (try simp only [tA, tS, tZ, Act.put, uA, uS, uZ])
 refine tk 5 (v := ?qvu657) ?qyu657 ?qru657; case qyu657 => ((intro w hSw; (try dsimp only at hSw); go_simp); try (with_reducible rfl))
 (try simp only [tA, tS, tZ, Act.put, uA, uS, uZ])
 refine tk 6 (v := ?qvu658) ?qyu658 ?qru658; case qyu658 => ((intro w hSw; (try dsimp only at hSw); go_simp); try (with_reducible rfl))
 (try simp only [tA, tS, tZ, Act.put, uA, uS, uZ])
 refine wpAnyH_ready (rs := [7]) (by kernel_rfl) (by simp) ?_
 refine AllReadyH.cons rfl (fun K hK => ?_) AllReadyH.nil
 go_simp
 refine (HOW.out _ KO).mono ?_
 rintro e w7 ⟨rfl, k7'⟩
 refine hK.out _ _ ⟨k7'.cell hHeld.1 id, k7'.cell hHeld.2 id⟩ (fun hHeld => ?_)
 clear hK K
 (try simp only [tA, tS, tZ, Act.put, uA, uS, uZ])
 refine tk 8 (v := ?qvu659) ?qyu659 ?qru659; case qyu659 => ((intro w hSw; (try dsimp only at hSw); go_simp); try (with_reducible rfl))
 (try simp only [tA, tS, tZ, Act.put, uA, uS, uZ])
 refine wpAnyH_done (by kernel_rfl) ?_ _
 have K7 := KO.trans k7'
 clear hHeld
 have c0 := (H.out.same K7).c0
 have c2 := (H.out.same K7).c2
 rw [EVV.out] at c2
 have z0 := K7.cell o0 id
 go_wp2_with fail
 refine wp_region_held_drew (S := fun w' => w'.cell? ⟨M, 0, none⟩ = some (.int .i64 2) ∧ w'.cell? ⟨m, 2, none⟩ = some (.slice Av nv cv) ∧ w'.cell? ⟨m, 0, none⟩ = some (.int .i64 x.slots)) (by kernel_rfl) ⟨z0, c2, c0⟩ (fun hHeld => ?_)
 refine tk 0 (v := ?qvu660) ?qyu660 ?qru660; case qyu660 => ((intro w hSw; (try dsimp only at hSw); go_simp); try (with_reducible rfl))
 (try simp only [tA, tS, tZ, Act.put, uA, uS, uZ])
 refine tk 1 (v := ?qvu661) ?qyu661 ?qru661; case qyu661 => ((intro w hSw; (try dsimp only at hSw); go_simp); try (with_reducible rfl))
 (try simp only [tA, tS, tZ, Act.put, uA, uS, uZ])
 refine tk 2 (v := ?qvu662) ?qyu662 ?qru662; case qyu662 => ((intro w hSw; (try dsimp only at hSw); go_simp); try (with_reducible rfl))
 (try simp only [tA, tS, tZ, Act.put, uA, uS, uZ])
 refine tk 3 (v := ?qvu663) ?qyu663 ?qru663; case qyu663 => ((intro w hSw; (try dsimp only at hSw); go_simp); try (with_reducible rfl))
 (try simp only [tA, tS, tZ, Act.put, uA, uS, uZ])
 refine tk 4 (v := ?qvu664) ?qyu664 ?qru664; case qyu664 => ((intro w hSw; (try dsimp only at hSw); go_simp); try (with_reducible rfl))
 (try simp only [tA, tS, tZ, Act.put, uA, uS, uZ])
 refine tk 5 (v := ?qvu665) ?qyu665 ?qru665; case qyu665 => ((intro w hSw; (try dsimp only at hSw); go_simp); try (with_reducible rfl))
 (try simp only [tA, tS, tZ, Act.put, uA, uS, uZ])
 refine tk 6 (v := ?qvu666) ?qyu666 ?qru666; case qyu666 => ((intro w hSw; (try dsimp only at hSw); go_simp); try (with_reducible rfl))
 (try simp only [tA, tS, tZ, Act.put, uA, uS, uZ])
 refine tk 7 (v := ?qvu667) ?qyu667 ?qru667; case qyu667 => ((intro w hSw; (try dsimp only at hSw); go_simp); try (with_reducible rfl))
 (try simp only [tA, tS, tZ, Act.put, uA, uS, uZ])
 refine tk 8 (v := ?qvu668) ?qyu668 ?qru668; case qyu668 => ((intro w hSw; (try dsimp only at hSw); go_simp); try (with_reducible rfl))
 (try simp only [tA, tS, tZ, Act.put, uA, uS, uZ])
 refine tk 9 (v := ?qvu669) ?qyu669 ?qru669; case qyu669 => ((intro w hSw; (try dsimp only at hSw); go_simp); try (with_reducible rfl))
 (try simp only [tA, tS, tZ, Act.put, uA, uS, uZ])
 refine tk 10 (v := ?qvu670) ?qyu670 ?qru670; case qyu670 => ((intro w hSw; (try dsimp only at hSw); go_simp); try (with_reducible rfl))
 (try simp only [tA, tS, tZ, Act.put, uA, uS, uZ])
 refine tk 11 (v := ?qvu671) ?qyu671 ?qru671; case qyu671 => ((intro w hSw; (try dsimp only at hSw); go_simp); try (with_reducible rfl))
 (try simp only [tA, tS, tZ, Act.put, uA, uS, uZ])
 refine tk 12 (v := ?qvu672) ?qyu672 ?qru672; case qyu672 => ((intro w hSw; (try dsimp only at hSw); go_simp); try (with_reducible rfl))
 (try simp only [tA, tS, tZ, Act.put, uA, uS, uZ])
 refine tk 13 (v := ?qvu673) ?qyu673 ?qru673; case qyu673 => ((intro w hSw; (try dsimp only at hSw); go_simp); try (with_reducible rfl))
 (try simp only [tA, tS, tZ, Act.put, uA, uS, uZ])
 refine tk 14 (v := ?qvu674) ?qyu674 ?qru674; case qyu674 => ((intro w hSw; (try dsimp only at hSw); go_simp); try (with_reducible rfl))
 (try simp only [tA, tS, tZ, Act.put, uA, uS, uZ])
 refine tk 15 (v := ?qvu675) ?qyu675 ?qru675; case qyu675 => ((intro w hSw; (try dsimp only at hSw); go_simp); try (with_reducible rfl))
 (try simp only [tA, tS, tZ, Act.put, uA, uS, uZ])
 refine tk 16 (v := ?qvu676) ?qyu676 ?qru676; case qyu676 => ((intro w hSw; (try dsimp only at hSw); go_simp); try (with_reducible rfl))
 (try simp only [tA, tS, tZ, Act.put, uA, uS, uZ])
 refine tk 17 (v := ?qvu677) ?qyu677 ?qru677; case qyu677 => ((intro w hSw; (try dsimp only at hSw); go_simp); try (with_reducible rfl))
 (try simp only [tA, tS, tZ, Act.put, uA, uS, uZ])
 refine tk 18 (v := ?qvu678) ?qyu678 ?qru678; case qyu678 => ((intro w hSw; (try dsimp only at hSw); go_simp); try (with_reducible rfl))
 (try simp only [tA, tS, tZ, Act.put, uA, uS, uZ])
 refine tk 19 (v := ?qvu679) ?qyu679 ?qru679; case qyu679 => ((intro w hSw; (try dsimp only at hSw); go_simp); try (with_reducible rfl))
 (try simp only [tA, tS, tZ, Act.put, uA, uS, uZ])
 refine wpAnyH_done (by kernel_rfl) ?_ _
 obtain ⟨wv, ewv⟩ : ∃ wv, w7.drew = wv := ⟨_, rfl⟩
 have K8 : Keep (fun _ => False) W wv := by rw [← ewv]; exact K7.drew
 rw [ewv]
 clear hHeld ewv
 go_upto_if 112 with fail
 go_cut [] from 113 to 123 (fun wx => RmTo W m vv sw sr (x.keepW s okey) wx)
 case first =>
  have kdd := (Keep.refl (fun _ => False) wv).drew
  have H9 := Lib.hid (H.out.same (K8.trans kdd))
  have OW6 := Lib.hid (OwnN.keep (OwnN.keep OW.out K8 (by simp)) kdd (by simp))
  rw [E4.out] at OW6
  have nn4 : n4 ≤ 1000 := by rw [← EN4.out]; exact FW.out
  have s4' := H9.out.s4 s hs
  rw [E4.out] at s4'
  have s4q : wv.cell? ⟨m, 3 + s * 6 + 4, none⟩ = some (.slice A4 n4 c4) := s4'
  have fz4 := H9.out.fz (3 + s * 6 + 4)
  have nm4 := Lib.hid (show ¬ (Value.slice A4 n4 c4).ownBlock = some m by have := H9.out.wm s hs; rwa [E4.out] at this)
  have ml4 := Lib.hid H9.out.mlt
  have nmM4 := Lib.hid (show ¬ (Value.slice A4 n4 c4).ownBlock = some M from fun q => FM.out (.inr (.inr ⟨s, hs, .inl (by rw [E4.out]; exact q)⟩)))
  have hHd0 : wv.cell? ⟨M, 1, none⟩ = some (.int .i64 okey) := K8.cell o1 id
  have hHd : wv.drew.cell? ⟨M, 1, none⟩ = some (.int .i64 okey) := hHd0
  have mlq : m < wv.heap.size := H9.out.mlt
  have ha : (wv.drew.alloc (.cells #[.int .i64 okey] 3)).cell? ⟨M, 1, none⟩ = some (.int .i64 okey) := ((Keep.refl (fun _ => False) wv.drew).alloc _).cell hHd id
  go_wp2_with fail
  refine wp_region_held_drew (S := fun w' => w'.cell? ⟨M, 1, none⟩ = some (.int .i64 okey)) (by kernel_rfl) hHd0 (fun hHeld => ?_)
  refine tk 0 (v := ?qvu680) ?qyu680 ?qru680; case qyu680 => ((intro w hSw; (try dsimp only at hSw); go_simp); try (with_reducible rfl))
  (try simp only [tA, tS, tZ, Act.put, uA, uS, uZ])
  refine tk 1 (v := ?qvu681) ?qyu681 ?qru681; case qyu681 => ((intro w hSw; (try dsimp only at hSw); go_simp); try (with_reducible rfl))
  (try simp only [tA, tS, tZ, Act.put, uA, uS, uZ])
  refine tk 2 (v := ?qvu682) ?qyu682 ?qru682; case qyu682 => ((intro w hSw; (try dsimp only at hSw); go_simp); try (with_reducible rfl))
  (try simp only [tA, tS, tZ, Act.put, uA, uS, uZ])
  refine tk 3 (v := ?qvu683) ?qyu683 ?qru683; case qyu683 => ((intro w hSw; (try dsimp only at hSw); go_simp); try (with_reducible rfl))
  (try simp only [tA, tS, tZ, Act.put, uA, uS, uZ])
  refine tk 5 (v := ?qvu684) ?qyu684 ?qru684; case qyu684 => ((intro w hSw; (try dsimp only at hSw); go_simp); try (with_reducible rfl))
  (try simp only [tA, tS, tZ, Act.put, uA, uS, uZ])
  refine tk 6 (v := ?qvu685) ?qyu685 ?qru685; case qyu685 => ((intro w hSw; (try dsimp only at hSw); go_simp); try (with_reducible rfl))
  (try simp only [tA, tS, tZ, Act.put, uA, uS, uZ])
  refine wpAnyH_ready (rs := [4, 7]) (by kernel_rfl) (by simp) ?_
  refine AllReadyH.cons rfl (fun K hK => ?_) (AllReadyH.cons rfl (fun K hK => ?_) AllReadyH.nil)
  ·go_simp
   refine hK.out _ _ hHeld (fun hHeld => ?_)
   clear hK K
   (try simp only [tA, tS, tZ, Act.put, uA, uS, uZ])
   refine wpAnyH_ready (rs := [7]) (by kernel_rfl) (by simp) ?_
   refine AllReadyH.cons rfl (fun K hK => ?_) AllReadyH.nil
   go_simp
   refine hK.out _ _ (((Keep.refl (fun _ => False) _).alloc _).cell hHeld id) (fun hHeld => ?_)
   clear hK K
   (try simp only [tA, tS, tZ, Act.put, uA, uS, uZ])
   refine wpAnyH_ready (rs := [8]) (by kernel_rfl) (by simp) ?_
   refine AllReadyH.cons rfl (fun K hK => ?_) AllReadyH.nil
   refine step_pushN rfl (.tmp 117) (.tmp 120) rfl _ t.wrote (by rfl) OW6.out okey rfl (by rw [EN4.out]; omega) ?_
   rintro g6 c6 y6 o6 k6 hg6
   have z4 := k6.cell s4' nm4.out
   have zf := (k6.frozen (a := ⟨m, 3 + s * 6 + 4, none⟩) ml4.out nm4.out).trans fz4
   refine hK.out _ _ (k6.cell hHd nmM4.out) (fun hHeld => ?_)
   clear hK K
   (try simp only [tA, tS, tZ, Act.put, uA, uS, uZ])
   refine tk 9 (v := ?qvu686) ?qyu686 ?qru686; case qyu686 => ((intro w hSw; (try dsimp only at hSw); go_simp); try (with_reducible rfl))
   (try simp only [tA, tS, tZ, Act.put, uA, uS, uZ])
   refine tk 10 (v := ?qvu687) ?qyu687 ?qru687; case qyu687 => ((intro w hSw; (try dsimp only at hSw); go_simp); try (with_reducible rfl))
   (try simp only [tA, tS, tZ, Act.put, uA, uS, uZ])
   refine wpAnyH_ready (rs := [11]) (by kernel_rfl) (by simp) ?_
   refine AllReadyH.cons rfl (fun K hK => ?_) AllReadyH.nil
   go_simp
   refine hK.out _ _ ((keep_one y6 ⟨m, 3 + s * 6 + 4, none⟩ _).cell hHeld (fun e => by have e : M = m := e; omega)) (fun hHeld => ?_)
   clear hK K
   (try simp only [tA, tS, tZ, Act.put, uA, uS, uZ])
   refine wpAnyH_done (by kernel_rfl) ?_ _
   have AR := (H9.out.addW hs okey (a := .slice (some ⟨g6, 0, none⟩) (t.wrote.length + 1) c6) (y4 := y6) (by rw [E4.out]; exact k6) (by rw [ET.out]; exact o6) (by rw [E4.out]; intro g e; cases e; exact hg6)).front (K8.trans kdd)
   go_wp2_with fail
   go_meet
   exact AR
  ·go_simp
   refine hK.out _ _ ha (fun hHeld => ?_)
   clear hK K
   (try simp only [tA, tS, tZ, Act.put, uA, uS, uZ])
   refine wpAnyH_ready (rs := [4]) (by kernel_rfl) (by simp) ?_
   refine AllReadyH.cons rfl (fun K hK => ?_) AllReadyH.nil
   go_simp
   refine hK.out _ _ ha (fun hHeld => ?_)
   clear hK K
   (try simp only [tA, tS, tZ, Act.put, uA, uS, uZ])
   refine wpAnyH_ready (rs := [8]) (by kernel_rfl) (by simp) ?_
   refine AllReadyH.cons rfl (fun K hK => ?_) AllReadyH.nil
   refine step_pushN rfl (.tmp 117) (.tmp 120) rfl _ t.wrote (by rfl) OW6.out okey rfl (by rw [EN4.out]; omega) ?_
   rintro g6 c6 y6 o6 k6 hg6
   have z4 := k6.cell s4' nm4.out
   have zf := (k6.frozen (a := ⟨m, 3 + s * 6 + 4, none⟩) ml4.out nm4.out).trans fz4
   refine hK.out _ _ (k6.cell hHd nmM4.out) (fun hHeld => ?_)
   clear hK K
   (try simp only [tA, tS, tZ, Act.put, uA, uS, uZ])
   refine tk 9 (v := ?qvu688) ?qyu688 ?qru688; case qyu688 => ((intro w hSw; (try dsimp only at hSw); go_simp); try (with_reducible rfl))
   (try simp only [tA, tS, tZ, Act.put, uA, uS, uZ])
   refine tk 10 (v := ?qvu689) ?qyu689 ?qru689; case qyu689 => ((intro w hSw; (try dsimp only at hSw); go_simp); try (with_reducible rfl))
   (try simp only [tA, tS, tZ, Act.put, uA, uS, uZ])
   refine wpAnyH_ready (rs := [11]) (by kernel_rfl) (by simp) ?_
   refine AllReadyH.cons rfl (fun K hK => ?_) AllReadyH.nil
   go_simp
   refine hK.out _ _ ((keep_one y6 ⟨m, 3 + s * 6 + 4, none⟩ _).cell hHeld (fun e => by have e : M = m := e; omega)) (fun hHeld => ?_)
   clear hK K
   (try simp only [tA, tS, tZ, Act.put, uA, uS, uZ])
   refine wpAnyH_done (by kernel_rfl) ?_ _
   have AR := (H9.out.addW hs okey (a := .slice (some ⟨g6, 0, none⟩) (t.wrote.length + 1) c6) (y4 := y6) (by rw [E4.out]; exact k6) (by rw [ET.out]; exact o6) (by rw [E4.out]; intro g e; cases e; exact hg6)).front (K8.trans kdd)
   go_wp2_with fail
   go_meet
   exact AR
 case rest =>
  obtain ⟨vv1, sw1, sr1, a1, a2, a3⟩ := hcut
  have HC := Lib.hid a1
  have KC := Lib.hid a2
  have FC := Lib.hid a3
  have m0 := a2.cell o0 FM.out
  have m1 := a2.cell o1 FM.out
  have m3 := a2.cell o3 FM.out
  obtain ⟨Av1, cv1, ev1, hcv1, _⟩ := a1.vers
  have nv1 : (x.keepW s okey).v.length = nv := ENV.out
  rw [nv1] at ev1 hcv1
  subst ev1
  have c2 := a1.c2
  have sid : wc.cell? ⟨m, 3 + s * 6, none⟩ = some (.int .i64 t.id) := by have := a1.s0 s hs; rw [show ((x.keepW s okey).s s).id = t.id from by unfold MoI.keepW; show (putS x.s s _ s).id = _; rw [putS_self, ET.out]] at this; exact this
  have kdd := (Keep.refl (fun _ => False) wc).drew
  have HC9 := Lib.hid (a1.same kdd)
  have OV6 := Lib.hid HC9.out.ov
  obtain ⟨VL, eVL⟩ : ∃ VL, (x.keepW s okey).v = VL := ⟨_, rfl⟩
  rw [eVL] at OV6
  have EVL := Lib.hid eVL
  have lvl : VL.length = nv := by rw [← eVL]; exact nv1
  have LVL := Lib.hid lvl
  have nnv : nv ≤ 1000 := by rw [← ENV.out]; exact FV.out
  have nnl : VL.length ≤ 1000 := by omega
  have c2' := HC9.out.c2
  have fz2 := HC9.out.fz 2
  have nmv := Lib.hid (show ¬ (Value.slice Av1 nv cv1).ownBlock = some m from HC9.out.vm)
  have mlv := Lib.hid HC9.out.mlt
  have nmMv := Lib.hid (show ¬ (Value.slice Av1 nv cv1).ownBlock = some M from fun q => by
   rcases FC.out M (.inr (.inl q)) with e | e
   ·exact FM.out e
   ·have := hNW; have := HMN.out; omega)
  have hHd0 : wc.cell? ⟨M, 1, none⟩ = some (.int .i64 okey) ∧ wc.cell? ⟨M, 3, none⟩ = some (.int .i64 oval) ∧ wc.cell? ⟨m, 3 + s * 6, none⟩ = some (.int .i64 t.id) := ⟨m1, m3, sid⟩
  have hHdv : wc.drew.cell? ⟨M, 1, none⟩ = some (.int .i64 okey) ∧ wc.drew.cell? ⟨M, 3, none⟩ = some (.int .i64 oval) ∧ wc.drew.cell? ⟨m, 3 + s * 6, none⟩ = some (.int .i64 t.id) := hHd0
  have ka := (Keep.refl (fun _ => False) wc.drew).alloc (.cells #[.int .i64 okey, .int .i64 oval, .int .i64 t.id, .int .i64 0, .int .u64 0, .int .u64 0, .bool false] 119)
  have hav : (wc.drew.alloc (.cells #[.int .i64 okey, .int .i64 oval, .int .i64 t.id, .int .i64 0, .int .u64 0, .int .u64 0, .bool false] 119)).cell? ⟨M, 1, none⟩ = some (.int .i64 okey) ∧ (wc.drew.alloc (.cells #[.int .i64 okey, .int .i64 oval, .int .i64 t.id, .int .i64 0, .int .u64 0, .int .u64 0, .bool false] 119)).cell? ⟨M, 3, none⟩ = some (.int .i64 oval) ∧ (wc.drew.alloc (.cells #[.int .i64 okey, .int .i64 oval, .int .i64 t.id, .int .i64 0, .int .u64 0, .int .u64 0, .bool false] 119)).cell? ⟨m, 3 + s * 6, none⟩ = some (.int .i64 t.id) := ⟨ka.cell hHdv.1 id, ka.cell hHdv.2.1 id, ka.cell hHdv.2.2 id⟩
  have hav := hav
  have mlc : m < wc.heap.size := a1.mlt
  have RB9 := Lib.hid ((RB.out.keep a2 FN.out).keep kdd id)
  clear a1 a2 a3 eVL nv1 lvl ka
  go_wp2_with fail
  refine wp_region_held_drew (S := fun w' => w'.cell? ⟨M, 1, none⟩ = some (.int .i64 okey) ∧ w'.cell? ⟨M, 3, none⟩ = some (.int .i64 oval) ∧ w'.cell? ⟨m, 3 + s * 6, none⟩ = some (.int .i64 t.id)) (by kernel_rfl) hHd0 (fun hHeld => ?_)
  refine tk 0 (v := ?qvu690) ?qyu690 ?qru690; case qyu690 => ((intro w hSw; (try dsimp only at hSw); go_simp); try (with_reducible rfl))
  (try simp only [tA, tS, tZ, Act.put, uA, uS, uZ])
  refine tk 1 (v := ?qvu691) ?qyu691 ?qru691; case qyu691 => ((intro w hSw; (try dsimp only at hSw); go_simp); try (with_reducible rfl))
  (try simp only [tA, tS, tZ, Act.put, uA, uS, uZ])
  refine tk 2 (v := ?qvu692) ?qyu692 ?qru692; case qyu692 => ((intro w hSw; (try dsimp only at hSw); go_simp); try (with_reducible rfl))
  (try simp only [tA, tS, tZ, Act.put, uA, uS, uZ])
  refine tk 3 (v := ?qvu693) ?qyu693 ?qru693; case qyu693 => ((intro w hSw; (try dsimp only at hSw); go_simp); try (with_reducible rfl))
  (try simp only [tA, tS, tZ, Act.put, uA, uS, uZ])
  refine tk 5 (v := ?qvu694) ?qyu694 ?qru694; case qyu694 => ((intro w hSw; (try dsimp only at hSw); go_simp); try (with_reducible rfl))
  (try simp only [tA, tS, tZ, Act.put, uA, uS, uZ])
  refine tk 6 (v := ?qvu695) ?qyu695 ?qru695; case qyu695 => ((intro w hSw; (try dsimp only at hSw); go_simp); try (with_reducible rfl))
  (try simp only [tA, tS, tZ, Act.put, uA, uS, uZ])
  refine tk 7 (v := ?qvu696) ?qyu696 ?qru696; case qyu696 => ((intro w hSw; (try dsimp only at hSw); go_simp); try (with_reducible rfl))
  (try simp only [tA, tS, tZ, Act.put, uA, uS, uZ])
  refine tk 8 (v := ?qvu697) ?qyu697 ?qru697; case qyu697 => ((intro w hSw; (try dsimp only at hSw); go_simp); try (with_reducible rfl))
  (try simp only [tA, tS, tZ, Act.put, uA, uS, uZ])
  refine tk 9 (v := ?qvu698) ?qyu698 ?qru698; case qyu698 => ((intro w hSw; (try dsimp only at hSw); go_simp); try (with_reducible rfl))
  (try simp only [tA, tS, tZ, Act.put, uA, uS, uZ])
  refine tk 10 (v := ?qvu699) ?qyu699 ?qru699; case qyu699 => ((intro w hSw; (try dsimp only at hSw); go_simp); try (with_reducible rfl))
  (try simp only [tA, tS, tZ, Act.put, uA, uS, uZ])
  refine tk 11 (v := ?qvu700) ?qyu700 ?qru700; case qyu700 => ((intro w hSw; (try dsimp only at hSw); go_simp); try (with_reducible rfl))
  (try simp only [tA, tS, tZ, Act.put, uA, uS, uZ])
  refine tk 12 (v := ?qvu701) ?qyu701 ?qru701; case qyu701 => ((intro w hSw; (try dsimp only at hSw); go_simp); try (with_reducible rfl))
  (try simp only [tA, tS, tZ, Act.put, uA, uS, uZ])
  refine tk 13 (v := ?qvu702) ?qyu702 ?qru702; case qyu702 => ((intro w hSw; (try dsimp only at hSw); go_simp); try (with_reducible rfl))
  (try simp only [tA, tS, tZ, Act.put, uA, uS, uZ])
  refine wpAnyH_ready (rs := [4, 14]) (by kernel_rfl) (by simp) ?_
  refine AllReadyH.cons rfl (fun K hK => ?_) (AllReadyH.cons rfl (fun K hK => ?_) AllReadyH.nil)
  ·go_simp
   refine hK.out _ _ hHeld (fun hHeld => ?_)
   clear hK K
   (try simp only [tA, tS, tZ, Act.put, uA, uS, uZ])
   refine wpAnyH_ready (rs := [14]) (by kernel_rfl) (by simp) ?_
   refine AllReadyH.cons rfl (fun K hK => ?_) AllReadyH.nil
   go_simp
   refine hK.out _ _ ⟨((Keep.refl (fun _ => False) _).alloc _).cell hHeld.1 id, ((Keep.refl (fun _ => False) _).alloc _).cell hHeld.2.1 id, ((Keep.refl (fun _ => False) _).alloc _).cell hHeld.2.2 id⟩ (fun hHeld => ?_)
   clear hK K
   (try simp only [tA, tS, tZ, Act.put, uA, uS, uZ])
   refine wpAnyH_ready (rs := [15]) (by kernel_rfl) (by simp) ?_
   refine AllReadyH.cons rfl (fun K hK => ?_) AllReadyH.nil
   refine step_pushM Try.underlying76 info_vr rfl (by decide) (by decide) vrC_len vr_one rfl (.tmp 146) (.tmp 156) rfl _ VL (by rfl) OV6.out ⟨okey, oval, t.id, 0, 0, 0, false⟩ rfl (by omega) ?_
   rintro g8 c8 y8 o8 k8 hg8
   have z8 := k8.cell c2' nmv.out
   have zf := (k8.frozen (a := ⟨m, 2, none⟩) mlv.out nmv.out).trans fz2
   refine hK.out _ _ ⟨k8.cell hHdv.1 nmMv.out, k8.cell hHdv.2.1 nmMv.out, k8.cell hHdv.2.2 nmv.out⟩ (fun hHeld => ?_)
   clear hK K
   (try simp only [tA, tS, tZ, Act.put, uA, uS, uZ])
   refine tk 16 (v := ?qvu703) ?qyu703 ?qru703; case qyu703 => ((intro w hSw; (try dsimp only at hSw); go_simp); try (with_reducible rfl))
   (try simp only [tA, tS, tZ, Act.put, uA, uS, uZ])
   refine tk 17 (v := ?qvu704) ?qyu704 ?qru704; case qyu704 => ((intro w hSw; (try dsimp only at hSw); go_simp); try (with_reducible rfl))
   (try simp only [tA, tS, tZ, Act.put, uA, uS, uZ])
   refine wpAnyH_ready (rs := [18]) (by kernel_rfl) (by simp) ?_
   refine AllReadyH.cons rfl (fun K hK => ?_) AllReadyH.nil
   go_simp
   refine hK.out _ _ ⟨(keep_one y8 ⟨m, 2, none⟩ _).cell hHeld.1 (fun e => by have e : M = m := e; omega), (keep_one y8 ⟨m, 2, none⟩ _).cell hHeld.2.1 (fun e => by have e : M = m := e; omega), (by rw [World.cell?_setCell_other _ _ _ _ (by first | (simp; done) | (simp; omega))]; exact hHeld.2.2)⟩ (fun hHeld => ?_)
   clear hK K
   (try simp only [tA, tS, tZ, Act.put, uA, uS, uZ])
   refine wpAnyH_done (by kernel_rfl) ?_ _
   have AV := HC9.out.addV ⟨okey, oval, t.id, 0, 0, 0, false⟩ (b := .slice (some ⟨g8, 0, none⟩) (VL.length + 1) c8) (y8 := y8) k8 (by rw [EVL.out]; exact o8) (by intro g e; cases e; exact hg8)
   obtain ⟨wz, ez⟩ : ∃ wz, y8.setCell ⟨m, 2, none⟩ (.slice (some ⟨g8, 0, none⟩) (VL.length + 1) c8) = wz := ⟨_, rfl⟩
   rw [ez] at AV ⊢
   have R6 := Lib.hid (RB9.out.keep AV.keeps (fun q => by
    rcases FC.out N q with e | e
    ·exact FN.out e
    ·omega))
   obtain ⟨q0, q1, q2, q3, q4, q5⟩ := R6.out
   have AVH := Lib.hid AV
   have KCD := Lib.hid (KC.out.trans (kdd.mono (fun _ e => e.elim)))
   clear AV ez k8 o8 hg8 z8 zf
   go_wp2
   (obtain ⟨W7, eW7⟩ : ∃ W7, (((((wz.setCell ⟨N, 0, none⟩ (.int .i64 0)).setCell ⟨N, 1, none⟩ (.int .i64 0)).setCell ⟨N, 2, none⟩ (.slice none 0 0)).setCell ⟨N, 3, none⟩ (.int .i64 0)).setCell ⟨N, 4, none⟩ (.int .i64 0)) = W7 := ⟨_, rfl⟩; obtain ⟨⟨v0, v1, v2, v3, v4, _⟩, k7⟩ := res_set R6.out _ _ _ _ _ eW7; rw [eW7]; refine bodyPost_ret (v := .agg #[.int .i64 0, .int .i64 0, .slice none 0 0, .int .i64 0, .int .i64 0]) (by simp [results, Try.results65, go_sem, v0, v1, v2, v3, v4]) rfl ⟨rfl, ?_⟩)
   have TT : RmTo W m vv sw sr z wz := by
    have t1 : RmTo W m vv sw sr { x.keepW s okey with v := (x.keepW s okey).v ++ [⟨okey, oval, t.id, 0, 0, 0, false⟩] } wz := by
     obtain ⟨b1, b2, b3, h1, h2, h3⟩ := AVH.out
     exact ⟨b1, b2, b3, h1, KCD.out.onew h2 FC.out, fun g hg => by
      rcases h3 g hg with q | q
      ·exact FC.out g q
      ·right; have := KCD.out.size; omega⟩
    rw [show z = { x.keepW s okey with v := (x.keepW s okey).v ++ [⟨okey, oval, t.id, 0, 0, 0, false⟩] } from by rw [← HZ.out, if_neg HNO.out]; rfl] 
    exact t1
   exact TT.fin KW.out (by have := EM.out; have := HMN.out; omega) hNW FN.out k7
  ·go_simp
   refine hK.out _ _ hav (fun hHeld => ?_)
   clear hK K
   (try simp only [tA, tS, tZ, Act.put, uA, uS, uZ])
   refine wpAnyH_ready (rs := [4]) (by kernel_rfl) (by simp) ?_
   refine AllReadyH.cons rfl (fun K hK => ?_) AllReadyH.nil
   go_simp
   refine hK.out _ _ hav (fun hHeld => ?_)
   clear hK K
   (try simp only [tA, tS, tZ, Act.put, uA, uS, uZ])
   refine wpAnyH_ready (rs := [15]) (by kernel_rfl) (by simp) ?_
   refine AllReadyH.cons rfl (fun K hK => ?_) AllReadyH.nil
   refine step_pushM Try.underlying76 info_vr rfl (by decide) (by decide) vrC_len vr_one rfl (.tmp 146) (.tmp 156) rfl _ VL (by rfl) OV6.out ⟨okey, oval, t.id, 0, 0, 0, false⟩ rfl (by omega) ?_
   rintro g8 c8 y8 o8 k8 hg8
   have z8 := k8.cell c2' nmv.out
   have zf := (k8.frozen (a := ⟨m, 2, none⟩) mlv.out nmv.out).trans fz2
   refine hK.out _ _ ⟨k8.cell hHdv.1 nmMv.out, k8.cell hHdv.2.1 nmMv.out, k8.cell hHdv.2.2 nmv.out⟩ (fun hHeld => ?_)
   clear hK K
   (try simp only [tA, tS, tZ, Act.put, uA, uS, uZ])
   refine tk 16 (v := ?qvu705) ?qyu705 ?qru705; case qyu705 => ((intro w hSw; (try dsimp only at hSw); go_simp); try (with_reducible rfl))
   (try simp only [tA, tS, tZ, Act.put, uA, uS, uZ])
   refine tk 17 (v := ?qvu706) ?qyu706 ?qru706; case qyu706 => ((intro w hSw; (try dsimp only at hSw); go_simp); try (with_reducible rfl))
   (try simp only [tA, tS, tZ, Act.put, uA, uS, uZ])
   refine wpAnyH_ready (rs := [18]) (by kernel_rfl) (by simp) ?_
   refine AllReadyH.cons rfl (fun K hK => ?_) AllReadyH.nil
   go_simp
   refine hK.out _ _ ⟨(keep_one y8 ⟨m, 2, none⟩ _).cell hHeld.1 (fun e => by have e : M = m := e; omega), (keep_one y8 ⟨m, 2, none⟩ _).cell hHeld.2.1 (fun e => by have e : M = m := e; omega), (by rw [World.cell?_setCell_other _ _ _ _ (by first | (simp; done) | (simp; omega))]; exact hHeld.2.2)⟩ (fun hHeld => ?_)
   clear hK K
   (try simp only [tA, tS, tZ, Act.put, uA, uS, uZ])
   refine wpAnyH_done (by kernel_rfl) ?_ _
   have AV := HC9.out.addV ⟨okey, oval, t.id, 0, 0, 0, false⟩ (b := .slice (some ⟨g8, 0, none⟩) (VL.length + 1) c8) (y8 := y8) k8 (by rw [EVL.out]; exact o8) (by intro g e; cases e; exact hg8)
   obtain ⟨wz, ez⟩ : ∃ wz, y8.setCell ⟨m, 2, none⟩ (.slice (some ⟨g8, 0, none⟩) (VL.length + 1) c8) = wz := ⟨_, rfl⟩
   rw [ez] at AV ⊢
   have R6 := Lib.hid (RB9.out.keep AV.keeps (fun q => by
    rcases FC.out N q with e | e
    ·exact FN.out e
    ·omega))
   obtain ⟨q0, q1, q2, q3, q4, q5⟩ := R6.out
   have AVH := Lib.hid AV
   have KCD := Lib.hid (KC.out.trans (kdd.mono (fun _ e => e.elim)))
   clear AV ez k8 o8 hg8 z8 zf
   go_wp2
   (obtain ⟨W7, eW7⟩ : ∃ W7, (((((wz.setCell ⟨N, 0, none⟩ (.int .i64 0)).setCell ⟨N, 1, none⟩ (.int .i64 0)).setCell ⟨N, 2, none⟩ (.slice none 0 0)).setCell ⟨N, 3, none⟩ (.int .i64 0)).setCell ⟨N, 4, none⟩ (.int .i64 0)) = W7 := ⟨_, rfl⟩; obtain ⟨⟨v0, v1, v2, v3, v4, _⟩, k7⟩ := res_set R6.out _ _ _ _ _ eW7; rw [eW7]; refine bodyPost_ret (v := .agg #[.int .i64 0, .int .i64 0, .slice none 0 0, .int .i64 0, .int .i64 0]) (by simp [results, Try.results65, go_sem, v0, v1, v2, v3, v4]) rfl ⟨rfl, ?_⟩)
   have TT : RmTo W m vv sw sr z wz := by
    have t1 : RmTo W m vv sw sr { x.keepW s okey with v := (x.keepW s okey).v ++ [⟨okey, oval, t.id, 0, 0, 0, false⟩] } wz := by
     obtain ⟨b1, b2, b3, h1, h2, h3⟩ := AVH.out
     exact ⟨b1, b2, b3, h1, KCD.out.onew h2 FC.out, fun g hg => by
      rcases h3 g hg with q | q
      ·exact FC.out g q
      ·right; have := KCD.out.size; omega⟩
    rw [show z = { x.keepW s okey with v := (x.keepW s okey).v ++ [⟨okey, oval, t.id, 0, 0, 0, false⟩] } from by rw [← HZ.out, if_neg HNO.out]; rfl] 
    exact t1
   exact TT.fin KW.out (by have := EM.out; have := HMN.out; omega) hNW FN.out k7
end
end Go.Proofs.Ytkkjofefjepodaa
/- The document's own Model, seventeenth part: an insert of one's own key, in its own version. -/
namespace Go.Proofs.Ytkkjofefjepodaa
open Go.ChangeShapes Go.WideShapes Go.ChangeAt Go.RowKit
set_option linter.unusedVariables false
set_option linter.unusedSimpArgs false
section
variable {w w' W : World} {m : Nat} {vv vv' : Value} {sw sr sw' sr' : Nat → Value} {x y : MoI} {T : Nat → Prop}
set_option maxRecDepth 100000 in
set_option maxHeartbeats 8000000 in
theorem rwrite_insC (h : RmAt w m vv sw sr x) (f : Few x) (s : Nat) (hs : s < 8) (o : OpI) (hk : o.kind = 2) (j : Nat) (hat : seesI x.v (x.s s).id (x.s s).start o.key = none) (hin : o.key ∈ (x.s s).wrote) (hown : x.v.findIdx? (ownV (x.s s).id o.key) = some j) (z : MoI)
  (hz : ({ (if o.key ∈ (x.s s).wrote then x else x.keepW s o.key) with v := MoI.wroteV x.v (x.s s).id o none (x.v.findIdx? (ownV (x.s s).id o.key)) } : MoI) = z) :
  Calls Try.prog 65 #[.pointer (some ⟨m, 0, none⟩), .int .i64 s, opV o] w (DidR w m vv sw sr re0 z) := by
 obtain ⟨W1, eW1, ob, kW1⟩ := op_box w o
 obtain ⟨W, eW, rb, kW2⟩ := res_box W1
 have kW := kW1.trans kW2
 have fM : ¬ FootR m vv sw sr w.heap.size := fun q => by have := h.lt _ q; omega
 have fN : ¬ FootR m vv sw sr W1.heap.size := fun q => by have := h.lt _ q; have := kW1.size; omega
 have hmw := h.mlt
 have H := Lib.hid (h.same kW)
 obtain ⟨Av, cv, evv, hcv, _⟩ := h.vers
 obtain ⟨nv, env⟩ : ∃ n, x.v.length = n := ⟨_, rfl⟩
 rw [env] at evv hcv
 have EVV := Lib.hid evv
 have ENV := Lib.hid env
 clear evv env
 have s0 := H.out.s0 s hs
 have s1 := H.out.s1 s hs
 have s2 := H.out.s2 s hs
 have s3 := H.out.s3 s hs
 have s4 := H.out.s4 s hs
 have s5 := H.out.s5 s hs
 obtain ⟨A4, c4, e4⟩ := own_n _ _ _ (H.out.ow s hs)
 obtain ⟨A5, c5, e5⟩ := own_r _ _ _ (H.out.or' s hs)
 obtain ⟨t, et⟩ : ∃ t, x.s s = t := ⟨_, rfl⟩
 have OW := Lib.hid (H.out.ow s hs)
 have OR5 := Lib.hid (H.out.or' s hs)
 have FW := Lib.hid (f.w s hs)
 have FRS := Lib.hid (f.r s hs).1
 rw [et] at s0 s1 s2 s3 e4 e5 OW OR5 FW
 have ET := Lib.hid et
 obtain ⟨n4, en4⟩ : ∃ n, t.wrote.length = n := ⟨_, rfl⟩
 obtain ⟨n5, en5⟩ : ∃ n, t.reads.length = n := ⟨_, rfl⟩
 rw [en4] at e4
 rw [en5] at e5
 rw [e4] at s4
 rw [e5] at s5
 have E4 := Lib.hid e4
 have E5 := Lib.hid e5
 have EN4 := Lib.hid en4
 have EN5 := Lib.hid en5
 obtain ⟨M, eM⟩ : ∃ M, w.heap.size = M := ⟨_, rfl⟩
 obtain ⟨N, eN⟩ : ∃ N, W1.heap.size = N := ⟨_, rfl⟩
 have hMN : N = M + 1 := by rw [← eN, ← eW1, World.size_alloc, eM]
 have HMN := Lib.hid hMN
 have EM := Lib.hid eM
 have ES := Lib.hid eN
 have hNW : N < W.heap.size := by rw [← eW, World.size_alloc, eN]; exact Nat.lt_succ_self _
 rw [eM] at ob fM hmw
 rw [eN] at rb fN
 have OB := Lib.hid (ob.keep kW2 (fun e => e))
 have RB := Lib.hid rb
 have FM := Lib.hid fM
 have FN := Lib.hid fN
 have KW := Lib.hid kW
 have FV := Lib.hid f.v
 obtain ⟨o0, o1, o2, o3⟩ := OB.out
 obtain ⟨at', eat⟩ : ∃ at', seesI x.v t.id t.start o.key = at' := ⟨_, rfl⟩
 obtain ⟨mine, emi⟩ : ∃ b, decide (o.key ∈ t.wrote) = b := ⟨_, rfl⟩
 have EAT := Lib.hid eat
 have EMI := Lib.hid emi
 have HS := Lib.hid (fun (wx : World) (k : Keep (fun _ => False) W wx) => rsees_any (H.out.same k) (Nat.le_trans FV.out (by omega)) t (sw s) (sr s) o.key)
 have HW := Lib.hid (fun (wx : World) (k : Keep (fun _ => False) W wx) => rhas_any (OwnN.keep OW.out k (by simp)) (Nat.le_trans FW.out (by omega)) o.key mine EMI.out)
 rw [EAT.out, E4.out, E5.out] at HS
 rw [E4.out] at HW
 unfold txV at HS
 have HOW := Lib.hid (fun (wx : World) (k : Keep (fun _ => False) W wx) => rown_any (H.out.same k) (Nat.le_trans FV.out (by omega)) t.id o.key)
 obtain ⟨ok, okey, ohi, oval⟩ := o
 rw [ET.out] at hin hown hat hz
 obtain rfl : none = at' := by rw [← EAT.out]; exact hat.symm
 have hown' : x.v.findIdx? (ownV t.id (OpI.key ⟨ok, okey, ohi, oval⟩)) = (some j) := hown
 rw [hown'] at HOW
 rw [hown] at hz
 obtain rfl : ok = 2 := hk
 have di : idxV none = -1 := rfl
 have HZ := Lib.hid hz
 have EKK := Lib.hid hown
 have HNO := Lib.hid hin
 clear hown' hown hz hat hin
 have dj0 : (0 : Int) ≤ (j : Int) := by omega
 have dj : idxV (some j) = (j : Int) := rfl
 have dj1 : decide ((j : Int) < 0) = false := decide_eq_false (by omega)
 have dj2 : decide ((0 : Int) ≤ (j : Int)) = true := decide_eq_true dj0
 have lj : j < x.v.length := (List.findIdx?_eq_some_iff_getElem.1 EKK.out).1
 obtain ⟨y, hy⟩ : ∃ y, x.v[j]? = some y := ⟨_, List.getElem?_eq_getElem lj⟩
 have HY := Lib.hid hy
 have LJ := Lib.hid lj
 have ljn : j < nv := by rw [← ENV.out]; exact lj
 have ljn2 : (j : Int) < (nv : Int) := by omega
 clear hy lj
 clear hMN h ob rb fM fN f et e4 e5 en4 en5 eat emi kW kW1 kW2
 unfold DidR opV
 go_enter Try.func65, Try.ntmps65
 go_wp2_with fail
 refine wp_region_held_drew (S := fun w' => w'.cell? ⟨m, 3 + s * 6, none⟩ = some (.int .i64 t.id) ∧ w'.cell? ⟨m, 3 + s * 6 + 1, none⟩ = some (.int .i64 t.level) ∧ w'.cell? ⟨m, 3 + s * 6 + 2, none⟩ = some (.int .i64 t.ops) ∧ w'.cell? ⟨m, 3 + s * 6 + 3, none⟩ = some (.int .u64 t.start) ∧ w'.cell? ⟨m, 3 + s * 6 + 4, none⟩ = some (.slice A4 n4 c4) ∧ w'.cell? ⟨m, 3 + s * 6 + 5, none⟩ = some (.slice A5 n5 c5) ∧ w'.cell? ⟨M, 1, none⟩ = some (.int .i64 okey)) (by kernel_rfl) ⟨s0, s1, s2, s3, s4, s5, o1⟩ (fun hHeld => ?_)
 refine tk 0 (v := ?qvu777) ?qyu777 ?qru777; case qyu777 => ((intro w hSw; (try dsimp only at hSw); go_simp); try (with_reducible rfl))
 (try simp only [tA, tS, tZ, Act.put, uA, uS, uZ])
 refine tk 1 (v := ?qvu778) ?qyu778 ?qru778; case qyu778 => ((intro w hSw; (try dsimp only at hSw); go_simp); try (with_reducible rfl))
 (try simp only [tA, tS, tZ, Act.put, uA, uS, uZ])
 refine tk 2 (v := ?qvu779) ?qyu779 ?qru779; case qyu779 => ((intro w hSw; (try dsimp only at hSw); go_simp); try (with_reducible rfl))
 (try simp only [tA, tS, tZ, Act.put, uA, uS, uZ])
 refine tk 3 (v := ?qvu780) ?qyu780 ?qru780; case qyu780 => ((intro w hSw; (try dsimp only at hSw); go_simp); try (with_reducible rfl))
 (try simp only [tA, tS, tZ, Act.put, uA, uS, uZ])
 refine tk 4 (v := ?qvu781) ?qyu781 ?qru781; case qyu781 => ((intro w hSw; (try dsimp only at hSw); go_simp); try (with_reducible rfl))
 (try simp only [tA, tS, tZ, Act.put, uA, uS, uZ])
 refine tk 5 (v := ?qvu782) ?qyu782 ?qru782; case qyu782 => ((intro w hSw; (try dsimp only at hSw); go_simp); try (with_reducible rfl))
 (try simp only [tA, tS, tZ, Act.put, uA, uS, uZ])
 refine wpAnyH_ready (rs := [6]) (by kernel_rfl) (by simp) ?_
 refine AllReadyH.cons rfl (fun K hK => ?_) AllReadyH.nil
 go_simp
 refine (HS.out _ ((Keep.refl _ W).drew)).mono ?_
 rintro e w3 ⟨rfl, k3⟩
 refine hK.out _ _ ⟨k3.cell hHeld.1 id, k3.cell hHeld.2.1 id, k3.cell hHeld.2.2.1 id, k3.cell hHeld.2.2.2.1 id, k3.cell hHeld.2.2.2.2.1 id, k3.cell hHeld.2.2.2.2.2.1 id, k3.cell hHeld.2.2.2.2.2.2 id⟩ (fun hHeld => ?_)
 clear hK K
 (try simp only [tA, tS, tZ, Act.put, uA, uS, uZ])
 refine tk 7 (v := ?qvu783) ?qyu783 ?qru783; case qyu783 => ((intro w hSw; (try dsimp only at hSw); go_simp); try (with_reducible rfl))
 (try simp only [tA, tS, tZ, Act.put, uA, uS, uZ])
 refine wpAnyH_done (by kernel_rfl) ?_ _
 have K3 : Keep (fun _ => False) W w3 := ((Keep.refl _ W).drew).trans k3
 clear hHeld
 go_wp2_with fail
 refine wp_region_held_drew (S := fun w' => w'.cell? ⟨m, 3 + s * 6 + 4, none⟩ = some (.slice A4 n4 c4) ∧ w'.cell? ⟨M, 1, none⟩ = some (.int .i64 okey)) (by kernel_rfl) ⟨K3.cell s4 id, K3.cell o1 id⟩ (fun hHeld => ?_)
 refine tk 0 (v := ?qvu784) ?qyu784 ?qru784; case qyu784 => ((intro w hSw; (try dsimp only at hSw); go_simp); try (with_reducible rfl))
 (try simp only [tA, tS, tZ, Act.put, uA, uS, uZ])
 refine tk 1 (v := ?qvu785) ?qyu785 ?qru785; case qyu785 => ((intro w hSw; (try dsimp only at hSw); go_simp); try (with_reducible rfl))
 (try simp only [tA, tS, tZ, Act.put, uA, uS, uZ])
 refine tk 2 (v := ?qvu786) ?qyu786 ?qru786; case qyu786 => ((intro w hSw; (try dsimp only at hSw); go_simp); try (with_reducible rfl))
 (try simp only [tA, tS, tZ, Act.put, uA, uS, uZ])
 refine tk 3 (v := ?qvu787) ?qyu787 ?qru787; case qyu787 => ((intro w hSw; (try dsimp only at hSw); go_simp); try (with_reducible rfl))
 (try simp only [tA, tS, tZ, Act.put, uA, uS, uZ])
 refine tk 4 (v := ?qvu788) ?qyu788 ?qru788; case qyu788 => ((intro w hSw; (try dsimp only at hSw); go_simp); try (with_reducible rfl))
 (try simp only [tA, tS, tZ, Act.put, uA, uS, uZ])
 refine tk 5 (v := ?qvu789) ?qyu789 ?qru789; case qyu789 => ((intro w hSw; (try dsimp only at hSw); go_simp); try (with_reducible rfl))
 (try simp only [tA, tS, tZ, Act.put, uA, uS, uZ])
 refine wpAnyH_ready (rs := [6]) (by kernel_rfl) (by simp) ?_
 refine AllReadyH.cons rfl (fun K hK => ?_) AllReadyH.nil
 go_simp
 refine (HW.out _ (K3.drew)).mono ?_
 rintro e w4 ⟨rfl, rfl⟩
 refine hK.out _ _ hHeld (fun hHeld => ?_)
 clear hK K
 (try simp only [tA, tS, tZ, Act.put, uA, uS, uZ])
 refine tk 7 (v := ?qvu790) ?qyu790 ?qru790; case qyu790 => ((intro w hSw; (try dsimp only at hSw); go_simp); try (with_reducible rfl))
 (try simp only [tA, tS, tZ, Act.put, uA, uS, uZ])
 refine wpAnyH_done (by kernel_rfl) ?_ _
 have K4 : Keep (fun _ => False) W w3.drew := K3.drew
 clear hHeld
 obtain ⟨wq, ewq⟩ : ∃ wq, w3.drew = wq := ⟨_, rfl⟩
 rw [ewq] at K4 ⊢
 clear ewq K3 k3
 obtain ⟨p0, p1, p2, p3⟩ := OB.out.keep K4 id
 have H4 := Lib.hid (H.out.same K4)
 have R4 := Lib.hid (RB.out.keep K4 id)
 obtain rfl : mine = true := by rw [← EMI.out]; exact decide_eq_true HNO.out
 have s0 := H4.out.s0 s hs
 have s1 := H4.out.s1 s hs
 have s2 := H4.out.s2 s hs
 have s3 := H4.out.s3 s hs
 have s4 := H4.out.s4 s hs
 have s5 := H4.out.s5 s hs
 rw [ET.out] at s0 s1 s2 s3
 rw [E4.out] at s4
 rw [E5.out] at s5
 go_wp2_with fail
 refine wp_region_held_drew (S := fun w' => w'.cell? ⟨m, 3 + s * 6, none⟩ = some (.int .i64 t.id) ∧ w'.cell? ⟨m, 3 + s * 6 + 1, none⟩ = some (.int .i64 t.level) ∧ w'.cell? ⟨m, 3 + s * 6 + 2, none⟩ = some (.int .i64 t.ops) ∧ w'.cell? ⟨m, 3 + s * 6 + 3, none⟩ = some (.int .u64 t.start) ∧ w'.cell? ⟨m, 3 + s * 6 + 4, none⟩ = some (.slice A4 n4 c4) ∧ w'.cell? ⟨m, 3 + s * 6 + 5, none⟩ = some (.slice A5 n5 c5) ∧ w'.cell? ⟨M, 1, none⟩ = some (.int .i64 okey)) (by kernel_rfl) ⟨s0, s1, s2, s3, s4, s5, p1⟩ (fun hHeld => ?_)
 refine tk 0 (v := ?qvu791) ?qyu791 ?qru791; case qyu791 => ((intro w hSw; (try dsimp only at hSw); go_simp); try (with_reducible rfl))
 (try simp only [tA, tS, tZ, Act.put, uA, uS, uZ])
 refine tk 1 (v := ?qvu792) ?qyu792 ?qru792; case qyu792 => ((intro w hSw; (try dsimp only at hSw); go_simp); try (with_reducible rfl))
 (try simp only [tA, tS, tZ, Act.put, uA, uS, uZ])
 refine tk 2 (v := ?qvu793) ?qyu793 ?qru793; case qyu793 => ((intro w hSw; (try dsimp only at hSw); go_simp); try (with_reducible rfl))
 (try simp only [tA, tS, tZ, Act.put, uA, uS, uZ])
 refine wpAnyH_take (i := 3) (v := undef) rfl (by kernel_rfl) (by kernel_rfl) (by kernel_rfl) (fun _ _ _ h => h) (Or.inr ⟨by rfl, rfl⟩) (by assumption) ?qru794
 (try simp only [tA, tS, tZ, Act.put, uA, uS, uZ])
 refine wpAnyH_take (i := 4) (v := undef) rfl (by kernel_rfl) (by kernel_rfl) (by kernel_rfl) (fun _ _ _ h => h) (Or.inr ⟨by rfl, rfl⟩) (by assumption) ?qru795
 (try simp only [tA, tS, tZ, Act.put, uA, uS, uZ])
 refine wpAnyH_take (i := 5) (v := undef) rfl (by kernel_rfl) (by kernel_rfl) (by kernel_rfl) (fun _ _ _ h => h) (Or.inr ⟨by rfl, rfl⟩) (by assumption) ?qru796
 (try simp only [tA, tS, tZ, Act.put, uA, uS, uZ])
 refine wpAnyH_take (i := 6) (v := undef) rfl (by kernel_rfl) (by kernel_rfl) (by kernel_rfl) (fun _ _ _ h => h) (Or.inr ⟨by rfl, rfl⟩) (by assumption) ?qru797
 (try simp only [tA, tS, tZ, Act.put, uA, uS, uZ])
 refine wpAnyH_take (i := 7) (v := undef) rfl (by kernel_rfl) (by kernel_rfl) (by kernel_rfl) (fun _ _ _ h => h) (Or.inr ⟨by rfl, rfl⟩) (by assumption) ?qru798
 (try simp only [tA, tS, tZ, Act.put, uA, uS, uZ])
 refine wpAnyH_take (i := 8) (v := undef) rfl (by kernel_rfl) (by kernel_rfl) (by kernel_rfl) (fun _ _ _ h => h) (Or.inr ⟨by rfl, rfl⟩) (by assumption) ?qru799
 (try simp only [tA, tS, tZ, Act.put, uA, uS, uZ])
 refine wpAnyH_take (i := 9) (v := undef) rfl (by kernel_rfl) (by kernel_rfl) (by kernel_rfl) (fun _ _ _ h => h) (Or.inr ⟨by rfl, rfl⟩) (by assumption) ?qru800
 (try simp only [tA, tS, tZ, Act.put, uA, uS, uZ])
 refine tk 10 (v := ?qvu801) ?qyu801 ?qru801; case qyu801 => ((intro w hSw; (try dsimp only at hSw); go_simp); try (with_reducible rfl))
 (try simp only [tA, tS, tZ, Act.put, uA, uS, uZ])
 refine wpAnyH_done (by kernel_rfl) ?_ _
 obtain ⟨w5, ew5⟩ : ∃ w5, wq.drew = w5 := ⟨_, rfl⟩
 have K5 : Keep (fun _ => False) W w5 := by rw [← ew5]; exact K4.drew
 rw [ew5]
 clear ew5
 clear hHeld
 go_wp2_with fail
 have KO : Keep (fun _ => False) W w5.drew := K5.drew
 refine wp_region_held_drew (S := fun w' => w'.cell? ⟨m, 3 + s * 6, none⟩ = some (.int .i64 t.id) ∧ w'.cell? ⟨M, 1, none⟩ = some (.int .i64 okey)) (by kernel_rfl) ⟨by have := (H.out.same KO).s0 s hs; rwa [ET.out] at this, KO.cell o1 id⟩ (fun hHeld => ?_)
 refine tk 0 (v := ?qvu802) ?qyu802 ?qru802; case qyu802 => ((intro w hSw; (try dsimp only at hSw); go_simp); try (with_reducible rfl))
 (try simp only [tA, tS, tZ, Act.put, uA, uS, uZ])
 refine tk 1 (v := ?qvu803) ?qyu803 ?qru803; case qyu803 => ((intro w hSw; (try dsimp only at hSw); go_simp); try (with_reducible rfl))
 (try simp only [tA, tS, tZ, Act.put, uA, uS, uZ])
 refine tk 2 (v := ?qvu804) ?qyu804 ?qru804; case qyu804 => ((intro w hSw; (try dsimp only at hSw); go_simp); try (with_reducible rfl))
 (try simp only [tA, tS, tZ, Act.put, uA, uS, uZ])
 refine tk 3 (v := ?qvu805) ?qyu805 ?qru805; case qyu805 => ((intro w hSw; (try dsimp only at hSw); go_simp); try (with_reducible rfl))
 (try simp only [tA, tS, tZ, Act.put, uA, uS, uZ])
 refine tk 4 (v := ?qvu806) ?qyu806 ?qru806; case qyu806 => ((intro w hSw; (try dsimp only at hSw); go_simp); try (with_reducible rfl))
 (try simp only [tA, tS, tZ, Act.put, uA, uS, uZ])
 refine tk 5 (v := ?qvu807) ?qyu807 ?qru807; case qyu807 => ((intro w hSw; (try dsimp only at hSw); go_simp); try (with_reducible rfl))
 (try simp only [tA, tS, tZ, Act.put, uA, uS, uZ])
 refine tk 6 (v := ?qvu808) ?qyu808 ?qru808; case qyu808 => ((intro w hSw; (try dsimp only at hSw); go_simp); try (with_reducible rfl))
 (try simp only [tA, tS, tZ, Act.put, uA, uS, uZ])
 refine wpAnyH_ready (rs := [7]) (by kernel_rfl) (by simp) ?_
 refine AllReadyH.cons rfl (fun K hK => ?_) AllReadyH.nil
 go_simp
 refine (HOW.out _ KO).mono ?_
 rintro e w7 ⟨rfl, k7'⟩
 refine hK.out _ _ ⟨k7'.cell hHeld.1 id, k7'.cell hHeld.2 id⟩ (fun hHeld => ?_)
 clear hK K
 (try simp only [tA, tS, tZ, Act.put, uA, uS, uZ])
 refine tk 8 (v := ?qvu809) ?qyu809 ?qru809; case qyu809 => ((intro w hSw; (try dsimp only at hSw); go_simp); try (with_reducible rfl))
 (try simp only [tA, tS, tZ, Act.put, uA, uS, uZ])
 refine wpAnyH_done (by kernel_rfl) ?_ _
 have K7 := KO.trans k7'
 clear hHeld
 have c0 := (H.out.same K7).c0
 have c2 := (H.out.same K7).c2
 rw [EVV.out] at c2
 have z0 := K7.cell o0 id
 go_wp2_with fail
 refine wp_region_held_drew (S := fun w' => w'.cell? ⟨M, 0, none⟩ = some (.int .i64 2)) (by kernel_rfl) z0 (fun hHeld => ?_)
 refine tk 0 (v := ?qvu810) ?qyu810 ?qru810; case qyu810 => ((intro w hSw; (try dsimp only at hSw); go_simp); try (with_reducible rfl))
 (try simp only [tA, tS, tZ, Act.put, uA, uS, uZ])
 refine tk 1 (v := ?qvu811) ?qyu811 ?qru811; case qyu811 => ((intro w hSw; (try dsimp only at hSw); go_simp); try (with_reducible rfl))
 (try simp only [tA, tS, tZ, Act.put, uA, uS, uZ])
 refine tk 2 (v := ?qvu812) ?qyu812 ?qru812; case qyu812 => ((intro w hSw; (try dsimp only at hSw); go_simp); try (with_reducible rfl))
 (try simp only [tA, tS, tZ, Act.put, uA, uS, uZ])
 refine tk 3 (v := ?qvu813) ?qyu813 ?qru813; case qyu813 => ((intro w hSw; (try dsimp only at hSw); go_simp); try (with_reducible rfl))
 (try simp only [tA, tS, tZ, Act.put, uA, uS, uZ])
 refine tk 4 (v := ?qvu814) ?qyu814 ?qru814; case qyu814 => ((intro w hSw; (try dsimp only at hSw); go_simp); try (with_reducible rfl))
 (try simp only [tA, tS, tZ, Act.put, uA, uS, uZ])
 refine tk 5 (v := ?qvu815) ?qyu815 ?qru815; case qyu815 => ((intro w hSw; (try dsimp only at hSw); go_simp); try (with_reducible rfl))
 (try simp only [tA, tS, tZ, Act.put, uA, uS, uZ])
 refine tk 6 (v := ?qvu816) ?qyu816 ?qru816; case qyu816 => ((intro w hSw; (try dsimp only at hSw); go_simp); try (with_reducible rfl))
 (try simp only [tA, tS, tZ, Act.put, uA, uS, uZ])
 refine tk 7 (v := ?qvu817) ?qyu817 ?qru817; case qyu817 => ((intro w hSw; (try dsimp only at hSw); go_simp); try (with_reducible rfl))
 (try simp only [tA, tS, tZ, Act.put, uA, uS, uZ])
 refine wpAnyH_take (i := 8) (v := undef) rfl (by kernel_rfl) (by kernel_rfl) (by kernel_rfl) (fun _ _ _ h => h) (Or.inr ⟨by rfl, rfl⟩) (by assumption) ?qru818
 (try simp only [tA, tS, tZ, Act.put, uA, uS, uZ])
 refine wpAnyH_take (i := 9) (v := undef) rfl (by kernel_rfl) (by kernel_rfl) (by kernel_rfl) (fun _ _ _ h => h) (Or.inr ⟨by rfl, rfl⟩) (by assumption) ?qru819
 (try simp only [tA, tS, tZ, Act.put, uA, uS, uZ])
 refine wpAnyH_take (i := 10) (v := undef) rfl (by kernel_rfl) (by kernel_rfl) (by kernel_rfl) (fun _ _ _ h => h) (Or.inr ⟨by rfl, rfl⟩) (by assumption) ?qru820
 (try simp only [tA, tS, tZ, Act.put, uA, uS, uZ])
 refine wpAnyH_take (i := 11) (v := undef) rfl (by kernel_rfl) (by kernel_rfl) (by kernel_rfl) (fun _ _ _ h => h) (Or.inr ⟨by rfl, rfl⟩) (by assumption) ?qru821
 (try simp only [tA, tS, tZ, Act.put, uA, uS, uZ])
 refine wpAnyH_take (i := 12) (v := undef) rfl (by kernel_rfl) (by kernel_rfl) (by kernel_rfl) (fun _ _ _ h => h) (Or.inr ⟨by rfl, rfl⟩) (by assumption) ?qru822
 (try simp only [tA, tS, tZ, Act.put, uA, uS, uZ])
 refine wpAnyH_take (i := 13) (v := undef) rfl (by kernel_rfl) (by kernel_rfl) (by kernel_rfl) (fun _ _ _ h => h) (Or.inr ⟨by rfl, rfl⟩) (by assumption) ?qru823
 (try simp only [tA, tS, tZ, Act.put, uA, uS, uZ])
 refine wpAnyH_take (i := 14) (v := undef) rfl (by kernel_rfl) (by kernel_rfl) (by kernel_rfl) (fun _ _ _ h => h) (Or.inr ⟨by rfl, rfl⟩) (by assumption) ?qru824
 (try simp only [tA, tS, tZ, Act.put, uA, uS, uZ])
 refine wpAnyH_take (i := 15) (v := undef) rfl (by kernel_rfl) (by kernel_rfl) (by kernel_rfl) (fun _ _ _ h => h) (Or.inr ⟨by rfl, rfl⟩) (by assumption) ?qru825
 (try simp only [tA, tS, tZ, Act.put, uA, uS, uZ])
 refine wpAnyH_take (i := 16) (v := undef) rfl (by kernel_rfl) (by kernel_rfl) (by kernel_rfl) (fun _ _ _ h => h) (Or.inr ⟨by rfl, rfl⟩) (by assumption) ?qru826
 (try simp only [tA, tS, tZ, Act.put, uA, uS, uZ])
 refine wpAnyH_take (i := 17) (v := undef) rfl (by kernel_rfl) (by kernel_rfl) (by kernel_rfl) (fun _ _ _ h => h) (Or.inr ⟨by rfl, rfl⟩) (by assumption) ?qru827
 (try simp only [tA, tS, tZ, Act.put, uA, uS, uZ])
 refine wpAnyH_take (i := 18) (v := undef) rfl (by kernel_rfl) (by kernel_rfl) (by kernel_rfl) (fun _ _ _ h => h) (Or.inr ⟨by rfl, rfl⟩) (by assumption) ?qru828
 (try simp only [tA, tS, tZ, Act.put, uA, uS, uZ])
 refine tk 19 (v := ?qvu829) ?qyu829 ?qru829; case qyu829 => ((intro w hSw; (try dsimp only at hSw); go_simp); try (with_reducible rfl))
 (try simp only [tA, tS, tZ, Act.put, uA, uS, uZ])
 refine wpAnyH_done (by kernel_rfl) ?_ _
 obtain ⟨wc, ewv⟩ : ∃ wv, w7.drew = wv := ⟨_, rfl⟩
 have K8 : Keep (fun _ => False) W wc := by rw [← ewv]; exact K7.drew
 rw [ewv]
 have HC := H.out.same K8
 rw [EVV.out] at HC
 obtain ⟨g, eg, a0, a1, a2, a3, a4, a5, a6⟩ := HC.at' j y HY.out
 subst eg
 have c2 := HC.c2
 have m0 := K8.cell o0 id
 have m3 := K8.cell o3 id
 have f3 := OwnM.free HC.ov (j * 7 + 3)
 have f1 := OwnM.free HC.ov (j * 7 + 1)
 have gj : x.v[j]'LJ.out = y := by have := HY.out; rw [List.getElem?_eq_getElem LJ.out] at this; exact Option.some.inj this
 have P1 := HC.put j 3 LJ.out (by omega) (.int .i64 0) { y with ended := 0 } (by rw [gj]; rfl)
 have P2 := P1.put j 1 (by simpa using LJ.out) (by omega) (.int .i64 oval) { y with ended := 0, val := oval } (by simp [vrC])
 obtain ⟨wb, eb⟩ : ∃ wb, (wc.setCell ⟨g, j * 7 + 3, none⟩ (.int .i64 0)).setCell ⟨g, j * 7 + 1, none⟩ (.int .i64 oval) = wb := ⟨_, rfl⟩
 have KB : Keep (fun q => q = g) wc wb := by rw [← eb]; exact ((Keep.refl (fun q => q = g) wc).setCell (p := ⟨g, j * 7 + 3, none⟩) rfl _).setCell (p := ⟨g, j * 7 + 1, none⟩) rfl _
 rw [eb] at P2
 have gF : FootR m vv sw sr g := .inr (.inl (by rw [EVV.out]; rfl))
 have gM : ¬ M = g := fun e => FM.out (e ▸ gF)
 have gN : ¬ N = g := fun e => FN.out (e ▸ gF)
 have gm : ¬ m = g := fun e => HC.vm (by rw [e]; rfl)
 have n3 : (wc.setCell ⟨g, j * 7 + 3, none⟩ (.int .i64 0)).cell? ⟨M, 3, none⟩ = some (.int .i64 oval) := (keep_one wc ⟨g, j * 7 + 3, none⟩ _).cell m3 gM
 have n2 : (wc.setCell ⟨g, j * 7 + 3, none⟩ (.int .i64 0)).cell? ⟨m, 2, none⟩ = some (.slice (some ⟨g, 0, none⟩) nv cv) := (keep_one wc ⟨g, j * 7 + 3, none⟩ _).cell c2 gm
 have P2H := Lib.hid P2
 have KBH := Lib.hid KB
 have RBB := Lib.hid ((RB.out.keep K8 id).keep KB gN)
 have GF := Lib.hid gF
 have zf : z = { x with v := (x.v.set j { y with ended := 0 }).set j { y with ended := 0, val := oval } } := by
  rw [← HZ.out, if_pos (of_decide_eq_true EMI.out)]
  have w1 : MoI.wroteV x.v t.id ⟨2, okey, ohi, oval⟩ none (some j) = setV x.v j fun x => { x with ended := 0, val := oval } := by
   unfold MoI.wroteV
   simp
  show ({ x with v := MoI.wroteV x.v t.id ⟨2, okey, ohi, oval⟩ none (some j) } : MoI) = _
  rw [w1]
  unfold setV
  rw [modify_set HY.out, List.set_set]
 have ZF := Lib.hid zf
 clear hHeld ewv P1 P2 HC KB gF zf
 go_wp2_with fail
 refine wp_region_held_drew (S := fun w' => w'.cell? ⟨M, 3, none⟩ = some (.int .i64 oval) ∧ w'.cell? ⟨m, 2, none⟩ = some (.slice (some ⟨g, 0, none⟩) nv cv)) (by kernel_rfl) ⟨n3, n2⟩ (fun hHeld => ?_)
 refine tk 0 (v := ?qvu830) ?qyu830 ?qru830; case qyu830 => ((intro w hSw; (try dsimp only at hSw); go_simp); try (with_reducible rfl))
 (try simp only [tA, tS, tZ, Act.put, uA, uS, uZ])
 refine tk 1 (v := ?qvu831) ?qyu831 ?qru831; case qyu831 => ((intro w hSw; (try dsimp only at hSw); go_simp); try (with_reducible rfl))
 (try simp only [tA, tS, tZ, Act.put, uA, uS, uZ])
 refine tk 2 (v := ?qvu832) ?qyu832 ?qru832; case qyu832 => ((intro w hSw; (try dsimp only at hSw); go_simp); try (with_reducible rfl))
 (try simp only [tA, tS, tZ, Act.put, uA, uS, uZ])
 refine tk 3 (v := ?qvu833) ?qyu833 ?qru833; case qyu833 => ((intro w hSw; (try dsimp only at hSw); go_simp); try (with_reducible rfl))
 (try simp only [tA, tS, tZ, Act.put, uA, uS, uZ])
 refine tk 4 (v := ?qvu834) ?qyu834 ?qru834; case qyu834 => ((intro w hSw; (try dsimp only at hSw); go_simp); try (with_reducible rfl))
 (try simp only [tA, tS, tZ, Act.put, uA, uS, uZ])
 refine tk 5 (v := ?qvu835) ?qyu835 ?qru835; case qyu835 => ((intro w hSw; (try dsimp only at hSw); go_simp); try (with_reducible rfl))
 (try simp only [tA, tS, tZ, Act.put, uA, uS, uZ])
 refine tk 6 (v := ?qvu836) ?qyu836 ?qru836; case qyu836 => ((intro w hSw; (try dsimp only at hSw); go_simp); try (with_reducible rfl))
 (try simp only [tA, tS, tZ, Act.put, uA, uS, uZ])
 refine tk 7 (v := ?qvu837) ?qyu837 ?qru837; case qyu837 => ((intro w hSw; (try dsimp only at hSw); go_simp); try (with_reducible rfl))
 (try simp only [tA, tS, tZ, Act.put, uA, uS, uZ])
 refine tk 8 (v := ?qvu838) ?qyu838 ?qru838; case qyu838 => ((intro w hSw; (try dsimp only at hSw); go_simp); try (with_reducible rfl))
 (try simp only [tA, tS, tZ, Act.put, uA, uS, uZ])
 refine wpAnyH_ready (rs := [9]) (by kernel_rfl) (by simp) ?_
 refine AllReadyH.cons rfl (fun K hK => ?_) AllReadyH.nil
 go_simp
 go_simp
 refine hK.out _ _ ⟨KBH.out.cell m3 gM, KBH.out.cell c2 gm⟩ (fun hHeld => ?_)
 clear hK K
 (try simp only [tA, tS, tZ, Act.put, uA, uS, uZ])
 refine wpAnyH_done (by kernel_rfl) ?_ _
 have kd := (Keep.refl (fun _ => False) wb).drew
 obtain ⟨wz, ez⟩ : ∃ wz, wb.drew = wz := ⟨_, rfl⟩
 rw [ez] at kd ⊢
 have KD := Lib.hid kd
 have R6 := Lib.hid (RBB.out.keep kd id)
 obtain ⟨q0, q1, q2, q3, q4, q5⟩ := R6.out
 clear hHeld ez kd eb
 go_wp2
 (obtain ⟨W7, eW7⟩ : ∃ W7, (((((wz.setCell ⟨N, 0, none⟩ (.int .i64 0)).setCell ⟨N, 1, none⟩ (.int .i64 0)).setCell ⟨N, 2, none⟩ (.slice none 0 0)).setCell ⟨N, 3, none⟩ (.int .i64 0)).setCell ⟨N, 4, none⟩ (.int .i64 0)) = W7 := ⟨_, rfl⟩; obtain ⟨⟨v0, v1, v2, v3, v4, _⟩, k7⟩ := res_set R6.out _ _ _ _ _ eW7; rw [eW7]; refine bodyPost_ret (v := .agg #[.int .i64 0, .int .i64 0, .slice none 0 0, .int .i64 0, .int .i64 0]) (by simp [results, Try.results65, go_sem, v0, v1, v2, v3, v4]) rfl ⟨rfl, ?_⟩)
 have TT : RmTo W m vv sw sr z wz := by
  rw [ZF.out]
  refine ⟨_, sw, sr, P2H.out.same KD.out, ((K8.mono (fun _ e => e.elim)).trans (KBH.out.mono (fun q e => e ▸ GF.out))).trans (KD.out.mono (fun _ e => e.elim)), fun g hg => .inl (by rw [EVV.out]; exact hg)⟩
 exact TT.fin KW.out (by have := EM.out; have := HMN.out; omega) hNW FN.out k7
end
end Go.Proofs.Ytkkjofefjepodaa
/- The document's own Model, an update of one's own version. -/
namespace Go.Proofs.Ytkkjofefjepodaa
open Go.ChangeShapes Go.WideShapes Go.ChangeAt Go.RowKit
set_option linter.unusedVariables false
set_option linter.unusedSimpArgs false
section
variable {w w' W : World} {m : Nat} {vv vv' : Value} {sw sr sw' sr' : Nat → Value} {x y : MoI} {T : Nat → Prop}
set_option maxRecDepth 100000 in
set_option maxHeartbeats 8000000 in
theorem rwrite_updC (h : RmAt w m vv sw sr x) (f : Few x) (s : Nat) (hs : s < 8) (o : OpI) (hk : o.kind = 3) (j : Nat) (hat : seesI x.v (x.s s).id (x.s s).start o.key = (some j)) (hin : o.key ∈ (x.s s).wrote) (hown : x.v.findIdx? (ownV (x.s s).id o.key) = some j) (z : MoI)
  (hz : ({ (if o.key ∈ (x.s s).wrote then x else x.keepW s o.key) with v := MoI.wroteV x.v (x.s s).id o (some j) (x.v.findIdx? (ownV (x.s s).id o.key)) } : MoI) = z) :
  Calls Try.prog 65 #[.pointer (some ⟨m, 0, none⟩), .int .i64 s, opV o] w (DidR w m vv sw sr re0 z) := by
 obtain ⟨W1, eW1, ob, kW1⟩ := op_box w o
 obtain ⟨W, eW, rb, kW2⟩ := res_box W1
 have kW := kW1.trans kW2
 have fM : ¬ FootR m vv sw sr w.heap.size := fun q => by have := h.lt _ q; omega
 have fN : ¬ FootR m vv sw sr W1.heap.size := fun q => by have := h.lt _ q; have := kW1.size; omega
 have hmw := h.mlt
 have H := Lib.hid (h.same kW)
 obtain ⟨Av, cv, evv, hcv, _⟩ := h.vers
 obtain ⟨nv, env⟩ : ∃ n, x.v.length = n := ⟨_, rfl⟩
 rw [env] at evv hcv
 have EVV := Lib.hid evv
 have ENV := Lib.hid env
 clear evv env
 have s0 := H.out.s0 s hs
 have s1 := H.out.s1 s hs
 have s2 := H.out.s2 s hs
 have s3 := H.out.s3 s hs
 have s4 := H.out.s4 s hs
 have s5 := H.out.s5 s hs
 obtain ⟨A4, c4, e4⟩ := own_n _ _ _ (H.out.ow s hs)
 obtain ⟨A5, c5, e5⟩ := own_r _ _ _ (H.out.or' s hs)
 obtain ⟨t, et⟩ : ∃ t, x.s s = t := ⟨_, rfl⟩
 have OW := Lib.hid (H.out.ow s hs)
 have OR5 := Lib.hid (H.out.or' s hs)
 have FW := Lib.hid (f.w s hs)
 have FRS := Lib.hid (f.r s hs).1
 rw [et] at s0 s1 s2 s3 e4 e5 OW OR5 FW
 have ET := Lib.hid et
 obtain ⟨n4, en4⟩ : ∃ n, t.wrote.length = n := ⟨_, rfl⟩
 obtain ⟨n5, en5⟩ : ∃ n, t.reads.length = n := ⟨_, rfl⟩
 rw [en4] at e4
 rw [en5] at e5
 rw [e4] at s4
 rw [e5] at s5
 have E4 := Lib.hid e4
 have E5 := Lib.hid e5
 have EN4 := Lib.hid en4
 have EN5 := Lib.hid en5
 obtain ⟨M, eM⟩ : ∃ M, w.heap.size = M := ⟨_, rfl⟩
 obtain ⟨N, eN⟩ : ∃ N, W1.heap.size = N := ⟨_, rfl⟩
 have hMN : N = M + 1 := by rw [← eN, ← eW1, World.size_alloc, eM]
 have HMN := Lib.hid hMN
 have EM := Lib.hid eM
 have ES := Lib.hid eN
 have hNW : N < W.heap.size := by rw [← eW, World.size_alloc, eN]; exact Nat.lt_succ_self _
 rw [eM] at ob fM hmw
 rw [eN] at rb fN
 have OB := Lib.hid (ob.keep kW2 (fun e => e))
 have RB := Lib.hid rb
 have FM := Lib.hid fM
 have FN := Lib.hid fN
 have KW := Lib.hid kW
 have FV := Lib.hid f.v
 obtain ⟨o0, o1, o2, o3⟩ := OB.out
 obtain ⟨at', eat⟩ : ∃ at', seesI x.v t.id t.start o.key = at' := ⟨_, rfl⟩
 obtain ⟨mine, emi⟩ : ∃ b, decide (o.key ∈ t.wrote) = b := ⟨_, rfl⟩
 have EAT := Lib.hid eat
 have EMI := Lib.hid emi
 have HS := Lib.hid (fun (wx : World) (k : Keep (fun _ => False) W wx) => rsees_any (H.out.same k) (Nat.le_trans FV.out (by omega)) t (sw s) (sr s) o.key)
 have HW := Lib.hid (fun (wx : World) (k : Keep (fun _ => False) W wx) => rhas_any (OwnN.keep OW.out k (by simp)) (Nat.le_trans FW.out (by omega)) o.key mine EMI.out)
 rw [EAT.out, E4.out, E5.out] at HS
 rw [E4.out] at HW
 unfold txV at HS
 have HOW := Lib.hid (fun (wx : World) (k : Keep (fun _ => False) W wx) => rown_any (H.out.same k) (Nat.le_trans FV.out (by omega)) t.id o.key)
 obtain ⟨ok, okey, ohi, oval⟩ := o
 rw [ET.out] at hin hown hat hz
 obtain rfl : (some j) = at' := by rw [← EAT.out]; exact hat.symm
 have hown' : x.v.findIdx? (ownV t.id (OpI.key ⟨ok, okey, ohi, oval⟩)) = (some j) := hown
 rw [hown'] at HOW
 rw [hown] at hz
 obtain rfl : ok = 3 := hk
 have ai : idxV (some j) = (j : Int) := rfl
 have HZ := Lib.hid hz
 have EKK := Lib.hid hown
 have HNO := Lib.hid hin
 clear hown' hown hz hat hin
 have dj0 : (0 : Int) ≤ (j : Int) := by omega
 have dj : idxV (some j) = (j : Int) := rfl
 have dj1 : decide ((j : Int) < 0) = false := decide_eq_false (by omega)
 have dj2 : decide ((0 : Int) ≤ (j : Int)) = true := decide_eq_true dj0
 have lj : j < x.v.length := (List.findIdx?_eq_some_iff_getElem.1 EKK.out).1
 obtain ⟨y, hy⟩ : ∃ y, x.v[j]? = some y := ⟨_, List.getElem?_eq_getElem lj⟩
 have HY := Lib.hid hy
 have LJ := Lib.hid lj
 have ljn : j < nv := by rw [← ENV.out]; exact lj
 have ljn2 : (j : Int) < (nv : Int) := by omega
 clear hy lj
 clear hMN h ob rb fM fN f et e4 e5 en4 en5 eat emi kW kW1 kW2
 unfold DidR opV
 go_enter Try.func65, Try.ntmps65
 go_wp2_with fail
 refine wp_region_held_drew (S := fun w' => w'.cell? ⟨m, 3 + s * 6, none⟩ = some (.int .i64 t.id) ∧ w'.cell? ⟨m, 3 + s * 6 + 1, none⟩ = some (.int .i64 t.level) ∧ w'.cell? ⟨m, 3 + s * 6 + 2, none⟩ = some (.int .i64 t.ops) ∧ w'.cell? ⟨m, 3 + s * 6 + 3, none⟩ = some (.int .u64 t.start) ∧ w'.cell? ⟨m, 3 + s * 6 + 4, none⟩ = some (.slice A4 n4 c4) ∧ w'.cell? ⟨m, 3 + s * 6 + 5, none⟩ = some (.slice A5 n5 c5) ∧ w'.cell? ⟨M, 1, none⟩ = some (.int .i64 okey)) (by kernel_rfl) ⟨s0, s1, s2, s3, s4, s5, o1⟩ (fun hHeld => ?_)
 refine tk 0 (v := ?qvu929) ?qyu929 ?qru929; case qyu929 => ((intro w hSw; (try dsimp only at hSw); go_simp); try (with_reducible rfl))
 (try simp only [tA, tS, tZ, Act.put, uA, uS, uZ])
 refine tk 1 (v := ?qvu930) ?qyu930 ?qru930; case qyu930 => ((intro w hSw; (try dsimp only at hSw); go_simp); try (with_reducible rfl))
 (try simp only [tA, tS, tZ, Act.put, uA, uS, uZ])
 refine tk 2 (v := ?qvu931) ?qyu931 ?qru931; case qyu931 => ((intro w hSw; (try dsimp only at hSw); go_simp); try (with_reducible rfl))
 (try simp only [tA, tS, tZ, Act.put, uA, uS, uZ])
 refine tk 3 (v := ?qvu932) ?qyu932 ?qru932; case qyu932 => ((intro w hSw; (try dsimp only at hSw); go_simp); try (with_reducible rfl))
 (try simp only [tA, tS, tZ, Act.put, uA, uS, uZ])
 refine tk 4 (v := ?qvu933) ?qyu933 ?qru933; case qyu933 => ((intro w hSw; (try dsimp only at hSw); go_simp); try (with_reducible rfl))
 (try simp only [tA, tS, tZ, Act.put, uA, uS, uZ])
 refine tk 5 (v := ?qvu934) ?qyu934 ?qru934; case qyu934 => ((intro w hSw; (try dsimp only at hSw); go_simp); try (with_reducible rfl))
 (try simp only [tA, tS, tZ, Act.put, uA, uS, uZ])
 refine wpAnyH_ready (rs := [6]) (by kernel_rfl) (by simp) ?_
 refine AllReadyH.cons rfl (fun K hK => ?_) AllReadyH.nil
 go_simp
 refine (HS.out _ ((Keep.refl _ W).drew)).mono ?_
 rintro e w3 ⟨rfl, k3⟩
 refine hK.out _ _ ⟨k3.cell hHeld.1 id, k3.cell hHeld.2.1 id, k3.cell hHeld.2.2.1 id, k3.cell hHeld.2.2.2.1 id, k3.cell hHeld.2.2.2.2.1 id, k3.cell hHeld.2.2.2.2.2.1 id, k3.cell hHeld.2.2.2.2.2.2 id⟩ (fun hHeld => ?_)
 clear hK K
 (try simp only [tA, tS, tZ, Act.put, uA, uS, uZ])
 refine tk 7 (v := ?qvu935) ?qyu935 ?qru935; case qyu935 => ((intro w hSw; (try dsimp only at hSw); go_simp); try (with_reducible rfl))
 (try simp only [tA, tS, tZ, Act.put, uA, uS, uZ])
 refine wpAnyH_done (by kernel_rfl) ?_ _
 have K3 : Keep (fun _ => False) W w3 := ((Keep.refl _ W).drew).trans k3
 clear hHeld
 go_wp2_with fail
 refine wp_region_held_drew (S := fun w' => w'.cell? ⟨m, 3 + s * 6 + 4, none⟩ = some (.slice A4 n4 c4) ∧ w'.cell? ⟨M, 1, none⟩ = some (.int .i64 okey)) (by kernel_rfl) ⟨K3.cell s4 id, K3.cell o1 id⟩ (fun hHeld => ?_)
 refine tk 0 (v := ?qvu936) ?qyu936 ?qru936; case qyu936 => ((intro w hSw; (try dsimp only at hSw); go_simp); try (with_reducible rfl))
 (try simp only [tA, tS, tZ, Act.put, uA, uS, uZ])
 refine tk 1 (v := ?qvu937) ?qyu937 ?qru937; case qyu937 => ((intro w hSw; (try dsimp only at hSw); go_simp); try (with_reducible rfl))
 (try simp only [tA, tS, tZ, Act.put, uA, uS, uZ])
 refine tk 2 (v := ?qvu938) ?qyu938 ?qru938; case qyu938 => ((intro w hSw; (try dsimp only at hSw); go_simp); try (with_reducible rfl))
 (try simp only [tA, tS, tZ, Act.put, uA, uS, uZ])
 refine tk 3 (v := ?qvu939) ?qyu939 ?qru939; case qyu939 => ((intro w hSw; (try dsimp only at hSw); go_simp); try (with_reducible rfl))
 (try simp only [tA, tS, tZ, Act.put, uA, uS, uZ])
 refine tk 4 (v := ?qvu940) ?qyu940 ?qru940; case qyu940 => ((intro w hSw; (try dsimp only at hSw); go_simp); try (with_reducible rfl))
 (try simp only [tA, tS, tZ, Act.put, uA, uS, uZ])
 refine tk 5 (v := ?qvu941) ?qyu941 ?qru941; case qyu941 => ((intro w hSw; (try dsimp only at hSw); go_simp); try (with_reducible rfl))
 (try simp only [tA, tS, tZ, Act.put, uA, uS, uZ])
 refine wpAnyH_ready (rs := [6]) (by kernel_rfl) (by simp) ?_
 refine AllReadyH.cons rfl (fun K hK => ?_) AllReadyH.nil
 go_simp
 refine (HW.out _ (K3.drew)).mono ?_
 rintro e w4 ⟨rfl, rfl⟩
 refine hK.out _ _ hHeld (fun hHeld => ?_)
 clear hK K
 (try simp only [tA, tS, tZ, Act.put, uA, uS, uZ])
 refine tk 7 (v := ?qvu942) ?qyu942 ?qru942; case qyu942 => ((intro w hSw; (try dsimp only at hSw); go_simp); try (with_reducible rfl))
 (try simp only [tA, tS, tZ, Act.put, uA, uS, uZ])
 refine wpAnyH_done (by kernel_rfl) ?_ _
 have K4 : Keep (fun _ => False) W w3.drew := K3.drew
 clear hHeld
 obtain ⟨wq, ewq⟩ : ∃ wq, w3.drew = wq := ⟨_, rfl⟩
 rw [ewq] at K4 ⊢
 clear ewq K3 k3
 obtain ⟨p0, p1, p2, p3⟩ := OB.out.keep K4 id
 have H4 := Lib.hid (H.out.same K4)
 have R4 := Lib.hid (RB.out.keep K4 id)
 obtain rfl : mine = true := by rw [← EMI.out]; exact decide_eq_true HNO.out
 have s0 := H4.out.s0 s hs
 have s1 := H4.out.s1 s hs
 have s2 := H4.out.s2 s hs
 have s3 := H4.out.s3 s hs
 have s4 := H4.out.s4 s hs
 have s5 := H4.out.s5 s hs
 rw [ET.out] at s0 s1 s2 s3
 rw [E4.out] at s4
 rw [E5.out] at s5
 go_wp2_with fail
 refine wp_region_held_drew (S := fun w' => w'.cell? ⟨m, 3 + s * 6, none⟩ = some (.int .i64 t.id) ∧ w'.cell? ⟨m, 3 + s * 6 + 1, none⟩ = some (.int .i64 t.level) ∧ w'.cell? ⟨m, 3 + s * 6 + 2, none⟩ = some (.int .i64 t.ops) ∧ w'.cell? ⟨m, 3 + s * 6 + 3, none⟩ = some (.int .u64 t.start) ∧ w'.cell? ⟨m, 3 + s * 6 + 4, none⟩ = some (.slice A4 n4 c4) ∧ w'.cell? ⟨m, 3 + s * 6 + 5, none⟩ = some (.slice A5 n5 c5) ∧ w'.cell? ⟨M, 1, none⟩ = some (.int .i64 okey)) (by kernel_rfl) ⟨s0, s1, s2, s3, s4, s5, p1⟩ (fun hHeld => ?_)
 refine tk 0 (v := ?qvu943) ?qyu943 ?qru943; case qyu943 => ((intro w hSw; (try dsimp only at hSw); go_simp); try (with_reducible rfl))
 (try simp only [tA, tS, tZ, Act.put, uA, uS, uZ])
 refine tk 1 (v := ?qvu944) ?qyu944 ?qru944; case qyu944 => ((intro w hSw; (try dsimp only at hSw); go_simp); try (with_reducible rfl))
 (try simp only [tA, tS, tZ, Act.put, uA, uS, uZ])
 refine tk 2 (v := ?qvu945) ?qyu945 ?qru945; case qyu945 => ((intro w hSw; (try dsimp only at hSw); go_simp); try (with_reducible rfl))
 (try simp only [tA, tS, tZ, Act.put, uA, uS, uZ])
 refine wpAnyH_take (i := 3) (v := undef) rfl (by kernel_rfl) (by kernel_rfl) (by kernel_rfl) (fun _ _ _ h => h) (Or.inr ⟨by rfl, rfl⟩) (by assumption) ?qru946
 (try simp only [tA, tS, tZ, Act.put, uA, uS, uZ])
 refine wpAnyH_take (i := 4) (v := undef) rfl (by kernel_rfl) (by kernel_rfl) (by kernel_rfl) (fun _ _ _ h => h) (Or.inr ⟨by rfl, rfl⟩) (by assumption) ?qru947
 (try simp only [tA, tS, tZ, Act.put, uA, uS, uZ])
 refine wpAnyH_take (i := 5) (v := undef) rfl (by kernel_rfl) (by kernel_rfl) (by kernel_rfl) (fun _ _ _ h => h) (Or.inr ⟨by rfl, rfl⟩) (by assumption) ?qru948
 (try simp only [tA, tS, tZ, Act.put, uA, uS, uZ])
 refine wpAnyH_take (i := 6) (v := undef) rfl (by kernel_rfl) (by kernel_rfl) (by kernel_rfl) (fun _ _ _ h => h) (Or.inr ⟨by rfl, rfl⟩) (by assumption) ?qru949
 (try simp only [tA, tS, tZ, Act.put, uA, uS, uZ])
 refine wpAnyH_take (i := 7) (v := undef) rfl (by kernel_rfl) (by kernel_rfl) (by kernel_rfl) (fun _ _ _ h => h) (Or.inr ⟨by rfl, rfl⟩) (by assumption) ?qru950
 (try simp only [tA, tS, tZ, Act.put, uA, uS, uZ])
 refine wpAnyH_take (i := 8) (v := undef) rfl (by kernel_rfl) (by kernel_rfl) (by kernel_rfl) (fun _ _ _ h => h) (Or.inr ⟨by rfl, rfl⟩) (by assumption) ?qru951
 (try simp only [tA, tS, tZ, Act.put, uA, uS, uZ])
 refine wpAnyH_take (i := 9) (v := undef) rfl (by kernel_rfl) (by kernel_rfl) (by kernel_rfl) (fun _ _ _ h => h) (Or.inr ⟨by rfl, rfl⟩) (by assumption) ?qru952
 (try simp only [tA, tS, tZ, Act.put, uA, uS, uZ])
 refine tk 10 (v := ?qvu953) ?qyu953 ?qru953; case qyu953 => ((intro w hSw; (try dsimp only at hSw); go_simp); try (with_reducible rfl))
 (try simp only [tA, tS, tZ, Act.put, uA, uS, uZ])
 refine wpAnyH_done (by kernel_rfl) ?_ _
 obtain ⟨w5, ew5⟩ : ∃ w5, wq.drew = w5 := ⟨_, rfl⟩
 have K5 : Keep (fun _ => False) W w5 := by rw [← ew5]; exact K4.drew
 rw [ew5]
 clear ew5
 clear hHeld
 go_wp2_with fail
 have KO : Keep (fun _ => False) W w5.drew := K5.drew
 refine wp_region_held_drew (S := fun w' => w'.cell? ⟨m, 3 + s * 6, none⟩ = some (.int .i64 t.id) ∧ w'.cell? ⟨M, 1, none⟩ = some (.int .i64 okey)) (by kernel_rfl) ⟨by have := (H.out.same KO).s0 s hs; rwa [ET.out] at this, KO.cell o1 id⟩ (fun hHeld => ?_)
 refine tk 0 (v := ?qvu954) ?qyu954 ?qru954; case qyu954 => ((intro w hSw; (try dsimp only at hSw); go_simp); try (with_reducible rfl))
 (try simp only [tA, tS, tZ, Act.put, uA, uS, uZ])
 refine tk 1 (v := ?qvu955) ?qyu955 ?qru955; case qyu955 => ((intro w hSw; (try dsimp only at hSw); go_simp); try (with_reducible rfl))
 (try simp only [tA, tS, tZ, Act.put, uA, uS, uZ])
 refine tk 2 (v := ?qvu956) ?qyu956 ?qru956; case qyu956 => ((intro w hSw; (try dsimp only at hSw); go_simp); try (with_reducible rfl))
 (try simp only [tA, tS, tZ, Act.put, uA, uS, uZ])
 refine tk 3 (v := ?qvu957) ?qyu957 ?qru957; case qyu957 => ((intro w hSw; (try dsimp only at hSw); go_simp); try (with_reducible rfl))
 (try simp only [tA, tS, tZ, Act.put, uA, uS, uZ])
 refine tk 4 (v := ?qvu958) ?qyu958 ?qru958; case qyu958 => ((intro w hSw; (try dsimp only at hSw); go_simp); try (with_reducible rfl))
 (try simp only [tA, tS, tZ, Act.put, uA, uS, uZ])
 refine tk 5 (v := ?qvu959) ?qyu959 ?qru959; case qyu959 => ((intro w hSw; (try dsimp only at hSw); go_simp); try (with_reducible rfl))
 (try simp only [tA, tS, tZ, Act.put, uA, uS, uZ])
 refine tk 6 (v := ?qvu960) ?qyu960 ?qru960; case qyu960 => ((intro w hSw; (try dsimp only at hSw); go_simp); try (with_reducible rfl))
 (try simp only [tA, tS, tZ, Act.put, uA, uS, uZ])
 refine wpAnyH_ready (rs := [7]) (by kernel_rfl) (by simp) ?_
 refine AllReadyH.cons rfl (fun K hK => ?_) AllReadyH.nil
 go_simp
 refine (HOW.out _ KO).mono ?_
 rintro e w7 ⟨rfl, k7'⟩
 refine hK.out _ _ ⟨k7'.cell hHeld.1 id, k7'.cell hHeld.2 id⟩ (fun hHeld => ?_)
 clear hK K
 (try simp only [tA, tS, tZ, Act.put, uA, uS, uZ])
 refine tk 8 (v := ?qvu961) ?qyu961 ?qru961; case qyu961 => ((intro w hSw; (try dsimp only at hSw); go_simp); try (with_reducible rfl))
 (try simp only [tA, tS, tZ, Act.put, uA, uS, uZ])
 refine wpAnyH_done (by kernel_rfl) ?_ _
 have K7 := KO.trans k7'
 clear hHeld
 have c0 := (H.out.same K7).c0
 have c2 := (H.out.same K7).c2
 rw [EVV.out] at c2
 have z0 := K7.cell o0 id
 go_wp2_with fail
 refine wp_region_held_drew (S := fun w' => w'.cell? ⟨M, 0, none⟩ = some (.int .i64 3)) (by kernel_rfl) z0 (fun hHeld => ?_)
 refine tk 0 (v := ?qvu962) ?qyu962 ?qru962; case qyu962 => ((intro w hSw; (try dsimp only at hSw); go_simp); try (with_reducible rfl))
 (try simp only [tA, tS, tZ, Act.put, uA, uS, uZ])
 refine tk 1 (v := ?qvu963) ?qyu963 ?qru963; case qyu963 => ((intro w hSw; (try dsimp only at hSw); go_simp); try (with_reducible rfl))
 (try simp only [tA, tS, tZ, Act.put, uA, uS, uZ])
 refine tk 2 (v := ?qvu964) ?qyu964 ?qru964; case qyu964 => ((intro w hSw; (try dsimp only at hSw); go_simp); try (with_reducible rfl))
 (try simp only [tA, tS, tZ, Act.put, uA, uS, uZ])
 refine tk 3 (v := ?qvu965) ?qyu965 ?qru965; case qyu965 => ((intro w hSw; (try dsimp only at hSw); go_simp); try (with_reducible rfl))
 (try simp only [tA, tS, tZ, Act.put, uA, uS, uZ])
 refine tk 4 (v := ?qvu966) ?qyu966 ?qru966; case qyu966 => ((intro w hSw; (try dsimp only at hSw); go_simp); try (with_reducible rfl))
 (try simp only [tA, tS, tZ, Act.put, uA, uS, uZ])
 refine tk 5 (v := ?qvu967) ?qyu967 ?qru967; case qyu967 => ((intro w hSw; (try dsimp only at hSw); go_simp); try (with_reducible rfl))
 (try simp only [tA, tS, tZ, Act.put, uA, uS, uZ])
 refine tk 6 (v := ?qvu968) ?qyu968 ?qru968; case qyu968 => ((intro w hSw; (try dsimp only at hSw); go_simp); try (with_reducible rfl))
 (try simp only [tA, tS, tZ, Act.put, uA, uS, uZ])
 refine tk 7 (v := ?qvu969) ?qyu969 ?qru969; case qyu969 => ((intro w hSw; (try dsimp only at hSw); go_simp); try (with_reducible rfl))
 (try simp only [tA, tS, tZ, Act.put, uA, uS, uZ])
 refine wpAnyH_take (i := 8) (v := undef) rfl (by kernel_rfl) (by kernel_rfl) (by kernel_rfl) (fun _ _ _ h => h) (Or.inr ⟨by rfl, rfl⟩) (by assumption) ?qru970
 (try simp only [tA, tS, tZ, Act.put, uA, uS, uZ])
 refine wpAnyH_take (i := 9) (v := undef) rfl (by kernel_rfl) (by kernel_rfl) (by kernel_rfl) (fun _ _ _ h => h) (Or.inr ⟨by rfl, rfl⟩) (by assumption) ?qru971
 (try simp only [tA, tS, tZ, Act.put, uA, uS, uZ])
 refine wpAnyH_take (i := 10) (v := undef) rfl (by kernel_rfl) (by kernel_rfl) (by kernel_rfl) (fun _ _ _ h => h) (Or.inr ⟨by rfl, rfl⟩) (by assumption) ?qru972
 (try simp only [tA, tS, tZ, Act.put, uA, uS, uZ])
 refine wpAnyH_take (i := 11) (v := undef) rfl (by kernel_rfl) (by kernel_rfl) (by kernel_rfl) (fun _ _ _ h => h) (Or.inr ⟨by rfl, rfl⟩) (by assumption) ?qru973
 (try simp only [tA, tS, tZ, Act.put, uA, uS, uZ])
 refine wpAnyH_take (i := 12) (v := undef) rfl (by kernel_rfl) (by kernel_rfl) (by kernel_rfl) (fun _ _ _ h => h) (Or.inr ⟨by rfl, rfl⟩) (by assumption) ?qru974
 (try simp only [tA, tS, tZ, Act.put, uA, uS, uZ])
 refine wpAnyH_take (i := 13) (v := undef) rfl (by kernel_rfl) (by kernel_rfl) (by kernel_rfl) (fun _ _ _ h => h) (Or.inr ⟨by rfl, rfl⟩) (by assumption) ?qru975
 (try simp only [tA, tS, tZ, Act.put, uA, uS, uZ])
 refine wpAnyH_take (i := 14) (v := undef) rfl (by kernel_rfl) (by kernel_rfl) (by kernel_rfl) (fun _ _ _ h => h) (Or.inr ⟨by rfl, rfl⟩) (by assumption) ?qru976
 (try simp only [tA, tS, tZ, Act.put, uA, uS, uZ])
 refine wpAnyH_take (i := 15) (v := undef) rfl (by kernel_rfl) (by kernel_rfl) (by kernel_rfl) (fun _ _ _ h => h) (Or.inr ⟨by rfl, rfl⟩) (by assumption) ?qru977
 (try simp only [tA, tS, tZ, Act.put, uA, uS, uZ])
 refine wpAnyH_take (i := 16) (v := undef) rfl (by kernel_rfl) (by kernel_rfl) (by kernel_rfl) (fun _ _ _ h => h) (Or.inr ⟨by rfl, rfl⟩) (by assumption) ?qru978
 (try simp only [tA, tS, tZ, Act.put, uA, uS, uZ])
 refine wpAnyH_take (i := 17) (v := undef) rfl (by kernel_rfl) (by kernel_rfl) (by kernel_rfl) (fun _ _ _ h => h) (Or.inr ⟨by rfl, rfl⟩) (by assumption) ?qru979
 (try simp only [tA, tS, tZ, Act.put, uA, uS, uZ])
 refine wpAnyH_take (i := 18) (v := undef) rfl (by kernel_rfl) (by kernel_rfl) (by kernel_rfl) (fun _ _ _ h => h) (Or.inr ⟨by rfl, rfl⟩) (by assumption) ?qru980
 (try simp only [tA, tS, tZ, Act.put, uA, uS, uZ])
 refine tk 19 (v := ?qvu981) ?qyu981 ?qru981; case qyu981 => ((intro w hSw; (try dsimp only at hSw); go_simp); try (with_reducible rfl))
 (try simp only [tA, tS, tZ, Act.put, uA, uS, uZ])
 refine wpAnyH_done (by kernel_rfl) ?_ _
 obtain ⟨wc, ewv⟩ : ∃ wv, w7.drew = wv := ⟨_, rfl⟩
 have K8 : Keep (fun _ => False) W wc := by rw [← ewv]; exact K7.drew
 rw [ewv]
 have HC := H.out.same K8
 rw [EVV.out] at HC
 obtain ⟨g, eg, a0, a1, a2, a3, a4, a5, a6⟩ := HC.at' j y HY.out
 subst eg
 have c2 := HC.c2
 have m0 := K8.cell o0 id
 have m3 := K8.cell o3 id
 have f3 := OwnM.free HC.ov (j * 7 + 3)
 have f1 := OwnM.free HC.ov (j * 7 + 1)
 have gj : x.v[j]'LJ.out = y := by have := HY.out; rw [List.getElem?_eq_getElem LJ.out] at this; exact Option.some.inj this
 have P1 := HC.put j 3 LJ.out (by omega) (.int .i64 0) { y with ended := 0 } (by rw [gj]; rfl)
 have P2 := P1.put j 1 (by simpa using LJ.out) (by omega) (.int .i64 oval) { y with ended := 0, val := oval } (by simp [vrC])
 obtain ⟨wb, eb⟩ : ∃ wb, (wc.setCell ⟨g, j * 7 + 3, none⟩ (.int .i64 0)).setCell ⟨g, j * 7 + 1, none⟩ (.int .i64 oval) = wb := ⟨_, rfl⟩
 have KB : Keep (fun q => q = g) wc wb := by rw [← eb]; exact ((Keep.refl (fun q => q = g) wc).setCell (p := ⟨g, j * 7 + 3, none⟩) rfl _).setCell (p := ⟨g, j * 7 + 1, none⟩) rfl _
 rw [eb] at P2
 have gF : FootR m vv sw sr g := .inr (.inl (by rw [EVV.out]; rfl))
 have gM : ¬ M = g := fun e => FM.out (e ▸ gF)
 have gN : ¬ N = g := fun e => FN.out (e ▸ gF)
 have gm : ¬ m = g := fun e => HC.vm (by rw [e]; rfl)
 have n3 : (wc.setCell ⟨g, j * 7 + 3, none⟩ (.int .i64 0)).cell? ⟨M, 3, none⟩ = some (.int .i64 oval) := (keep_one wc ⟨g, j * 7 + 3, none⟩ _).cell m3 gM
 have n2 : (wc.setCell ⟨g, j * 7 + 3, none⟩ (.int .i64 0)).cell? ⟨m, 2, none⟩ = some (.slice (some ⟨g, 0, none⟩) nv cv) := (keep_one wc ⟨g, j * 7 + 3, none⟩ _).cell c2 gm
 have P2H := Lib.hid P2
 have KBH := Lib.hid KB
 have RBB := Lib.hid ((RB.out.keep K8 id).keep KB gN)
 have GF := Lib.hid gF
 have zf : z = { x with v := (x.v.set j { y with ended := 0 }).set j { y with ended := 0, val := oval } } := by
  rw [← HZ.out, if_pos (of_decide_eq_true EMI.out)]
  have w1 : MoI.wroteV x.v t.id ⟨3, okey, ohi, oval⟩ (some j) (some j) = setV x.v j fun x => { x with ended := 0, val := oval } := by
   unfold MoI.wroteV
   simp
  show ({ x with v := MoI.wroteV x.v t.id ⟨3, okey, ohi, oval⟩ (some j) (some j) } : MoI) = _
  rw [w1]
  unfold setV
  rw [modify_set HY.out, List.set_set]
 have ZF := Lib.hid zf
 clear hHeld ewv P1 P2 HC KB gF zf
 go_wp2_with fail
 refine wp_region_held_drew (S := fun w' => w'.cell? ⟨M, 3, none⟩ = some (.int .i64 oval) ∧ w'.cell? ⟨m, 2, none⟩ = some (.slice (some ⟨g, 0, none⟩) nv cv)) (by kernel_rfl) ⟨n3, n2⟩ (fun hHeld => ?_)
 refine tk 0 (v := ?qvu982) ?qyu982 ?qru982; case qyu982 => ((intro w hSw; (try dsimp only at hSw); go_simp); try (with_reducible rfl))
 (try simp only [tA, tS, tZ, Act.put, uA, uS, uZ])
 refine tk 1 (v := ?qvu983) ?qyu983 ?qru983; case qyu983 => ((intro w hSw; (try dsimp only at hSw); go_simp); try (with_reducible rfl))
 (try simp only [tA, tS, tZ, Act.put, uA, uS, uZ])
 refine tk 2 (v := ?qvu984) ?qyu984 ?qru984; case qyu984 => ((intro w hSw; (try dsimp only at hSw); go_simp); try (with_reducible rfl))
 (try simp only [tA, tS, tZ, Act.put, uA, uS, uZ])
 refine tk 3 (v := ?qvu985) ?qyu985 ?qru985; case qyu985 => ((intro w hSw; (try dsimp only at hSw); go_simp); try (with_reducible rfl))
 (try simp only [tA, tS, tZ, Act.put, uA, uS, uZ])
 refine tk 4 (v := ?qvu986) ?qyu986 ?qru986; case qyu986 => ((intro w hSw; (try dsimp only at hSw); go_simp); try (with_reducible rfl))
 (try simp only [tA, tS, tZ, Act.put, uA, uS, uZ])
 refine tk 5 (v := ?qvu987) ?qyu987 ?qru987; case qyu987 => ((intro w hSw; (try dsimp only at hSw); go_simp); try (with_reducible rfl))
 (try simp only [tA, tS, tZ, Act.put, uA, uS, uZ])
 refine tk 6 (v := ?qvu988) ?qyu988 ?qru988; case qyu988 => ((intro w hSw; (try dsimp only at hSw); go_simp); try (with_reducible rfl))
 (try simp only [tA, tS, tZ, Act.put, uA, uS, uZ])
 refine tk 7 (v := ?qvu989) ?qyu989 ?qru989; case qyu989 => ((intro w hSw; (try dsimp only at hSw); go_simp); try (with_reducible rfl))
 (try simp only [tA, tS, tZ, Act.put, uA, uS, uZ])
 refine tk 8 (v := ?qvu990) ?qyu990 ?qru990; case qyu990 => ((intro w hSw; (try dsimp only at hSw); go_simp); try (with_reducible rfl))
 (try simp only [tA, tS, tZ, Act.put, uA, uS, uZ])
 refine wpAnyH_ready (rs := [9]) (by kernel_rfl) (by simp) ?_
 refine AllReadyH.cons rfl (fun K hK => ?_) AllReadyH.nil
 go_simp
 go_simp
 refine hK.out _ _ ⟨KBH.out.cell m3 gM, KBH.out.cell c2 gm⟩ (fun hHeld => ?_)
 clear hK K
 (try simp only [tA, tS, tZ, Act.put, uA, uS, uZ])
 refine wpAnyH_done (by kernel_rfl) ?_ _
 have kd := (Keep.refl (fun _ => False) wb).drew
 obtain ⟨wz, ez⟩ : ∃ wz, wb.drew = wz := ⟨_, rfl⟩
 rw [ez] at kd ⊢
 have KD := Lib.hid kd
 have R6 := Lib.hid (RBB.out.keep kd id)
 obtain ⟨q0, q1, q2, q3, q4, q5⟩ := R6.out
 clear hHeld ez kd eb
 go_wp2
 (obtain ⟨W7, eW7⟩ : ∃ W7, (((((wz.setCell ⟨N, 0, none⟩ (.int .i64 0)).setCell ⟨N, 1, none⟩ (.int .i64 0)).setCell ⟨N, 2, none⟩ (.slice none 0 0)).setCell ⟨N, 3, none⟩ (.int .i64 0)).setCell ⟨N, 4, none⟩ (.int .i64 0)) = W7 := ⟨_, rfl⟩; obtain ⟨⟨v0, v1, v2, v3, v4, _⟩, k7⟩ := res_set R6.out _ _ _ _ _ eW7; rw [eW7]; refine bodyPost_ret (v := .agg #[.int .i64 0, .int .i64 0, .slice none 0 0, .int .i64 0, .int .i64 0]) (by simp [results, Try.results65, go_sem, v0, v1, v2, v3, v4]) rfl ⟨rfl, ?_⟩)
 have TT : RmTo W m vv sw sr z wz := by
  rw [ZF.out]
  refine ⟨_, sw, sr, P2H.out.same KD.out, ((K8.mono (fun _ e => e.elim)).trans (KBH.out.mono (fun q e => e ▸ GF.out))).trans (KD.out.mono (fun _ e => e.elim)), fun g hg => .inl (by rw [EVV.out]; exact hg)⟩
 exact TT.fin KW.out (by have := EM.out; have := HMN.out; omega) hNW FN.out k7
end
end Go.Proofs.Ytkkjofefjepodaa
