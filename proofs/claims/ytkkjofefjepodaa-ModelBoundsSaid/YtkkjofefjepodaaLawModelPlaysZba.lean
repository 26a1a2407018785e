/- Several texts, one behind the other: RmWd, RmZ, RmU, RmV2, RmGe, RmQ. -/
import Derived.Test.YtkkjofefjepodaaLawModelPlaysZab
import Derived.Test.YtkkjofefjepodaaLawModelPlaysZax
import Derived.Test.YtkkjofefjepodaaLawModelPlaysZay
import Derived.Test.YtkkjofefjepodaaLawModelPlaysZaz
import Derived.Test.YtkkjofefjepodaaLawModelPlaysZaw
import Derived.Test.YtkkjofefjepodaaLawModelPlaysZau
/- The document's own Model, a delete of one's own version. -/
namespace Go.Proofs.Ytkkjofefjepodaa
open Go.ChangeShapes Go.WideShapes Go.ChangeAt Go.RowKit
set_option linter.unusedVariables false
set_option linter.unusedSimpArgs false
section
variable {w w' W : World} {m : Nat} {vv vv' : Value} {sw sr sw' sr' : Nat → Value} {x y : MoI} {T : Nat → Prop}
set_option maxRecDepth 100000 in
set_option maxHeartbeats 8000000 in
theorem rwrite_delC (h : RmAt w m vv sw sr x) (f : Few x) (s : Nat) (hs : s < 8) (o : OpI) (hk : o.kind = 4) (i : Nat) (hat : seesI x.v (x.s s).id (x.s s).start o.key = (some i)) (hin : o.key ∈ (x.s s).wrote) (hown : x.v.findIdx? (ownV (x.s s).id o.key) = (some i)) (z : MoI)
  (hz : ({ (if o.key ∈ (x.s s).wrote then x else x.keepW s o.key) with v := MoI.wroteV x.v (x.s s).id o (some i) (x.v.findIdx? (ownV (x.s s).id o.key)) } : MoI) = z) :
  Calls Try.prog 65 #[.pointer (some ⟨m, 0, none⟩), .int .i64 s, opV o] w (DidR w m vv sw sr re0 z) := by
 obtain ⟨W1, eW1, ob, kW1⟩ := op_box w o
 obtain ⟨W, eW, rb, kW2⟩ := res_box W1
 have kW := kW1.trans kW2
 have fM : ¬ FootR m vv sw sr w.heap.size := fun q => by have := h.lt _ q; omega
 have fN : ¬ FootR m vv sw sr W1.heap.size := fun q => by have := h.lt _ q; have := kW1.size; omega
 have hmw := h.mlt
 have H := Lib.hid (h.same kW)
 obtain ⟨Av, cv, evv, hcv, _⟩ := h.vers
 obtain ⟨nv, env⟩ : ∃ n, x.v.length = n := ⟨_, rfl⟩
 rw [env] at evv hcv
 have EVV := Lib.hid evv
 have ENV := Lib.hid env
 clear evv env
 have s0 := H.out.s0 s hs
 have s1 := H.out.s1 s hs
 have s2 := H.out.s2 s hs
 have s3 := H.out.s3 s hs
 have s4 := H.out.s4 s hs
 have s5 := H.out.s5 s hs
 obtain ⟨A4, c4, e4⟩ := own_n _ _ _ (H.out.ow s hs)
 obtain ⟨A5, c5, e5⟩ := own_r _ _ _ (H.out.or' s hs)
 obtain ⟨t, et⟩ : ∃ t, x.s s = t := ⟨_, rfl⟩
 have OW := Lib.hid (H.out.ow s hs)
 have OR5 := Lib.hid (H.out.or' s hs)
 have FW := Lib.hid (f.w s hs)
 have FRS := Lib.hid (f.r s hs).1
 rw [et] at s0 s1 s2 s3 e4 e5 OW OR5 FW
 have ET := Lib.hid et
 obtain ⟨n4, en4⟩ : ∃ n, t.wrote.length = n := ⟨_, rfl⟩
 obtain ⟨n5, en5⟩ : ∃ n, t.reads.length = n := ⟨_, rfl⟩
 rw [en4] at e4
 rw [en5] at e5
 rw [e4] at s4
 rw [e5] at s5
 have E4 := Lib.hid e4
 have E5 := Lib.hid e5
 have EN4 := Lib.hid en4
 have EN5 := Lib.hid en5
 obtain ⟨M, eM⟩ : ∃ M, w.heap.size = M := ⟨_, rfl⟩
 obtain ⟨N, eN⟩ : ∃ N, W1.heap.size = N := ⟨_, rfl⟩
 have hMN : N = M + 1 := by rw [← eN, ← eW1, World.size_alloc, eM]
 have HMN := Lib.hid hMN
 have EM := Lib.hid eM
 have ES := Lib.hid eN
 have hNW : N < W.heap.size := by rw [← eW, World.size_alloc, eN]; exact Nat.lt_succ_self _
 rw [eM] at ob fM hmw
 rw [eN] at rb fN
 have OB := Lib.hid (ob.keep kW2 (fun e => e))
 have RB := Lib.hid rb
 have FM := Lib.hid fM
 have FN := Lib.hid fN
 have KW := Lib.hid kW
 have FV := Lib.hid f.v
 obtain ⟨o0, o1, o2, o3⟩ := OB.out
 obtain ⟨at', eat⟩ : ∃ at', seesI x.v t.id t.start o.key = at' := ⟨_, rfl⟩
 obtain ⟨mine, emi⟩ : ∃ b, decide (o.key ∈ t.wrote) = b := ⟨_, rfl⟩
 have EAT := Lib.hid eat
 have EMI := Lib.hid emi
 have HS := Lib.hid (fun (wx : World) (k : Keep (fun _ => False) W wx) => rsees_any (H.out.same k) (Nat.le_trans FV.out (by omega)) t (sw s) (sr s) o.key)
 have HW := Lib.hid (fun (wx : World) (k : Keep (fun _ => False) W wx) => rhas_any (OwnN.keep OW.out k (by simp)) (Nat.le_trans FW.out (by omega)) o.key mine EMI.out)
 rw [EAT.out, E4.out, E5.out] at HS
 rw [E4.out] at HW
 unfold txV at HS
 have HOW := Lib.hid (fun (wx : World) (k : Keep (fun _ => False) W wx) => rown_any (H.out.same k) (Nat.le_trans FV.out (by omega)) t.id o.key)
 obtain ⟨ok, okey, ohi, oval⟩ := o
 rw [ET.out] at hin hown hat hz
 obtain rfl : (some i) = at' := by rw [← EAT.out]; exact hat.symm
 have hown' : x.v.findIdx? (ownV t.id (OpI.key ⟨ok, okey, ohi, oval⟩)) = (some i) := hown
 rw [hown'] at HOW
 rw [hown] at hz
 obtain rfl : ok = 4 := hk
 have ai : idxV (some i) = (i : Int) := rfl
 have ai0 : (0 : Int) ≤ (i : Int) := by omega
 have ai1 : decide ((i : Int) < 0) = false := decide_eq_false (by omega)
 have ai2 : decide ((0 : Int) ≤ (i : Int)) = true := decide_eq_true ai0
 have li : i < x.v.length := by
  unfold seesI at hat
  split at hat
  ·next e => cases hat; exact (List.findIdx?_eq_some_iff_getElem.1 e).1
  ·exact (List.findIdx?_eq_some_iff_getElem.1 hat).1
 obtain ⟨yi, hyi⟩ : ∃ y, x.v[i]? = some y := ⟨_, List.getElem?_eq_getElem li⟩
 have HYI := Lib.hid hyi
 have lin : i < nv := by rw [← ENV.out]; exact li
 have lin2 : (i : Int) < (nv : Int) := by omega
 have HZ2 := Lib.hid (show z = ({ x with v := x.v.set i { yi with ended := t.id } } : MoI) from by
  have w1 : MoI.wroteV x.v t.id ⟨4, okey, ohi, oval⟩ (some i) (some i) = x.v.set i { yi with ended := t.id } := by unfold MoI.wroteV setV; simp [modify_set hyi]
  rw [← hz, if_pos hin, w1])
 have HZ := Lib.hid hz
 have EKK := Lib.hid hown
 have HNO := Lib.hid hin
 clear hin hown' hown hz hat li hyi
 clear hMN h ob rb fM fN f et e4 e5 en4 en5 eat emi kW kW1 kW2
 unfold DidR opV
 go_enter Try.func65, Try.ntmps65
 go_wp2_with fail
 refine wp_region_held_drew (S := fun w' => w'.cell? ⟨m, 3 + s * 6, none⟩ = some (.int .i64 t.id) ∧ w'.cell? ⟨m, 3 + s * 6 + 1, none⟩ = some (.int .i64 t.level) ∧ w'.cell? ⟨m, 3 + s * 6 + 2, none⟩ = some (.int .i64 t.ops) ∧ w'.cell? ⟨m, 3 + s * 6 + 3, none⟩ = some (.int .u64 t.start) ∧ w'.cell? ⟨m, 3 + s * 6 + 4, none⟩ = some (.slice A4 n4 c4) ∧ w'.cell? ⟨m, 3 + s * 6 + 5, none⟩ = some (.slice A5 n5 c5) ∧ w'.cell? ⟨M, 1, none⟩ = some (.int .i64 okey)) (by kernel_rfl) ⟨s0, s1, s2, s3, s4, s5, o1⟩ (fun hHeld => ?_)
 refine tk 0 (v := ?qvu1064) ?qyu1064 ?qru1064; case qyu1064 => ((intro w hSw; (try dsimp only at hSw); go_simp); try (with_reducible rfl))
 (try simp only [tA, tS, tZ, Act.put, uA, uS, uZ])
 refine tk 1 (v := ?qvu1065) ?qyu1065 ?qru1065; case qyu1065 => ((intro w hSw; (try dsimp only at hSw); go_simp); try (with_reducible rfl))
 (try simp only [tA, tS, tZ, Act.put, uA, uS, uZ])
 refine tk 2 (v := ?qvu1066) ?qyu1066 ?qru1066; case qyu1066 => ((intro w hSw; (try dsimp only at hSw); go_simp); try (with_reducible rfl))
 (try simp only [tA, tS, tZ, Act.put, uA, uS, uZ])
 refine tk 3 (v := ?qvu1067) ?qyu1067 ?qru1067; case qyu1067 => ((intro w hSw; (try dsimp only at hSw); go_simp); try (with_reducible rfl))
 (try simp only [tA, tS, tZ, Act.put, uA, uS, uZ])
 refine tk 4 (v := ?qvu1068) ?qyu1068 ?qru1068; case qyu1068 => ((intro w hSw; (try dsimp only at hSw); go_simp); try (with_reducible rfl))
 (try simp only [tA, tS, tZ, Act.put, uA, uS, uZ])
 refine tk 5 (v := ?qvu1069) ?qyu1069 ?qru1069; case qyu1069 => ((intro w hSw; (try dsimp only at hSw); go_simp); try (with_reducible rfl))
 (try simp only [tA, tS, tZ, Act.put, uA, uS, uZ])
 refine wpAnyH_ready (rs := [6]) (by kernel_rfl) (by simp) ?_
 refine AllReadyH.cons rfl (fun K hK => ?_) AllReadyH.nil
 go_simp
 refine (HS.out _ ((Keep.refl _ W).drew)).mono ?_
 rintro e w3 ⟨rfl, k3⟩
 refine hK.out _ _ ⟨k3.cell hHeld.1 id, k3.cell hHeld.2.1 id, k3.cell hHeld.2.2.1 id, k3.cell hHeld.2.2.2.1 id, k3.cell hHeld.2.2.2.2.1 id, k3.cell hHeld.2.2.2.2.2.1 id, k3.cell hHeld.2.2.2.2.2.2 id⟩ (fun hHeld => ?_)
 clear hK K
 (try simp only [tA, tS, tZ, Act.put, uA, uS, uZ])
 refine tk 7 (v := ?qvu1070) ?qyu1070 ?qru1070; case qyu1070 => ((intro w hSw; (try dsimp only at hSw); go_simp); try (with_reducible rfl))
 (try simp only [tA, tS, tZ, Act.put, uA, uS, uZ])
 refine wpAnyH_done (by kernel_rfl) ?_ _
 have K3 : Keep (fun _ => False) W w3 := ((Keep.refl _ W).drew).trans k3
 clear hHeld
 go_wp2_with fail
 refine wp_region_held_drew (S := fun w' => w'.cell? ⟨m, 3 + s * 6 + 4, none⟩ = some (.slice A4 n4 c4) ∧ w'.cell? ⟨M, 1, none⟩ = some (.int .i64 okey)) (by kernel_rfl) ⟨K3.cell s4 id, K3.cell o1 id⟩ (fun hHeld => ?_)
 refine tk 0 (v := ?qvu1071) ?qyu1071 ?qru1071; case qyu1071 => ((intro w hSw; (try dsimp only at hSw); go_simp); try (with_reducible rfl))
 (try simp only [tA, tS, tZ, Act.put, uA, uS, uZ])
 refine tk 1 (v := ?qvu1072) ?qyu1072 ?qru1072; case qyu1072 => ((intro w hSw; (try dsimp only at hSw); go_simp); try (with_reducible rfl))
 (try simp only [tA, tS, tZ, Act.put, uA, uS, uZ])
 refine tk 2 (v := ?qvu1073) ?qyu1073 ?qru1073; case qyu1073 => ((intro w hSw; (try dsimp only at hSw); go_simp); try (with_reducible rfl))
 (try simp only [tA, tS, tZ, Act.put, uA, uS, uZ])
 refine tk 3 (v := ?qvu1074) ?qyu1074 ?qru1074; case qyu1074 => ((intro w hSw; (try dsimp only at hSw); go_simp); try (with_reducible rfl))
 (try simp only [tA, tS, tZ, Act.put, uA, uS, uZ])
 refine tk 4 (v := ?qvu1075) ?qyu1075 ?qru1075; case qyu1075 => ((intro w hSw; (try dsimp only at hSw); go_simp); try (with_reducible rfl))
 (try simp only [tA, tS, tZ, Act.put, uA, uS, uZ])
 refine tk 5 (v := ?qvu1076) ?qyu1076 ?qru1076; case qyu1076 => ((intro w hSw; (try dsimp only at hSw); go_simp); try (with_reducible rfl))
 (try simp only [tA, tS, tZ, Act.put, uA, uS, uZ])
 refine wpAnyH_ready (rs := [6]) (by kernel_rfl) (by simp) ?_
 refine AllReadyH.cons rfl (fun K hK => ?_) AllReadyH.nil
 go_simp
 refine (HW.out _ (K3.drew)).mono ?_
 rintro e w4 ⟨rfl, rfl⟩
 refine hK.out _ _ hHeld (fun hHeld => ?_)
 clear hK K
 (try simp only [tA, tS, tZ, Act.put, uA, uS, uZ])
 refine tk 7 (v := ?qvu1077) ?qyu1077 ?qru1077; case qyu1077 => ((intro w hSw; (try dsimp only at hSw); go_simp); try (with_reducible rfl))
 (try simp only [tA, tS, tZ, Act.put, uA, uS, uZ])
 refine wpAnyH_done (by kernel_rfl) ?_ _
 have K4 : Keep (fun _ => False) W w3.drew := K3.drew
 clear hHeld
 obtain ⟨wq, ewq⟩ : ∃ wq, w3.drew = wq := ⟨_, rfl⟩
 rw [ewq] at K4 ⊢
 clear ewq K3 k3
 obtain ⟨p0, p1, p2, p3⟩ := OB.out.keep K4 id
 have H4 := Lib.hid (H.out.same K4)
 have R4 := Lib.hid (RB.out.keep K4 id)
 obtain rfl : mine = true := by rw [← EMI.out]; exact decide_eq_true HNO.out
 have s0 := H4.out.s0 s hs
 have s1 := H4.out.s1 s hs
 have s2 := H4.out.s2 s hs
 have s3 := H4.out.s3 s hs
 have s4 := H4.out.s4 s hs
 have s5 := H4.out.s5 s hs
 rw [ET.out] at s0 s1 s2 s3
 rw [E4.out] at s4
 rw [E5.out] at s5
 go_wp2_with fail
 refine wp_region_held_drew (S := fun w' => w'.cell? ⟨m, 3 + s * 6, none⟩ = some (.int .i64 t.id) ∧ w'.cell? ⟨m, 3 + s * 6 + 1, none⟩ = some (.int .i64 t.level) ∧ w'.cell? ⟨m, 3 + s * 6 + 2, none⟩ = some (.int .i64 t.ops) ∧ w'.cell? ⟨m, 3 + s * 6 + 3, none⟩ = some (.int .u64 t.start) ∧ w'.cell? ⟨m, 3 + s * 6 + 4, none⟩ = some (.slice A4 n4 c4) ∧ w'.cell? ⟨m, 3 + s * 6 + 5, none⟩ = some (.slice A5 n5 c5) ∧ w'.cell? ⟨M, 1, none⟩ = some (.int .i64 okey)) (by kernel_rfl) ⟨s0, s1, s2, s3, s4, s5, p1⟩ (fun hHeld => ?_)
 refine tk 0 (v := ?qvu1078) ?qyu1078 ?qru1078; case qyu1078 => ((intro w hSw; (try dsimp only at hSw); go_simp); try (with_reducible rfl))
 (try simp only [tA, tS, tZ, Act.put, uA, uS, uZ])
 refine tk 1 (v := ?qvu1079) ?qyu1079 ?qru1079; case qyu1079 => ((intro w hSw; (try dsimp only at hSw); go_simp); try (with_reducible rfl))
 (try simp only [tA, tS, tZ, Act.put, uA, uS, uZ])
 refine tk 2 (v := ?qvu1080) ?qyu1080 ?qru1080; case qyu1080 => ((intro w hSw; (try dsimp only at hSw); go_simp); try (with_reducible rfl))
 (try simp only [tA, tS, tZ, Act.put, uA, uS, uZ])
 refine wpAnyH_take (i := 3) (v := undef) rfl (by kernel_rfl) (by kernel_rfl) (by kernel_rfl) (fun _ _ _ h => h) (Or.inr ⟨by rfl, rfl⟩) (by assumption) ?qru1081
 (try simp only [tA, tS, tZ, Act.put, uA, uS, uZ])
 refine wpAnyH_take (i := 4) (v := undef) rfl (by kernel_rfl) (by kernel_rfl) (by kernel_rfl) (fun _ _ _ h => h) (Or.inr ⟨by rfl, rfl⟩) (by assumption) ?qru1082
 (try simp only [tA, tS, tZ, Act.put, uA, uS, uZ])
 refine wpAnyH_take (i := 5) (v := undef) rfl (by kernel_rfl) (by kernel_rfl) (by kernel_rfl) (fun _ _ _ h => h) (Or.inr ⟨by rfl, rfl⟩) (by assumption) ?qru1083
 (try simp only [tA, tS, tZ, Act.put, uA, uS, uZ])
 refine wpAnyH_take (i := 6) (v := undef) rfl (by kernel_rfl) (by kernel_rfl) (by kernel_rfl) (fun _ _ _ h => h) (Or.inr ⟨by rfl, rfl⟩) (by assumption) ?qru1084
 (try simp only [tA, tS, tZ, Act.put, uA, uS, uZ])
 refine wpAnyH_take (i := 7) (v := undef) rfl (by kernel_rfl) (by kernel_rfl) (by kernel_rfl) (fun _ _ _ h => h) (Or.inr ⟨by rfl, rfl⟩) (by assumption) ?qru1085
 (try simp only [tA, tS, tZ, Act.put, uA, uS, uZ])
 refine wpAnyH_take (i := 8) (v := undef) rfl (by kernel_rfl) (by kernel_rfl) (by kernel_rfl) (fun _ _ _ h => h) (Or.inr ⟨by rfl, rfl⟩) (by assumption) ?qru1086
 (try simp only [tA, tS, tZ, Act.put, uA, uS, uZ])
 refine wpAnyH_take (i := 9) (v := undef) rfl (by kernel_rfl) (by kernel_rfl) (by kernel_rfl) (fun _ _ _ h => h) (Or.inr ⟨by rfl, rfl⟩) (by assumption) ?qru1087
 (try simp only [tA, tS, tZ, Act.put, uA, uS, uZ])
 refine tk 10 (v := ?qvu1088) ?qyu1088 ?qru1088; case qyu1088 => ((intro w hSw; (try dsimp only at hSw); go_simp); try (with_reducible rfl))
 (try simp only [tA, tS, tZ, Act.put, uA, uS, uZ])
 refine wpAnyH_done (by kernel_rfl) ?_ _
 obtain ⟨w5, ew5⟩ : ∃ w5, wq.drew = w5 := ⟨_, rfl⟩
 have K5 : Keep (fun _ => False) W w5 := by rw [← ew5]; exact K4.drew
 rw [ew5]
 clear ew5
 clear hHeld
 go_wp2_with fail
 have KO : Keep (fun _ => False) W w5.drew := K5.drew
 refine wp_region_held_drew (S := fun w' => w'.cell? ⟨m, 3 + s * 6, none⟩ = some (.int .i64 t.id) ∧ w'.cell? ⟨M, 1, none⟩ = some (.int .i64 okey)) (by kernel_rfl) ⟨by have := (H.out.same KO).s0 s hs; rwa [ET.out] at this, KO.cell o1 id⟩ (fun hHeld => ?_)
 refine tk 0 (v := ?qvu1089) ?qyu1089 ?qru1089; case qyu1089 => ((intro w hSw; (try dsimp only at hSw); go_simp); try (with_reducible rfl))
 (try simp only [tA, tS, tZ, Act.put, uA, uS, uZ])
 refine tk 1 (v := ?qvu1090) ?qyu1090 ?qru1090; case qyu1090 => ((intro w hSw; (try dsimp only at hSw); go_simp); try (with_reducible rfl))
 (try simp only [tA, tS, tZ, Act.put, uA, uS, uZ])
 refine tk 2 (v := ?qvu1091) ?qyu1091 ?qru1091; case qyu1091 => ((intro w hSw; (try dsimp only at hSw); go_simp); try (with_reducible rfl))
 (try simp only [tA, tS, tZ, Act.put, uA, uS, uZ])
 refine tk 3 (v := ?qvu1092) ?qyu1092 ?qru1092; case qyu1092 => ((intro w hSw; (try dsimp only at hSw); go_simp); try (with_reducible rfl))
 (try simp only [tA, tS, tZ, Act.put, uA, uS, uZ])
 refine tk 4 (v := ?qvu1093) ?qyu1093 ?qru1093; case qyu1093 => ((intro w hSw; (try dsimp only at hSw); go_simp); try (with_reducible rfl))
 (try simp only [tA, tS, tZ, Act.put, uA, uS, uZ])
 refine tk 5 (v := ?qvu1094) ?qyu1094 ?qru1094; case qyu1094 => ((intro w hSw; (try dsimp only at hSw); go_simp); try (with_reducible rfl))
 (try simp only [tA, tS, tZ, Act.put, uA, uS, uZ])
 refine tk 6 (v := ?qvu1095) ?qyu1095 ?qru1095; case qyu1095 => ((intro w hSw; (try dsimp only at hSw); go_simp); try (with_reducible rfl))
 (try simp only [tA, tS, tZ, Act.put, uA, uS, uZ])
 refine wpAnyH_ready (rs := [7]) (by kernel_rfl) (by simp) ?_
 refine AllReadyH.cons rfl (fun K hK => ?_) AllReadyH.nil
 go_simp
 refine (HOW.out _ KO).mono ?_
 rintro e w7 ⟨rfl, k7'⟩
 refine hK.out _ _ ⟨k7'.cell hHeld.1 id, k7'.cell hHeld.2 id⟩ (fun hHeld => ?_)
 clear hK K
 (try simp only [tA, tS, tZ, Act.put, uA, uS, uZ])
 refine tk 8 (v := ?qvu1096) ?qyu1096 ?qru1096; case qyu1096 => ((intro w hSw; (try dsimp only at hSw); go_simp); try (with_reducible rfl))
 (try simp only [tA, tS, tZ, Act.put, uA, uS, uZ])
 refine wpAnyH_done (by kernel_rfl) ?_ _
 have K7 := KO.trans k7'
 clear hHeld
 have c0 := (H.out.same K7).c0
 have c2 := (H.out.same K7).c2
 rw [EVV.out] at c2
 have z0 := K7.cell o0 id
 go_wp2_with fail
 refine wp_region_held_drew (S := fun w' => w'.cell? ⟨M, 0, none⟩ = some (.int .i64 4) ∧ w'.cell? ⟨m, 2, none⟩ = some (.slice Av nv cv) ∧ w'.cell? ⟨m, 0, none⟩ = some (.int .i64 x.slots)) (by kernel_rfl) ⟨z0, c2, c0⟩ (fun hHeld => ?_)
 refine tk 0 (v := ?qvu1097) ?qyu1097 ?qru1097; case qyu1097 => ((intro w hSw; (try dsimp only at hSw); go_simp); try (with_reducible rfl))
 (try simp only [tA, tS, tZ, Act.put, uA, uS, uZ])
 refine tk 1 (v := ?qvu1098) ?qyu1098 ?qru1098; case qyu1098 => ((intro w hSw; (try dsimp only at hSw); go_simp); try (with_reducible rfl))
 (try simp only [tA, tS, tZ, Act.put, uA, uS, uZ])
 refine tk 2 (v := ?qvu1099) ?qyu1099 ?qru1099; case qyu1099 => ((intro w hSw; (try dsimp only at hSw); go_simp); try (with_reducible rfl))
 (try simp only [tA, tS, tZ, Act.put, uA, uS, uZ])
 refine tk 3 (v := ?qvu1100) ?qyu1100 ?qru1100; case qyu1100 => ((intro w hSw; (try dsimp only at hSw); go_simp); try (with_reducible rfl))
 (try simp only [tA, tS, tZ, Act.put, uA, uS, uZ])
 refine wpAnyH_take (i := 4) (v := undef) rfl (by kernel_rfl) (by kernel_rfl) (by kernel_rfl) (fun _ _ _ h => h) (Or.inr ⟨by rfl, rfl⟩) (by assumption) ?qru1101
 (try simp only [tA, tS, tZ, Act.put, uA, uS, uZ])
 refine wpAnyH_take (i := 5) (v := undef) rfl (by kernel_rfl) (by kernel_rfl) (by kernel_rfl) (fun _ _ _ h => h) (Or.inr ⟨by rfl, rfl⟩) (by assumption) ?qru1102
 (try simp only [tA, tS, tZ, Act.put, uA, uS, uZ])
 refine tk 6 (v := ?qvu1103) ?qyu1103 ?qru1103; case qyu1103 => ((intro w hSw; (try dsimp only at hSw); go_simp); try (with_reducible rfl))
 (try simp only [tA, tS, tZ, Act.put, uA, uS, uZ])
 refine tk 7 (v := ?qvu1104) ?qyu1104 ?qru1104; case qyu1104 => ((intro w hSw; (try dsimp only at hSw); go_simp); try (with_reducible rfl))
 (try simp only [tA, tS, tZ, Act.put, uA, uS, uZ])
 refine wpAnyH_take (i := 8) (v := undef) rfl (by kernel_rfl) (by kernel_rfl) (by kernel_rfl) (fun _ _ _ h => h) (Or.inr ⟨by rfl, rfl⟩) (by assumption) ?qru1105
 (try simp only [tA, tS, tZ, Act.put, uA, uS, uZ])
 refine wpAnyH_take (i := 9) (v := undef) rfl (by kernel_rfl) (by kernel_rfl) (by kernel_rfl) (fun _ _ _ h => h) (Or.inr ⟨by rfl, rfl⟩) (by assumption) ?qru1106
 (try simp only [tA, tS, tZ, Act.put, uA, uS, uZ])
 refine wpAnyH_take (i := 10) (v := undef) rfl (by kernel_rfl) (by kernel_rfl) (by kernel_rfl) (fun _ _ _ h => h) (Or.inr ⟨by rfl, rfl⟩) (by assumption) ?qru1107
 (try simp only [tA, tS, tZ, Act.put, uA, uS, uZ])
 refine wpAnyH_take (i := 11) (v := undef) rfl (by kernel_rfl) (by kernel_rfl) (by kernel_rfl) (fun _ _ _ h => h) (Or.inr ⟨by rfl, rfl⟩) (by assumption) ?qru1108
 (try simp only [tA, tS, tZ, Act.put, uA, uS, uZ])
 refine wpAnyH_take (i := 12) (v := undef) rfl (by kernel_rfl) (by kernel_rfl) (by kernel_rfl) (fun _ _ _ h => h) (Or.inr ⟨by rfl, rfl⟩) (by assumption) ?qru1109
 (try simp only [tA, tS, tZ, Act.put, uA, uS, uZ])
 refine wpAnyH_take (i := 13) (v := undef) rfl (by kernel_rfl) (by kernel_rfl) (by kernel_rfl) (fun _ _ _ h => h) (Or.inr ⟨by rfl, rfl⟩) (by assumption) ?qru1110
 (try simp only [tA, tS, tZ, Act.put, uA, uS, uZ])
 refine wpAnyH_take (i := 14) (v := undef) rfl (by kernel_rfl) (by kernel_rfl) (by kernel_rfl) (fun _ _ _ h => h) (Or.inr ⟨by rfl, rfl⟩) (by assumption) ?qru1111
 (try simp only [tA, tS, tZ, Act.put, uA, uS, uZ])
 refine wpAnyH_take (i := 15) (v := undef) rfl (by kernel_rfl) (by kernel_rfl) (by kernel_rfl) (fun _ _ _ h => h) (Or.inr ⟨by rfl, rfl⟩) (by assumption) ?qru1112
 (try simp only [tA, tS, tZ, Act.put, uA, uS, uZ])
 refine wpAnyH_take (i := 16) (v := undef) rfl (by kernel_rfl) (by kernel_rfl) (by kernel_rfl) (fun _ _ _ h => h) (Or.inr ⟨by rfl, rfl⟩) (by assumption) ?qru1113
 (try simp only [tA, tS, tZ, Act.put, uA, uS, uZ])
 refine wpAnyH_take (i := 17) (v := undef) rfl (by kernel_rfl) (by kernel_rfl) (by kernel_rfl) (fun _ _ _ h => h) (Or.inr ⟨by rfl, rfl⟩) (by assumption) ?qru1114
 (try simp only [tA, tS, tZ, Act.put, uA, uS, uZ])
 refine wpAnyH_take (i := 18) (v := undef) rfl (by kernel_rfl) (by kernel_rfl) (by kernel_rfl) (fun _ _ _ h => h) (Or.inr ⟨by rfl, rfl⟩) (by assumption) ?qru1115
 (try simp only [tA, tS, tZ, Act.put, uA, uS, uZ])
 refine tk 19 (v := ?qvu1116) ?qyu1116 ?qru1116; case qyu1116 => ((intro w hSw; (try dsimp only at hSw); go_simp); try (with_reducible rfl))
 (try simp only [tA, tS, tZ, Act.put, uA, uS, uZ])
 refine wpAnyH_done (by kernel_rfl) ?_ _
 obtain ⟨wc, ewv⟩ : ∃ wv, w7.drew = wv := ⟨_, rfl⟩
 have K8 : Keep (fun _ => False) W wc := by rw [← ewv]; exact K7.drew
 rw [ewv]
 have hcut : RmTo W m vv sw sr x wc := RmTo.same (H.out.same K8) (K8.mono (fun _ e => e.elim))
 clear hHeld ewv
 obtain ⟨vv1, sw1, sr1, a1, a2, a3⟩ := hcut
 have m0 := a2.cell o0 FM.out
 obtain ⟨Av1, cv1, ev1, hcv1, _⟩ := a1.vers
 have nv1 : (x).v.length = nv := ENV.out
 rw [nv1] at ev1 hcv1
 subst ev1
 obtain ⟨g, eg, b0, b1, b2, b3, b4, b5, b6⟩ := a1.at' i yi (HYI.out)
 subst eg
 have gF := a3 g (.inr (.inl rfl))
 have gM : ¬ M = g := fun e => by
  rcases gF with q | q
  ·exact FM.out (e ▸ q)
  ·have := hNW; have := HMN.out; omega
 have gm : ¬ m = g := fun e => a1.vm (by rw [e]; rfl)
 have c2 := a1.c2
 have sid : wc.cell? ⟨m, 3 + s * 6, none⟩ = some (.int .i64 t.id) := by have := a1.s0 s hs; rw [show (x.s s).id = t.id from by rw [ET.out]] at this; exact this
 have fE := OwnM.free a1.ov (i * 7 + 3)
 have gi : ∀ hh, (x).v[i]'hh = yi := fun hh => (List.getElem?_eq_some_iff.1 (HYI.out)).2
 have P := a1.put i 3 (by rw [nv1]; exact lin) (by omega) (.int .i64 t.id) { yi with ended := t.id } (by rw [gi]; rfl)
 obtain ⟨wb, eb⟩ : ∃ wb, wc.setCell ⟨g, i * 7 + 3, none⟩ (.int .i64 t.id) = wb := ⟨_, rfl⟩
 have KB : Keep (fun q => q = g) wc wb := by rw [← eb]; exact (Keep.refl (fun q => q = g) wc).setCell (p := ⟨g, i * 7 + 3, none⟩) rfl _
 rw [eb] at P
 have KBH := Lib.hid KB
 have PH := Lib.hid P
 have KC := Lib.hid a2
 have FC := Lib.hid a3
 clear a1 a2 a3 P KB gF gi nv1 b0 b1 b2 b4 b5 b6
 go_wp2_with fail
 refine wp_region_held_drew (S := fun w' => w'.cell? ⟨m, 2, none⟩ = some (.slice (some ⟨g, 0, none⟩) nv cv1) ∧ w'.cell? ⟨m, 3 + s * 6, none⟩ = some (.int .i64 t.id)) (by kernel_rfl) ⟨c2, sid⟩ (fun hHeld => ?_)
 refine tk 0 (v := ?qvu1117) ?qyu1117 ?qru1117; case qyu1117 => ((intro w hSw; (try dsimp only at hSw); go_simp); try (with_reducible rfl))
 (try simp only [tA, tS, tZ, Act.put, uA, uS, uZ])
 refine tk 1 (v := ?qvu1118) ?qyu1118 ?qru1118; case qyu1118 => ((intro w hSw; (try dsimp only at hSw); go_simp); try (with_reducible rfl))
 (try simp only [tA, tS, tZ, Act.put, uA, uS, uZ])
 refine tk 2 (v := ?qvu1119) ?qyu1119 ?qru1119; case qyu1119 => ((intro w hSw; (try dsimp only at hSw); go_simp); try (with_reducible rfl))
 (try simp only [tA, tS, tZ, Act.put, uA, uS, uZ])
 refine tk 3 (v := ?qvu1120) ?qyu1120 ?qru1120; case qyu1120 => ((intro w hSw; (try dsimp only at hSw); go_simp); try (with_reducible rfl))
 (try simp only [tA, tS, tZ, Act.put, uA, uS, uZ])
 refine tk 4 (v := ?qvu1121) ?qyu1121 ?qru1121; case qyu1121 => ((intro w hSw; (try dsimp only at hSw); go_simp); try (with_reducible rfl))
 (try simp only [tA, tS, tZ, Act.put, uA, uS, uZ])
 refine tk 5 (v := ?qvu1122) ?qyu1122 ?qru1122; case qyu1122 => ((intro w hSw; (try dsimp only at hSw); go_simp); try (with_reducible rfl))
 (try simp only [tA, tS, tZ, Act.put, uA, uS, uZ])
 refine tk 6 (v := ?qvu1123) ?qyu1123 ?qru1123; case qyu1123 => ((intro w hSw; (try dsimp only at hSw); go_simp); try (with_reducible rfl))
 (try simp only [tA, tS, tZ, Act.put, uA, uS, uZ])
 refine tk 7 (v := ?qvu1124) ?qyu1124 ?qru1124; case qyu1124 => ((intro w hSw; (try dsimp only at hSw); go_simp); try (with_reducible rfl))
 (try simp only [tA, tS, tZ, Act.put, uA, uS, uZ])
 refine tk 8 (v := ?qvu1125) ?qyu1125 ?qru1125; case qyu1125 => ((intro w hSw; (try dsimp only at hSw); go_simp); try (with_reducible rfl))
 (try simp only [tA, tS, tZ, Act.put, uA, uS, uZ])
 refine tk 9 (v := ?qvu1126) ?qyu1126 ?qru1126; case qyu1126 => ((intro w hSw; (try dsimp only at hSw); go_simp); try (with_reducible rfl))
 (try simp only [tA, tS, tZ, Act.put, uA, uS, uZ])
 refine tk 10 (v := ?qvu1127) ?qyu1127 ?qru1127; case qyu1127 => ((intro w hSw; (try dsimp only at hSw); go_simp); try (with_reducible rfl))
 (try simp only [tA, tS, tZ, Act.put, uA, uS, uZ])
 refine wpAnyH_ready (rs := [11]) (by kernel_rfl) (by simp) ?_
 refine AllReadyH.cons rfl (fun K hK => ?_) AllReadyH.nil
 go_simp
 go_simp
 refine hK.out _ _ ⟨KBH.out.cell c2 gm, KBH.out.cell sid gm⟩ (fun hHeld => ?_)
 clear hK K
 (try simp only [tA, tS, tZ, Act.put, uA, uS, uZ])
 refine wpAnyH_done (by kernel_rfl) ?_ _
 have kd := (Keep.refl (fun _ => False) wb).drew
 obtain ⟨wd, ed⟩ : ∃ wd, wb.drew = wd := ⟨_, rfl⟩
 rw [ed] at kd ⊢
 have hcut : RmTo W m vv sw sr ({ x with v := x.v.set i { yi with ended := t.id } }) wd := ⟨_, sw1, sr1, PH.out.same kd, KC.out.onew ((KBH.out.mono (fun q e => .inr (.inl (by rw [e]; rfl)))).trans (kd.mono (fun _ e => e.elim))) FC.out, FC.out⟩
 clear hHeld ed kd eb PH KBH KC FC c2 sid fE gM gm m0 b3
 obtain ⟨vv2, sw2, sr2, a1, a2, a3⟩ := hcut
 have HC := Lib.hid a1
 have KC := Lib.hid a2
 have FC := Lib.hid a3
 have m0 := a2.cell o0 FM.out
 have R6 := Lib.hid (RB.out.keep a2 FN.out)
 obtain ⟨q0, q1, q2, q3, q4, q5⟩ := R6.out
 clear a1 a2 a3
 go_wp2
 (obtain ⟨W7, eW7⟩ : ∃ W7, (((((wd.setCell ⟨N, 0, none⟩ (.int .i64 0)).setCell ⟨N, 1, none⟩ (.int .i64 0)).setCell ⟨N, 2, none⟩ (.slice none 0 0)).setCell ⟨N, 3, none⟩ (.int .i64 0)).setCell ⟨N, 4, none⟩ (.int .i64 0)) = W7 := ⟨_, rfl⟩; obtain ⟨⟨v0, v1, v2, v3, v4, _⟩, k7⟩ := res_set R6.out _ _ _ _ _ eW7; rw [eW7]; refine bodyPost_ret (v := .agg #[.int .i64 0, .int .i64 0, .slice none 0 0, .int .i64 0, .int .i64 0]) (by simp [results, Try.results65, go_sem, v0, v1, v2, v3, v4]) rfl ⟨rfl, ?_⟩)
 have TT : RmTo W m vv sw sr z wd := by
  rw [HZ2.out]
  exact ⟨_, _, _, HC.out, KC.out, FC.out⟩
 exact TT.fin KW.out (by have := EM.out; have := HMN.out; omega) hNW FN.out k7
end
end Go.Proofs.Ytkkjofefjepodaa
/- The document's own Model, write whole: over what a Model always keeps (Few; a key not in 'wrote' has no version of one's own; a key in 'wrote' is seen in one's own alone). -/
namespace Go.Proofs.Ytkkjofefjepodaa
set_option linter.unusedVariables false
set_option linter.unusedSimpArgs false
section
variable {w : World} {m : Nat} {vv : Value} {sw sr : Nat → Value} {x : MoI}
/-- A write that does not get so far as its taking. -/
theorem write_no (s : Nat) (o : OpI) (h : (o.kind = 2 ∧ seesI x.v (x.s s).id (x.s s).start o.key ≠ none) ∨ (o.kind ≠ 2 ∧ seesI x.v (x.s s).id (x.s s).start o.key = none)) :
  x.write s o = (⟨if seesI x.v (x.s s).id (x.s s).start o.key = none then 11 else 12, 0, [], 0, 0⟩, if o.key ∈ (x.s s).wrote then x else x.keepR s ⟨o.key, o.key, false, false⟩) := by
 unfold MoI.write
 simp only
 rw [if_pos h]
 by_cases hm : o.key ∈ (x.s s).wrote <;> simp [hm]
theorem write_con (s : Nat) (o : OpI) (h : ¬ ((o.kind = 2 ∧ seesI x.v (x.s s).id (x.s s).start o.key ≠ none) ∨ (o.kind ≠ 2 ∧ seesI x.v (x.s s).id (x.s s).start o.key = none))) (hm : o.key ∉ (x.s s).wrote) (ht : x.taken (x.s s).id (x.s s).start o.key = true) :
  x.write s o = (MoI.bad 2, x.over s) := by
 unfold MoI.write
 simp only
 rw [if_neg h, if_pos ⟨decide_eq_false hm, ht⟩]
theorem write_full (s : Nat) (o : OpI) (h : ¬ ((o.kind = 2 ∧ seesI x.v (x.s s).id (x.s s).start o.key ≠ none) ∨ (o.kind ≠ 2 ∧ seesI x.v (x.s s).id (x.s s).start o.key = none))) (ht : o.key ∈ (x.s s).wrote ∨ x.taken (x.s s).id (x.s s).start o.key = false) (h4 : o.kind ≠ 4) (ho : x.v.findIdx? (ownV (x.s s).id o.key) = none) (hf : x.slots ≤ x.v.length) :
  x.write s o = (MoI.bad 5, x.over s) := by
 unfold MoI.write
 simp only
 rw [if_neg h, if_neg (fun e => by rcases ht with q | q; exact of_decide_eq_false e.1 q; rw [q] at e; cases e.2), if_pos ⟨h4, ho, hf⟩]
theorem write_ok (s : Nat) (o : OpI) (h : ¬ ((o.kind = 2 ∧ seesI x.v (x.s s).id (x.s s).start o.key ≠ none) ∨ (o.kind ≠ 2 ∧ seesI x.v (x.s s).id (x.s s).start o.key = none))) (ht : o.key ∈ (x.s s).wrote ∨ x.taken (x.s s).id (x.s s).start o.key = false) (hf : ¬ (o.kind ≠ 4 ∧ x.v.findIdx? (ownV (x.s s).id o.key) = none ∧ x.slots ≤ x.v.length)) :
  x.write s o = (re0, { (if o.key ∈ (x.s s).wrote then x else x.keepW s o.key) with v := MoI.wroteV x.v (x.s s).id o (seesI x.v (x.s s).id (x.s s).start o.key) (x.v.findIdx? (ownV (x.s s).id o.key)) }) := by
 unfold MoI.write
 simp only
 rw [if_neg h, if_neg (fun e => by rcases ht with q | q; exact of_decide_eq_false e.1 q; rw [q] at e; cases e.2), if_neg hf]
 by_cases hm : o.key ∈ (x.s s).wrote <;> simp [hm]
theorem rwrite_any (h : RmAt w m vv sw sr x) (f : Few x) (s : Nat) (hs : s < 8) (o : OpI) (hk : o.kind = 2 ∨ o.kind = 3 ∨ o.kind = 4) (hkm : o.key ∉ (x.s s).wrote → x.v.findIdx? (ownV (x.s s).id o.key) = none) (hkn : ∀ i, o.key ∈ (x.s s).wrote → seesI x.v (x.s s).id (x.s s).start o.key = some i → x.v.findIdx? (ownV (x.s s).id o.key) = some i) :
    Calls Try.prog 65 #[.pointer (some ⟨m, 0, none⟩), .int .i64 s, opV o] w (DidR w m vv sw sr (x.write s o).1 (x.write s o).2) := by
  cases hat : seesI x.v (x.s s).id (x.s s).start o.key with
  | none =>
    by_cases k2 : o.kind = 2
    · have hno : ¬ ((o.kind = 2 ∧ seesI x.v (x.s s).id (x.s s).start o.key ≠ none) ∨ (o.kind ≠ 2 ∧ seesI x.v (x.s s).id (x.s s).start o.key = none)) := by simp [hat, k2]
      have k4 : o.kind ≠ 4 := by omega
      by_cases hm : o.key ∈ (x.s s).wrote
      · cases ho : x.v.findIdx? (ownV (x.s s).id o.key) with
        | none =>
          by_cases hf : x.slots ≤ x.v.length
          · rw [write_full s o hno (.inl hm) k4 ho hf]
            exact rwrite_full h f s hs o hno (.inl hm) k4 ho hf
          · rw [write_ok s o hno (.inl hm) (fun e => hf e.2.2), hat]
            exact rwrite_insB h f s hs o k2 hat hm ho hf _ rfl
        | some j =>
          rw [write_ok s o hno (.inl hm) (fun e => by rw [ho] at e; cases e.2.1), hat]
          exact rwrite_insC h f s hs o k2 j hat hm ho _ rfl
      · have ho := hkm hm
        cases ht : x.taken (x.s s).id (x.s s).start o.key with
        | true =>
          rw [write_con s o hno hm ht]
          exact rwrite_con h f s hs o hno hm ht
        | false =>
          by_cases hf : x.slots ≤ x.v.length
          · rw [write_full s o hno (.inr ht) k4 ho hf]
            exact rwrite_full h f s hs o hno (.inr ht) k4 ho hf
          · rw [write_ok s o hno (.inr ht) (fun e => hf e.2.2), hat]
            exact rwrite_insA h f s hs o k2 hat hm ht ho hf _ rfl
    · rw [write_no s o (.inr ⟨k2, hat⟩), hat, if_pos rfl]
      exact rwrite_none h f s hs o k2 hat _ rfl
  | some i =>
    by_cases k2 : o.kind = 2
    · rw [write_no s o (.inl ⟨k2, by rw [hat]; simp⟩), hat, if_neg (by simp)]
      exact rwrite_some h f s hs o k2 i hat _ rfl
    · have hno : ¬ ((o.kind = 2 ∧ seesI x.v (x.s s).id (x.s s).start o.key ≠ none) ∨ (o.kind ≠ 2 ∧ seesI x.v (x.s s).id (x.s s).start o.key = none)) := by simp [hat, k2]
      have k34 := hk.resolve_left k2
      by_cases hm : o.key ∈ (x.s s).wrote
      · have ho := hkn i hm hat
        have hnf : ¬ (o.kind ≠ 4 ∧ x.v.findIdx? (ownV (x.s s).id o.key) = none ∧ x.slots ≤ x.v.length) := fun e => by rw [ho] at e; cases e.2.1
        rw [write_ok s o hno (.inl hm) hnf, hat]
        rcases k34 with k3 | k4
        · exact rwrite_updC h f s hs o k3 i hat hm ho _ rfl
        · exact rwrite_delC h f s hs o k4 i hat hm ho _ rfl
      · have ho := hkm hm
        cases ht : x.taken (x.s s).id (x.s s).start o.key with
        | true =>
          rw [write_con s o hno hm ht]
          exact rwrite_con h f s hs o hno hm ht
        | false =>
          rcases k34 with k3 | k4
          · by_cases hf : x.slots ≤ x.v.length
            · rw [write_full s o hno (.inr ht) (by omega) ho hf]
              exact rwrite_full h f s hs o hno (.inr ht) (by omega) ho hf
            · rw [write_ok s o hno (.inr ht) (fun e => hf e.2.2), hat]
              exact rwrite_updA h f s hs o k3 i hat hm ht ho hf _ rfl
          · rw [write_ok s o hno (.inr ht) (fun e => e.1 k4), hat]
            exact rwrite_delA h f s hs o k4 i hat hm ht ho _ rfl
end
end Go.Proofs.Ytkkjofefjepodaa
/- The document's own Model, Do: a write. -/
namespace Go.Proofs.Ytkkjofefjepodaa
open Go.ChangeShapes Go.WideShapes Go.ChangeAt Go.RowKit
set_option linter.unusedVariables false
set_option linter.unusedSimpArgs false
section
variable {w w' W : World} {m : Nat} {vv vv' : Value} {sw sr sw' sr' : Nat → Value} {x y : MoI} {T : Nat → Prop}
theorem updV_same (f : Nat → Value) (s : Nat) : updV f s (f s) = f := by
 funext j
 by_cases e : j = s
 ·subst e; rw [updV_self]
 ·rw [updV_ne _ _ e]
/-- One operation more. -/
theorem RmAt.count1 (h : RmAt w m vv sw sr x) {s : Nat} (hs : s < 8) : RmAt (w.setCell ⟨m, 3 + s * 6 + 2, none⟩ (.int .i64 ((x.s s).ops + 1))) m vv sw sr (x.count s) := by
 have k := keep_one w ⟨m, 3 + s * 6 + 2, none⟩ (.int .i64 ((x.s s).ops + 1))
 have far : ∀ i u, i ≠ 3 + s * 6 + 2 → w.cell? ⟨m, i, none⟩ = some u → (w.setCell ⟨m, 3 + s * 6 + 2, none⟩ (.int .i64 ((x.s s).ops + 1))).cell? ⟨m, i, none⟩ = some u := fun i u ne hu => by rw [World.cell?_setCell_other _ _ _ _ (by first | (simp; done) | (simp; omega))]; exact hu
 have R := h.ses hs k (fun g e => .inl e) (fun i u hi hu => far i u (by omega) hu) (fun i => by rw [World.frozen?_setCell]; exact h.fz i) { x.s s with ops := (x.s s).ops + 1 } (sw s) (sr s)
  (far _ _ (by omega) (h.s0 s hs)) (far _ _ (by omega) (h.s1 s hs)) (World.cell?_setCell_same _ _ _ (h.s2 s hs)) (far _ _ (by omega) (h.s3 s hs)) (far _ _ (by omega) (h.s4 s hs)) (far _ _ (by omega) (h.s5 s hs))
  (OwnN.keep (h.ow s hs) k (fun g hg e => h.wm s hs (by rw [hg]; exact congrArg some e))) ((h.or' s hs).keep k (fun g hg e => h.rm s hs (by rw [hg]; exact congrArg some e))) (fun g e => .inl e) (fun g e => .inl e) (fun g e => h.wr s s g hs hs e)
 rw [updV_same, updV_same] at R
 exact R
set_option maxRecDepth 100000 in
set_option maxHeartbeats 4000000 in
theorem rdo_write (h : RmAt w m vv sw sr x) (s : Nat) (hs : s < 8) (o : OpI) (hid : (x.s s).id ≠ 0) (hok : okI o = true) (hk : o.kind = 2 ∨ o.kind = 3 ∨ o.kind = 4) (ho : 0 ≤ (x.s s).ops) (hm : ¬ 12 ≤ (x.s s).ops) (r : ReI) (z : MoI)
  (hw : ∀ w1, RmAt w1 m vv sw sr (x.count s) → Calls Try.prog 65 #[.pointer (some ⟨m, 0, none⟩), .int .i64 s, opV o] w1 (DidR w1 m vv sw sr r z)) :
  Calls Try.prog 37 #[.pointer (some ⟨m, 0, none⟩), .int .i64 s, opV o] w (DidD w m vv sw sr r 0 z) := by
 obtain ⟨W1, eW1, ob, kW1⟩ := op_box w o
 obtain ⟨W, eW, rb, kW2⟩ := res_box W1
 have kW := kW1.trans kW2
 have fM : ¬ FootR m vv sw sr w.heap.size := fun q => by have := h.lt _ q; omega
 have fN : ¬ FootR m vv sw sr W1.heap.size := fun q => by have := h.lt _ q; have := kW1.size; omega
 obtain ⟨M, eM⟩ : ∃ M, w.heap.size = M := ⟨_, rfl⟩
 obtain ⟨N, eN⟩ : ∃ N, W1.heap.size = N := ⟨_, rfl⟩
 have hMN : N = M + 1 := by rw [← eN, ← eW1, World.size_alloc, eM]
 have hMw : w.heap.size ≤ N := by omega
 have MW := Lib.hid hMw
 have hNW : N < W.heap.size := by rw [← eW, World.size_alloc, eN]; exact Nat.lt_succ_self _
 have HMN := Lib.hid hMN
 have EM := Lib.hid eM
 have ES := Lib.hid eN
 rw [eM] at ob fM
 rw [eN] at rb fN
 have H := Lib.hid (h.same kW)
 have OB := Lib.hid (ob.keep kW2 (fun e => e))
 have RB := Lib.hid rb
 have FM := Lib.hid fM
 have FN := Lib.hid fN
 have KW := Lib.hid kW
 obtain ⟨o0, o1, o2, o3⟩ := OB.out
 have d1 : decide ((s : Int) < 0) = false := decide_eq_false (by omega)
 have d2 : decide ((7 : Int) < (s : Int)) = false := decide_eq_false (by omega)
 have g1 : ¬ (s : Int) < 0 := by omega
 have g2 : ¬ (7 : Int) < (s : Int) := by omega
 have hs2 : (s : Int) < 8 := by omega
 obtain ⟨t, et⟩ : ∃ t, x.s s = t := ⟨_, rfl⟩
 have s0 := H.out.s0 s hs
 rw [et] at s0
 have ET := Lib.hid et
 have d3 : (t.id == 0) = false := by rw [← et]; simpa using hid
 have OKI := Lib.hid hok
 have d4 : decide (12 ≤ t.ops) = false := by rw [← et]; exact decide_eq_false hm
 have HOP := Lib.hid (show 0 ≤ t.ops ∧ t.ops < 12 by rw [← et]; omega)
 have HW := Lib.hid hw
 obtain ⟨ok, okey, ohi, oval⟩ := o
 have hk : ok = 2 ∨ ok = 3 ∨ ok = 4 := hk
 have d7 : (ok == 7) = false := by simp; omega
 have d6 : (ok == 6) = false := by simp; omega
 have d1' : (ok == 1) = false := by simp; omega
 have d5' : (ok == 5) = false := by simp; omega
 clear et hid hok hm hk ho hw hMN hMw h ob rb fM fN kW kW1 kW2
 unfold DidD opV
 go_enter Try.func37, Try.ntmps37
 go_wp2_with fail
 refine (ropok_any ⟨ok, okey, ohi, oval⟩ true OKI.out _).mono ?_
 rintro e w1 ⟨rfl, k1⟩
 obtain ⟨p0, p1, p2, p3⟩ := OB.out.keep k1 id
 have hN1 : N < w1.heap.size := Nat.lt_of_lt_of_le hNW k1.size
 have H1 := Lib.hid (H.out.same k1)
 have R1 := Lib.hid (RB.out.keep k1 id)
 have K1 := Lib.hid (KW.out.trans k1)
 have z2 := H1.out.s2 s hs
 rw [ET.out] at z2
 have fz2 := H1.out.fz (3 + s * 6 + 2)
 have C := H1.out.count1 hs
 rw [ET.out] at C
 obtain ⟨op1, eop⟩ : ∃ op1, t.ops + 1 = op1 := ⟨_, rfl⟩
 have wr : IntKind.i64.wrap (t.ops + 1) = op1 := (IntWalk.i64_in _ (by have := HOP.out; omega)).trans eop
 rw [eop] at C
 have EOP := Lib.hid eop
 obtain ⟨wb, eb⟩ : ∃ wb, w1.setCell ⟨m, 3 + s * 6 + 2, none⟩ (.int .i64 op1) = wb := ⟨_, rfl⟩
 have KB : Keep (fun q => q = m) w1 wb := by rw [← eb]; exact (Keep.refl (fun q => q = m) w1).setCell (p := ⟨m, 3 + s * 6 + 2, none⟩) rfl _
 rw [eb] at C
 have gMm : ¬ M = m := fun e => FM.out (.inl e)
 have gNm : ¬ N = m := fun e => FN.out (.inl e)
 have KBH := Lib.hid KB
 have CH := Lib.hid C
 clear C KB eop
 go_wp2_with fail
 refine wp_region_held_drew (S := fun w' => w'.cell? ⟨M, 1, none⟩ = some (.int .i64 okey)) (by kernel_rfl) p1 (fun hHeld => ?_)
 refine tk 0 (v := ?qvu1128) ?qyu1128 ?qru1128; case qyu1128 => ((intro w hSw; (try dsimp only at hSw); go_simp); try (with_reducible rfl))
 (try simp only [tA, tS, tZ, Act.put, uA, uS, uZ])
 refine tk 1 (v := ?qvu1129) ?qyu1129 ?qru1129; case qyu1129 => ((intro w hSw; (try dsimp only at hSw); go_simp); try (with_reducible rfl))
 (try simp only [tA, tS, tZ, Act.put, uA, uS, uZ])
 refine tk 2 (v := ?qvu1130) ?qyu1130 ?qru1130; case qyu1130 => ((intro w hSw; (try dsimp only at hSw); go_simp); try (with_reducible rfl))
 (try simp only [tA, tS, tZ, Act.put, uA, uS, uZ])
 refine tk 3 (v := ?qvu1131) ?qyu1131 ?qru1131; case qyu1131 => ((intro w hSw; (try dsimp only at hSw); go_simp); try (with_reducible rfl))
 (try simp only [tA, tS, tZ, Act.put, uA, uS, uZ])
 refine tk 4 (v := ?qvu1132) ?qyu1132 ?qru1132; case qyu1132 => ((intro w hSw; (try dsimp only at hSw); go_simp); try (with_reducible rfl))
 (try simp only [tA, tS, tZ, Act.put, uA, uS, uZ])
 refine tk 5 (v := ?qvu1133) ?qyu1133 ?qru1133; case qyu1133 => ((intro w hSw; (try dsimp only at hSw); go_simp); try (with_reducible rfl))
 (try simp only [tA, tS, tZ, Act.put, uA, uS, uZ])
 refine tk 8 (v := ?qvu1134) ?qyu1134 ?qru1134; case qyu1134 => ((intro w hSw; (try dsimp only at hSw); go_simp); try (with_reducible rfl))
 (try simp only [tA, tS, tZ, Act.put, uA, uS, uZ])
 refine tk 9 (v := ?qvu1135) ?qyu1135 ?qru1135; case qyu1135 => ((intro w hSw; (try dsimp only at hSw); go_simp); try (with_reducible rfl))
 (try simp only [tA, tS, tZ, Act.put, uA, uS, uZ])
 refine wpAnyH_ready (rs := [6]) (by kernel_rfl) (by simp) ?_
 refine AllReadyH.cons rfl (fun K hK => ?_) AllReadyH.nil
 go_simp
 refine hK.out _ _ hHeld (fun hHeld => ?_)
 clear hK K
 (try simp only [tA, tS, tZ, Act.put, uA, uS, uZ])
 refine tk 7 (v := ?qvu1136) ?qyu1136 ?qru1136; case qyu1136 => ((intro w hSw; (try dsimp only at hSw); go_simp); try (with_reducible rfl))
 (try simp only [tA, tS, tZ, Act.put, uA, uS, uZ])
 refine tk 10 (v := ?qvu1137) ?qyu1137 ?qru1137; case qyu1137 => ((intro w hSw; (try dsimp only at hSw); go_simp); try (with_reducible rfl))
 (try simp only [tA, tS, tZ, Act.put, uA, uS, uZ])
 refine tk 11 (v := ?qvu1138) ?qyu1138 ?qru1138; case qyu1138 => ((intro w hSw; (try dsimp only at hSw); go_simp); try (with_reducible rfl))
 (try simp only [tA, tS, tZ, Act.put, uA, uS, uZ])
 refine wpAnyH_ready (rs := [12]) (by kernel_rfl) (by simp) ?_
 refine AllReadyH.cons rfl (fun K hK => ?_) AllReadyH.nil
 go_simp
 go_simp
 refine hK.out _ _ (KBH.out.cell p1 gMm) (fun hHeld => ?_)
 clear hK K
 (try simp only [tA, tS, tZ, Act.put, uA, uS, uZ])
 refine wpAnyH_done (by kernel_rfl) ?_ _
 have kd := (Keep.refl (fun _ => False) wb).drew
 obtain ⟨wc, ec⟩ : ∃ wc, wb.drew = wc := ⟨_, rfl⟩
 rw [ec] at kd ⊢
 have KC := Lib.hid (KBH.out.trans (kd.mono (fun _ e => e.elim)))
 have HC := Lib.hid (CH.out.same kd)
 clear hHeld ec kd eb z2 fz2 wr
 obtain ⟨t2, et2⟩ : ∃ t2, (x.count s).s s = t2 := ⟨_, rfl⟩
 have ET2 := Lib.hid et2
 have s0 := HC.out.s0 s hs
 have s1 := HC.out.s1 s hs
 have s2 := HC.out.s2 s hs
 have s3 := HC.out.s3 s hs
 have s4 := HC.out.s4 s hs
 have s5 := HC.out.s5 s hs
 have OW := Lib.hid (HC.out.ow s hs)
 have OR5 := Lib.hid (HC.out.or' s hs)
 rw [et2] at s0 s1 s2 s3 OW OR5
 obtain ⟨A4, c4, e4⟩ := own_n _ _ _ OW.out
 obtain ⟨A5, c5, e5⟩ := own_r _ _ _ OR5.out
 obtain ⟨n4, en4⟩ : ∃ n, t2.wrote.length = n := ⟨_, rfl⟩
 obtain ⟨n5, en5⟩ : ∃ n, t2.reads.length = n := ⟨_, rfl⟩
 rw [en4] at e4
 rw [en5] at e5
 rw [e4] at s4 OW
 rw [e5] at s5 OR5
 have E4 := Lib.hid e4
 have E5 := Lib.hid e5
 have EN4 := Lib.hid en4
 have EN5 := Lib.hid en5
 obtain ⟨W2, eW2, tb, k2⟩ := tx_box wc t2 (.slice A4 n4 c4) (.slice A5 n5 c5)
 obtain ⟨M3, eM3⟩ : ∃ M3, wc.heap.size = M3 := ⟨_, rfl⟩
 rw [eM3] at tb
 have OB1 := OB.out.keep k1 id
 have OB2 := Lib.hid (OpAt.keep (OpAt.keep OB1 KC.out gMm) k2 id)
 have RB2 := Lib.hid ((R1.out.keep KC.out gNm).keep k2 id)
 have H2 := Lib.hid (HC.out.same k2)
 have TB := Lib.hid tb
 have K2 := Lib.hid (k1.mono (fun _ e => e.elim) |>.trans (KC.out.mono (fun q e => show FootR m vv sw sr q from .inl e)) |>.trans (k2.mono (fun _ e => e.elim)))
 obtain ⟨b0, b1, b2, b3, b4, b5⟩ := TB.out
 clear p0 p1 p2 p3
 obtain ⟨p0, p1, p2, p3⟩ := OB2.out
 clear et2 e4 e5 en4 en5 k2 tb OB1 eM3 k1
 go_wp2_with fail
 refine (HW.out _ H2.out).mono ?_
 rintro e wa ⟨rfl, hto⟩
 have R6 := Lib.hid (RB2.out.keep hto.keeps FN.out)
 obtain ⟨q0, q1, q2, q3, q4, q5⟩ := R6.out
 have TO := Lib.hid hto
 unfold reV
 clear hto
 go_wp2
 (obtain ⟨W7, eW7⟩ : ∃ W7, (((((wa.setCell ⟨N, 0, none⟩ (.int .i64 r.e)).setCell ⟨N, 1, none⟩ (.int .i64 r.val)).setCell ⟨N, 2, none⟩ (.slice none 0 0)).setCell ⟨N, 3, none⟩ (.int .i64 r.over)).setCell ⟨N, 4, none⟩ (.int .i64 r.reason)) = W7 := ⟨_, rfl⟩; obtain ⟨⟨v0, v1, v2, v3, v4, _⟩, k7⟩ := res_set R6.out _ _ _ _ _ eW7; rw [eW7]; refine bodyPost_ret (v := .tuple #[.agg #[.int .i64 r.e, .int .i64 r.val, .slice none 0 0, .int .i64 r.over, .int .i64 r.reason], .int .i64 0]) (by simp [results, Try.results37, go_sem, v0, v1, v2, v3, v4]) rfl ⟨rfl, ?_⟩)
 exact (TO.out.front2 K2.out (fun g hg => hg)).fin KW.out MW.out hNW FN.out k7
end
end Go.Proofs.Ytkkjofefjepodaa
/- The document's own Model, Do: a scan. -/
namespace Go.Proofs.Ytkkjofefjepodaa
open Go.ChangeShapes Go.WideShapes Go.ChangeAt Go.RowKit
set_option linter.unusedVariables false
set_option linter.unusedSimpArgs false
section
variable {w w' W : World} {m : Nat} {vv vv' : Value} {sw sr sw' sr' : Nat → Value} {x y : MoI} {T : Nat → Prop}
theorem RmTo.post (h : RmTo w m vv sw sr y w') (k : Keep (fun _ => False) w' W) : RmTo w m vv sw sr y W := by
 obtain ⟨a, b, c, h1, h2, h3⟩ := h
 exact ⟨a, b, c, h1.same k, h2.trans (k.mono (fun _ e => e.elim)), h3⟩
/-- What Do answers to a scan. -/
def DidS (w : World) (m : Nat) (vv : Value) (sw sr : Nat → Value) (l : List (Int × Int)) (y : MoI) (e : Ending) (w' : World) : Prop := ∃ u, e = .returned (.tuple #[reV re0 u, .int .i64 0]) ∧ OwnPr w' u l ∧ (∀ g, u.ownBlock = some g → w.heap.size ≤ g) ∧ RmTo w m vv sw sr y w'
set_option maxRecDepth 100000 in
set_option maxHeartbeats 4000000 in
theorem rdo_scan (h : RmAt w m vv sw sr x) (f : Few x) (s : Nat) (hs : s < 8) (o : OpI) (hid : (x.s s).id ≠ 0) (hok : okI o = true) (hk : o.kind = 5) (ho : 0 ≤ (x.s s).ops) (hm : ¬ 12 ≤ (x.s s).ops) :
  Calls Try.prog 37 #[.pointer (some ⟨m, 0, none⟩), .int .i64 s, opV o] w (DidS w m vv sw sr (scanI x.v (x.s s).id (x.s s).start o.key o.hi) ((x.count s).keepR s ⟨o.key, o.hi, false, true⟩)) := by
 obtain ⟨W1, eW1, ob, kW1⟩ := op_box w o
 obtain ⟨W, eW, rb, kW2⟩ := res_box W1
 have kW := kW1.trans kW2
 have fM : ¬ FootR m vv sw sr w.heap.size := fun q => by have := h.lt _ q; omega
 have fN : ¬ FootR m vv sw sr W1.heap.size := fun q => by have := h.lt _ q; have := kW1.size; omega
 obtain ⟨M, eM⟩ : ∃ M, w.heap.size = M := ⟨_, rfl⟩
 obtain ⟨N, eN⟩ : ∃ N, W1.heap.size = N := ⟨_, rfl⟩
 have hMN : N = M + 1 := by rw [← eN, ← eW1, World.size_alloc, eM]
 have hMw : w.heap.size ≤ N := by omega
 have MW := Lib.hid hMw
 have hNW : N < W.heap.size := by rw [← eW, World.size_alloc, eN]; exact Nat.lt_succ_self _
 have HMN := Lib.hid hMN
 have EM := Lib.hid eM
 have ES := Lib.hid eN
 rw [eM] at ob fM
 rw [eN] at rb fN
 have H := Lib.hid (h.same kW)
 have OB := Lib.hid (ob.keep kW2 (fun e => e))
 have RB := Lib.hid rb
 have FM := Lib.hid fM
 have FN := Lib.hid fN
 have KW := Lib.hid kW
 obtain ⟨o0, o1, o2, o3⟩ := OB.out
 have d1 : decide ((s : Int) < 0) = false := decide_eq_false (by omega)
 have d2 : decide ((7 : Int) < (s : Int)) = false := decide_eq_false (by omega)
 have g1 : ¬ (s : Int) < 0 := by omega
 have g2 : ¬ (7 : Int) < (s : Int) := by omega
 have hs2 : (s : Int) < 8 := by omega
 obtain ⟨t, et⟩ : ∃ t, x.s s = t := ⟨_, rfl⟩
 have s0 := H.out.s0 s hs
 rw [et] at s0
 have ET := Lib.hid et
 have d3 : (t.id == 0) = false := by rw [← et]; simpa using hid
 have OKI := Lib.hid hok
 have d4 : decide (12 ≤ t.ops) = false := by rw [← et]; exact decide_eq_false hm
 have HOP := Lib.hid (show 0 ≤ t.ops ∧ t.ops < 12 by rw [← et]; omega)
 have FRS := Lib.hid (f.r s hs).1
 have FV := Lib.hid f.v
 obtain ⟨ok, okey, ohi, oval⟩ := o
 obtain rfl : ok = 5 := hk
 have LIM := Lib.hid (show 0 ≤ okey ∧ okey ≤ ohi ∧ ohi ≤ 63 by
  have e := hok
  unfold okI at e
  simp at e
  omega)
 clear et hid hok hm ho f hMN hMw h ob rb fM fN kW kW1 kW2
 unfold DidS opV
 go_enter Try.func37, Try.ntmps37
 go_wp2_with fail
 refine (ropok_any ⟨5, okey, ohi, oval⟩ true OKI.out _).mono ?_
 rintro e w1 ⟨rfl, k1⟩
 obtain ⟨p0, p1, p2, p3⟩ := OB.out.keep k1 id
 have hN1 : N < w1.heap.size := Nat.lt_of_lt_of_le hNW k1.size
 have H1 := Lib.hid (H.out.same k1)
 have R1 := Lib.hid (RB.out.keep k1 id)
 have K1 := Lib.hid (KW.out.trans k1)
 have z2 := H1.out.s2 s hs
 rw [ET.out] at z2
 have fz2 := H1.out.fz (3 + s * 6 + 2)
 have C := H1.out.count1 hs
 rw [ET.out] at C
 obtain ⟨op1, eop⟩ : ∃ op1, t.ops + 1 = op1 := ⟨_, rfl⟩
 have wr : IntKind.i64.wrap (t.ops + 1) = op1 := (IntWalk.i64_in _ (by have := HOP.out; omega)).trans eop
 rw [eop] at C
 have EOP := Lib.hid eop
 obtain ⟨wb, eb⟩ : ∃ wb, w1.setCell ⟨m, 3 + s * 6 + 2, none⟩ (.int .i64 op1) = wb := ⟨_, rfl⟩
 have KB : Keep (fun q => q = m) w1 wb := by rw [← eb]; exact (Keep.refl (fun q => q = m) w1).setCell (p := ⟨m, 3 + s * 6 + 2, none⟩) rfl _
 rw [eb] at C
 have gMm : ¬ M = m := fun e => FM.out (.inl e)
 have gNm : ¬ N = m := fun e => FN.out (.inl e)
 have KBH := Lib.hid KB
 have CH := Lib.hid C
 clear C KB eop
 go_wp2_with fail
 refine wp_region_held_drew (S := fun w' => w'.cell? ⟨M, 1, none⟩ = some (.int .i64 okey)) (by kernel_rfl) p1 (fun hHeld => ?_)
 refine tk 0 (v := ?qvu1139) ?qyu1139 ?qru1139; case qyu1139 => ((intro w hSw; (try dsimp only at hSw); go_simp); try (with_reducible rfl))
 (try simp only [tA, tS, tZ, Act.put, uA, uS, uZ])
 refine tk 1 (v := ?qvu1140) ?qyu1140 ?qru1140; case qyu1140 => ((intro w hSw; (try dsimp only at hSw); go_simp); try (with_reducible rfl))
 (try simp only [tA, tS, tZ, Act.put, uA, uS, uZ])
 refine tk 2 (v := ?qvu1141) ?qyu1141 ?qru1141; case qyu1141 => ((intro w hSw; (try dsimp only at hSw); go_simp); try (with_reducible rfl))
 (try simp only [tA, tS, tZ, Act.put, uA, uS, uZ])
 refine tk 3 (v := ?qvu1142) ?qyu1142 ?qru1142; case qyu1142 => ((intro w hSw; (try dsimp only at hSw); go_simp); try (with_reducible rfl))
 (try simp only [tA, tS, tZ, Act.put, uA, uS, uZ])
 refine tk 4 (v := ?qvu1143) ?qyu1143 ?qru1143; case qyu1143 => ((intro w hSw; (try dsimp only at hSw); go_simp); try (with_reducible rfl))
 (try simp only [tA, tS, tZ, Act.put, uA, uS, uZ])
 refine tk 5 (v := ?qvu1144) ?qyu1144 ?qru1144; case qyu1144 => ((intro w hSw; (try dsimp only at hSw); go_simp); try (with_reducible rfl))
 (try simp only [tA, tS, tZ, Act.put, uA, uS, uZ])
 refine tk 8 (v := ?qvu1145) ?qyu1145 ?qru1145; case qyu1145 => ((intro w hSw; (try dsimp only at hSw); go_simp); try (with_reducible rfl))
 (try simp only [tA, tS, tZ, Act.put, uA, uS, uZ])
 refine tk 9 (v := ?qvu1146) ?qyu1146 ?qru1146; case qyu1146 => ((intro w hSw; (try dsimp only at hSw); go_simp); try (with_reducible rfl))
 (try simp only [tA, tS, tZ, Act.put, uA, uS, uZ])
 refine wpAnyH_ready (rs := [6]) (by kernel_rfl) (by simp) ?_
 refine AllReadyH.cons rfl (fun K hK => ?_) AllReadyH.nil
 go_simp
 refine hK.out _ _ hHeld (fun hHeld => ?_)
 clear hK K
 (try simp only [tA, tS, tZ, Act.put, uA, uS, uZ])
 refine tk 7 (v := ?qvu1147) ?qyu1147 ?qru1147; case qyu1147 => ((intro w hSw; (try dsimp only at hSw); go_simp); try (with_reducible rfl))
 (try simp only [tA, tS, tZ, Act.put, uA, uS, uZ])
 refine tk 10 (v := ?qvu1148) ?qyu1148 ?qru1148; case qyu1148 => ((intro w hSw; (try dsimp only at hSw); go_simp); try (with_reducible rfl))
 (try simp only [tA, tS, tZ, Act.put, uA, uS, uZ])
 refine tk 11 (v := ?qvu1149) ?qyu1149 ?qru1149; case qyu1149 => ((intro w hSw; (try dsimp only at hSw); go_simp); try (with_reducible rfl))
 (try simp only [tA, tS, tZ, Act.put, uA, uS, uZ])
 refine wpAnyH_ready (rs := [12]) (by kernel_rfl) (by simp) ?_
 refine AllReadyH.cons rfl (fun K hK => ?_) AllReadyH.nil
 go_simp
 go_simp
 refine hK.out _ _ (KBH.out.cell p1 gMm) (fun hHeld => ?_)
 clear hK K
 (try simp only [tA, tS, tZ, Act.put, uA, uS, uZ])
 refine wpAnyH_done (by kernel_rfl) ?_ _
 have kd := (Keep.refl (fun _ => False) wb).drew
 obtain ⟨wc, ec⟩ : ∃ wc, wb.drew = wc := ⟨_, rfl⟩
 rw [ec] at kd ⊢
 have KC := Lib.hid (KBH.out.trans (kd.mono (fun _ e => e.elim)))
 have HC := Lib.hid (CH.out.same kd)
 clear hHeld ec kd eb z2 fz2 wr
 obtain ⟨t2, et2⟩ : ∃ t2, (x.count s).s s = t2 := ⟨_, rfl⟩
 have ET2 := Lib.hid et2
 have s0 := HC.out.s0 s hs
 have s1 := HC.out.s1 s hs
 have s2 := HC.out.s2 s hs
 have s3 := HC.out.s3 s hs
 have s4 := HC.out.s4 s hs
 have s5 := HC.out.s5 s hs
 have OW := Lib.hid (HC.out.ow s hs)
 have OR5 := Lib.hid (HC.out.or' s hs)
 rw [et2] at s0 s1 s2 s3 OW OR5
 obtain ⟨A4, c4, e4⟩ := own_n _ _ _ OW.out
 obtain ⟨A5, c5, e5⟩ := own_r _ _ _ OR5.out
 obtain ⟨n4, en4⟩ : ∃ n, t2.wrote.length = n := ⟨_, rfl⟩
 obtain ⟨n5, en5⟩ : ∃ n, t2.reads.length = n := ⟨_, rfl⟩
 rw [en4] at e4
 rw [en5] at e5
 rw [e4] at s4 OW
 rw [e5] at s5 OR5
 have E4 := Lib.hid e4
 have E5 := Lib.hid e5
 have EN4 := Lib.hid en4
 have EN5 := Lib.hid en5
 obtain ⟨W2, eW2, tb, k2⟩ := tx_box wc t2 (.slice A4 n4 c4) (.slice A5 n5 c5)
 obtain ⟨M3, eM3⟩ : ∃ M3, wc.heap.size = M3 := ⟨_, rfl⟩
 rw [eM3] at tb
 have OB1 := OB.out.keep k1 id
 have OB2 := Lib.hid (OpAt.keep (OpAt.keep OB1 KC.out gMm) k2 id)
 have RB2 := Lib.hid ((R1.out.keep KC.out gNm).keep k2 id)
 have H2 := Lib.hid (HC.out.same k2)
 have TB := Lib.hid tb
 have K2 := Lib.hid (k1.mono (fun _ e => e.elim) |>.trans (KC.out.mono (fun q e => show FootR m vv sw sr q from .inl e)) |>.trans (k2.mono (fun _ e => e.elim)))
 obtain ⟨b0, b1, b2, b3, b4, b5⟩ := TB.out
 clear p0 p1 p2 p3
 obtain ⟨p0, p1, p2, p3⟩ := OB2.out
 have EM3 := Lib.hid eM3
 clear et2 e4 e5 en4 en5 k2 tb OB1 k1
 have kdd := (Keep.refl (fun _ => False) W2).drew
 have H5 := Lib.hid (H2.out.same kdd)
 have OR6 := Lib.hid (show OwnR W2.drew (.slice A5 n5 c5) t2.reads by have := H5.out.or' s hs; rwa [ET2.out, E5.out] at this)
 have nn5 : n5 ≤ 1000 := by
  rw [← EN5.out, ← ET2.out]
  unfold MoI.count
  show (putS x.s s _ s).reads.length ≤ 1000
  rw [putS_self]
  exact FRS.out
 have s5' := H5.out.s5 s hs
 rw [E5.out] at s5'
 have fz5 := H5.out.fz (3 + s * 6 + 5)
 have nm5 := Lib.hid (show ¬ (Value.slice A5 n5 c5).ownBlock = some m by have := H5.out.rm s hs; rwa [E5.out] at this)
 have ml5 := Lib.hid H5.out.mlt
 have nmM := Lib.hid (show ¬ (Value.slice A5 n5 c5).ownBlock = some M from fun q => FM.out (.inr (.inr ⟨s, hs, .inr (by rw [E5.out]; exact q)⟩)))
 have F3 : ¬ FootR m vv sw sr M3 := fun q => by have := HC.out.lt _ q; have := EM3.out; omega
 have nm3 := Lib.hid (show ¬ (Value.slice A5 n5 c5).ownBlock = some M3 from fun q => F3 (.inr (.inr ⟨s, hs, .inr (by rw [E5.out]; exact q)⟩)))
 have g3m : ¬ M3 = m := fun e => F3 (.inl e)
 have F3H := Lib.hid F3
 have hHd : W2.drew.cell? ⟨M, 1, none⟩ = some (.int .i64 okey) ∧ W2.drew.cell? ⟨M, 2, none⟩ = some (.int .i64 ohi) ∧ W2.drew.cell? ⟨M3, 5, none⟩ = some (.slice A5 n5 c5) := ⟨p1, p2, b5⟩
 clear F3
 go_wp2_with fail
 refine wp_region_held_drew (S := fun w' => w'.cell? ⟨M, 1, none⟩ = some (.int .i64 okey) ∧ w'.cell? ⟨M, 2, none⟩ = some (.int .i64 ohi) ∧ w'.cell? ⟨M3, 5, none⟩ = some (.slice A5 n5 c5)) (by kernel_rfl) ⟨p1, p2, b5⟩ (fun hHeld => ?_)
 refine tk 0 (v := ?qvu1150) ?qyu1150 ?qru1150; case qyu1150 => ((intro w hSw; (try dsimp only at hSw); go_simp); try (with_reducible rfl))
 (try simp only [tA, tS, tZ, Act.put, uA, uS, uZ])
 refine tk 1 (v := ?qvu1151) ?qyu1151 ?qru1151; case qyu1151 => ((intro w hSw; (try dsimp only at hSw); go_simp); try (with_reducible rfl))
 (try simp only [tA, tS, tZ, Act.put, uA, uS, uZ])
 refine tk 2 (v := ?qvu1152) ?qyu1152 ?qru1152; case qyu1152 => ((intro w hSw; (try dsimp only at hSw); go_simp); try (with_reducible rfl))
 (try simp only [tA, tS, tZ, Act.put, uA, uS, uZ])
 refine tk 3 (v := ?qvu1153) ?qyu1153 ?qru1153; case qyu1153 => ((intro w hSw; (try dsimp only at hSw); go_simp); try (with_reducible rfl))
 (try simp only [tA, tS, tZ, Act.put, uA, uS, uZ])
 refine tk 4 (v := ?qvu1154) ?qyu1154 ?qru1154; case qyu1154 => ((intro w hSw; (try dsimp only at hSw); go_simp); try (with_reducible rfl))
 (try simp only [tA, tS, tZ, Act.put, uA, uS, uZ])
 refine tk 5 (v := ?qvu1155) ?qyu1155 ?qru1155; case qyu1155 => ((intro w hSw; (try dsimp only at hSw); go_simp); try (with_reducible rfl))
 (try simp only [tA, tS, tZ, Act.put, uA, uS, uZ])
 refine tk 6 (v := ?qvu1156) ?qyu1156 ?qru1156; case qyu1156 => ((intro w hSw; (try dsimp only at hSw); go_simp); try (with_reducible rfl))
 (try simp only [tA, tS, tZ, Act.put, uA, uS, uZ])
 refine tk 7 (v := ?qvu1157) ?qyu1157 ?qru1157; case qyu1157 => ((intro w hSw; (try dsimp only at hSw); go_simp); try (with_reducible rfl))
 (try simp only [tA, tS, tZ, Act.put, uA, uS, uZ])
 refine tk 8 (v := ?qvu1158) ?qyu1158 ?qru1158; case qyu1158 => ((intro w hSw; (try dsimp only at hSw); go_simp); try (with_reducible rfl))
 (try simp only [tA, tS, tZ, Act.put, uA, uS, uZ])
 refine tk 11 (v := ?qvu1159) ?qyu1159 ?qru1159; case qyu1159 => ((intro w hSw; (try dsimp only at hSw); go_simp); try (with_reducible rfl))
 (try simp only [tA, tS, tZ, Act.put, uA, uS, uZ])
 refine tk 12 (v := ?qvu1160) ?qyu1160 ?qru1160; case qyu1160 => ((intro w hSw; (try dsimp only at hSw); go_simp); try (with_reducible rfl))
 (try simp only [tA, tS, tZ, Act.put, uA, uS, uZ])
 refine wpAnyH_ready (rs := [9]) (by kernel_rfl) (by simp) ?_
 refine AllReadyH.cons rfl (fun K hK => ?_) AllReadyH.nil
 go_simp
 refine hK.out _ _ ⟨((Keep.refl (fun _ => False) _).alloc _).cell hHeld.1 id, ((Keep.refl (fun _ => False) _).alloc _).cell hHeld.2.1 id, ((Keep.refl (fun _ => False) _).alloc _).cell hHeld.2.2 id⟩ (fun hHeld => ?_)
 clear hK K
 (try simp only [tA, tS, tZ, Act.put, uA, uS, uZ])
 refine wpAnyH_ready (rs := [10]) (by kernel_rfl) (by simp) ?_
 refine AllReadyH.cons rfl (fun K hK => ?_) AllReadyH.nil
 refine step_pushM Try.underlying77 info_rr rfl (by decide) (by decide) rrC_len rr_one rfl (.tmp 119) (.tmp 125) rfl _ t2.reads (by rfl) OR6.out ⟨okey, ohi, false, true⟩ rfl (by rw [EN5.out]; omega) ?_
 rintro g6 c6 y6 o6 k6 hg6
 have z5 := k6.cell s5' nm5.out
 have zf := (k6.frozen (a := ⟨m, 3 + s * 6 + 5, none⟩) ml5.out nm5.out).trans fz5
 refine hK.out _ _ ⟨k6.cell hHd.1 nmM.out, k6.cell hHd.2.1 nmM.out, k6.cell hHd.2.2 nm3.out⟩ (fun hHeld => ?_)
 clear hK K
 (try simp only [tA, tS, tZ, Act.put, uA, uS, uZ])
 refine tk 13 (v := ?qvu1161) ?qyu1161 ?qru1161; case qyu1161 => ((intro w hSw; (try dsimp only at hSw); go_simp); try (with_reducible rfl))
 (try simp only [tA, tS, tZ, Act.put, uA, uS, uZ])
 refine tk 14 (v := ?qvu1162) ?qyu1162 ?qru1162; case qyu1162 => ((intro w hSw; (try dsimp only at hSw); go_simp); try (with_reducible rfl))
 (try simp only [tA, tS, tZ, Act.put, uA, uS, uZ])
 refine wpAnyH_ready (rs := [15]) (by kernel_rfl) (by simp) ?_
 refine AllReadyH.cons rfl (fun K hK => ?_) AllReadyH.nil
 go_simp
 refine hK.out _ _ ⟨(keep_one y6 ⟨m, 3 + s * 6 + 5, none⟩ _).cell hHeld.1 gMm, (keep_one y6 ⟨m, 3 + s * 6 + 5, none⟩ _).cell hHeld.2.1 gMm, (keep_one y6 ⟨m, 3 + s * 6 + 5, none⟩ _).cell hHeld.2.2 g3m⟩ (fun hHeld => ?_)
 clear hK K
 (try simp only [tA, tS, tZ, Act.put, uA, uS, uZ])
 refine wpAnyH_done (by kernel_rfl) ?_ _
 have AR := H5.out.addR hs ⟨okey, ohi, false, true⟩ (b := .slice (some ⟨g6, 0, none⟩) (t2.reads.length + 1) c6) (y4 := y6) (by rw [E5.out]; exact k6) (by rw [ET2.out]; exact o6) (by rw [E5.out]; intro g e; cases e; exact hg6)
 obtain ⟨wz, ez⟩ : ∃ wz, y6.setCell ⟨m, 3 + s * 6 + 5, none⟩ (.slice (some ⟨g6, 0, none⟩) (t2.reads.length + 1) c6) = wz := ⟨_, rfl⟩
 rw [ez] at AR ⊢
 have AK := AR.keeps
 have R5 := Lib.hid ((RB2.out.keep kdd id).keep AK FN.out)
 have P5 := (OB2.out.keep kdd id).keep AK FM.out
 have B0 := AK.cell (kdd.cell b0 id) F3H.out
 have B1 := AK.cell (kdd.cell b1 id) F3H.out
 have B2 := AK.cell (kdd.cell b2 id) F3H.out
 have B3 := AK.cell (kdd.cell b3 id) F3H.out
 have B4 := AK.cell (kdd.cell b4 id) F3H.out
 have B5 := AK.cell (kdd.cell b5 id) F3H.out
 have ARH := Lib.hid AR
 have NWZ := Lib.hid (show N < wz.heap.size from Nat.lt_of_lt_of_le hNW (Nat.le_trans K2.out.size (Nat.le_trans kdd.size AK.size)))
 have K2D := Lib.hid (K2.out.trans (kdd.mono (fun _ e => e.elim)))
 have HSC := Lib.hid (show ∀ wx, Keep (fun _ => False) wz wx → Calls Try.prog 64 #[.pointer (some ⟨m, 0, none⟩), txV t2 (.slice A4 n4 c4) (.slice A5 n5 c5), .int .i64 okey, .int .i64 ohi] wx (ToldPr wx (scanI x.v t2.id t2.start okey ohi)) from fun wx k => by
  obtain ⟨vv1, sw1, sr1, a1, a2, a3⟩ := AR
  have := rscan_any (a1.same k) (Nat.le_trans FV.out (by omega)) t2 (.slice A4 n4 c4) (.slice A5 n5 c5) okey ohi LIM.out.1 LIM.out.2.1 LIM.out.2.2
  exact this)
 have I2 : t2.id = (x.s s).id := by
  rw [← ET2.out]
  unfold MoI.count
  show (putS x.s s _ s).id = _
  rw [putS_self]
 have J2 : t2.start = (x.s s).start := by
  rw [← ET2.out]
  unfold MoI.count
  show (putS x.s s _ s).start = _
  rw [putS_self]
 rw [I2, J2] at HSC
 clear I2 J2
 unfold txV at HSC
 clear p0 p1 p2 p3 b0 b1 b2 b3 b4 b5
 obtain ⟨p0, p1, p2, p3⟩ := P5
 clear AR AK ez k6 o6 hg6 z5 zf hHeld
 go_wp2_with fail
 refine (HSC.out _ (Keep.refl _ _)).mono ?_
 rintro e wa ⟨u, rfl, hu, fu, ku⟩
 obtain ⟨A8, n8, c8, rfl⟩ : ∃ A n c, u = .slice A n c := by
  rcases hu.form with ⟨h1, h2⟩ | ⟨g, c, h1, _⟩
  ·exact ⟨none, 0, 0, h1⟩
  ·exact ⟨_, _, c, h1⟩
 have R6 := Lib.hid (R5.out.keep ku id)
 obtain ⟨q0, q1, q2, q3, q4, q5⟩ := R6.out
 have HU := Lib.hid hu
 have FU := Lib.hid fu
 have KU := Lib.hid ku
 clear hu fu ku
 go_wp2
 (obtain ⟨W7, eW7⟩ : ∃ W7, (((((wa.setCell ⟨N, 0, none⟩ (.int .i64 0)).setCell ⟨N, 1, none⟩ (.int .i64 0)).setCell ⟨N, 2, none⟩ (.slice A8 n8 c8)).setCell ⟨N, 3, none⟩ (.int .i64 0)).setCell ⟨N, 4, none⟩ (.int .i64 0)) = W7 := ⟨_, rfl⟩; obtain ⟨⟨v0, v1, v2, v3, v4, _⟩, k7⟩ := res_set R6.out _ _ _ _ _ eW7; rw [eW7]; refine bodyPost_ret (v := .tuple #[.agg #[.int .i64 0, .int .i64 0, .slice A8 n8 c8, .int .i64 0, .int .i64 0], .int .i64 0]) (by simp [results, Try.results37, go_sem, v0, v1, v2, v3, v4]) rfl ⟨.slice A8 n8 c8, rfl, ?_, ?_, ?_⟩)
 ·exact HU.out.keep k7 (fun g hg e => by have := FU.out g hg; have := NWZ.out; omega)
 ·intro g hg
  have := FU.out g hg
  have := NWZ.out
  have := MW.out
  omega
 ·exact ((ARH.out.post KU.out).front2 K2D.out (fun g hg => hg)).fin KW.out MW.out hNW FN.out k7
end
end Go.Proofs.Ytkkjofefjepodaa
/- The document's own Model, Do: a get. -/
namespace Go.Proofs.Ytkkjofefjepodaa
open Go.ChangeShapes Go.WideShapes Go.ChangeAt Go.RowKit
set_option linter.unusedVariables false
set_option linter.unusedSimpArgs false
section
variable {w w' W : World} {m : Nat} {vv vv' : Value} {sw sr sw' sr' : Nat → Value} {x y : MoI} {T : Nat → Prop}
set_option maxRecDepth 100000 in
set_option maxHeartbeats 4000000 in
theorem rdo_get (h : RmAt w m vv sw sr x) (f : Few x) (s : Nat) (hs : s < 8) (o : OpI) (hid : (x.s s).id ≠ 0) (hok : okI o = true) (hk : o.kind = 1) (ho : 0 ≤ (x.s s).ops) (hm : ¬ 12 ≤ (x.s s).ops) (at' : Option Nat) (hat : seesI x.v (x.s s).id (x.s s).start o.key = at') (z : MoI) (hz : (if o.key ∈ (x.s s).wrote then x.count s else (x.count s).keepR s ⟨o.key, o.key, decide (at' ≠ none), false⟩) = z) :
    Calls Try.prog 37 #[.pointer (some ⟨m, 0, none⟩), .int .i64 s, opV o] w (DidD w m vv sw sr (match at' with | some i => ⟨0, valI x.v i, [], 0, 0⟩ | none => ⟨11, 0, [], 0, 0⟩) 0 z) := by
  have W2 : ((x.count s).s s).wrote = (x.s s).wrote ∧ ((x.count s).s s).id = (x.s s).id ∧ ((x.count s).s s).start = (x.s s).start ∧ ((x.count s).s s).reads = (x.s s).reads := by
    unfold MoI.count
    show (putS x.s s _ s).wrote = _ ∧ (putS x.s s _ s).id = _ ∧ (putS x.s s _ s).start = _ ∧ (putS x.s s _ s).reads = _
    rw [putS_self]
    exact ⟨rfl, rfl, rfl, rfl⟩
  rw [← W2.1] at hz
  rw [← W2.2.1, ← W2.2.2.1] at hat
  have SAME := Lib.hid W2
  clear W2
  obtain ⟨W1, eW1, ob, kW1⟩ := op_box w o
  obtain ⟨W, eW, rb, kW2⟩ := res_box W1
  have kW := kW1.trans kW2
  have fM : ¬ FootR m vv sw sr w.heap.size := fun q => by have := h.lt _ q; omega
  have fN : ¬ FootR m vv sw sr W1.heap.size := fun q => by have := h.lt _ q; have := kW1.size; omega
  obtain ⟨M, eM⟩ : ∃ M, w.heap.size = M := ⟨_, rfl⟩
  obtain ⟨N, eN⟩ : ∃ N, W1.heap.size = N := ⟨_, rfl⟩
  have hMN : N = M + 1 := by rw [← eN, ← eW1, World.size_alloc, eM]
  have hMw : w.heap.size ≤ N := by omega
  have MW := Lib.hid hMw
  have hNW : N < W.heap.size := by rw [← eW, World.size_alloc, eN]; exact Nat.lt_succ_self _
  have HMN := Lib.hid hMN
  have EM := Lib.hid eM
  have ES := Lib.hid eN
  rw [eM] at ob fM
  rw [eN] at rb fN
  have H := Lib.hid (h.same kW)
  have OB := Lib.hid (ob.keep kW2 (fun e => e))
  have RB := Lib.hid rb
  have FM := Lib.hid fM
  have FN := Lib.hid fN
  have KW := Lib.hid kW
  obtain ⟨o0, o1, o2, o3⟩ := OB.out
  have d1 : decide ((s : Int) < 0) = false := decide_eq_false (by omega)
  have d2 : decide ((7 : Int) < (s : Int)) = false := decide_eq_false (by omega)
  have g1 : ¬ (s : Int) < 0 := by omega
  have g2 : ¬ (7 : Int) < (s : Int) := by omega
  have hs2 : (s : Int) < 8 := by omega
  obtain ⟨t, et⟩ : ∃ t, x.s s = t := ⟨_, rfl⟩
  have s0 := H.out.s0 s hs
  rw [et] at s0
  have ET := Lib.hid et
  have d3 : (t.id == 0) = false := by rw [← et]; simpa using hid
  have OKI := Lib.hid hok
  have d4 : decide (12 ≤ t.ops) = false := by rw [← et]; exact decide_eq_false hm
  have HOP := Lib.hid (show 0 ≤ t.ops ∧ t.ops < 12 by rw [← et]; omega)
  have FRS := Lib.hid (f.r s hs).1
  have FWS := Lib.hid (f.w s hs)
  have FV := Lib.hid f.v
  obtain ⟨ok, okey, ohi, oval⟩ := o
  obtain rfl : ok = 1 := hk
  have HZ := Lib.hid hz
  have HAT := Lib.hid hat
  clear et hid hok hm ho f hz hat hMN hMw h ob rb fM fN kW kW1 kW2
  unfold DidD opV
  go_enter Try.func37, Try.ntmps37
  go_wp2_with fail
  refine (ropok_any ⟨1, okey, ohi, oval⟩ true OKI.out _).mono ?_
  rintro e w1 ⟨rfl, k1⟩
  obtain ⟨p0, p1, p2, p3⟩ := OB.out.keep k1 id
  have hN1 : N < w1.heap.size := Nat.lt_of_lt_of_le hNW k1.size
  have H1 := Lib.hid (H.out.same k1)
  have R1 := Lib.hid (RB.out.keep k1 id)
  have K1 := Lib.hid (KW.out.trans k1)
  have z2 := H1.out.s2 s hs
  rw [ET.out] at z2
  have fz2 := H1.out.fz (3 + s * 6 + 2)
  have C := H1.out.count1 hs
  rw [ET.out] at C
  obtain ⟨op1, eop⟩ : ∃ op1, t.ops + 1 = op1 := ⟨_, rfl⟩
  have wr : IntKind.i64.wrap (t.ops + 1) = op1 := (IntWalk.i64_in _ (by have := HOP.out; omega)).trans eop
  rw [eop] at C
  have EOP := Lib.hid eop
  obtain ⟨wb, eb⟩ : ∃ wb, w1.setCell ⟨m, 3 + s * 6 + 2, none⟩ (.int .i64 op1) = wb := ⟨_, rfl⟩
  have KB : Keep (fun q => q = m) w1 wb := by rw [← eb]; exact (Keep.refl (fun q => q = m) w1).setCell (p := ⟨m, 3 + s * 6 + 2, none⟩) rfl _
  rw [eb] at C
  have gMm : ¬ M = m := fun e => FM.out (.inl e)
  have gNm : ¬ N = m := fun e => FN.out (.inl e)
  have KBH := Lib.hid KB
  have CH := Lib.hid C
  clear C KB eop
  go_wp2_with fail
  refine wp_region_held_drew (S := fun w' => w'.cell? ⟨M, 1, none⟩ = some (.int .i64 okey)) (by kernel_rfl) p1 (fun hHeld => ?_)
  refine tk 0 (v := ?qvu309) ?qyu309 ?qru309; case qyu309 => ((intro w hSw; (try dsimp only at hSw); go_simp); try (with_reducible rfl))
  (try simp only [tA, tS, tZ, Act.put, uA, uS, uZ])
  refine tk 1 (v := ?qvu310) ?qyu310 ?qru310; case qyu310 => ((intro w hSw; (try dsimp only at hSw); go_simp); try (with_reducible rfl))
  (try simp only [tA, tS, tZ, Act.put, uA, uS, uZ])
  refine tk 2 (v := ?qvu311) ?qyu311 ?qru311; case qyu311 => ((intro w hSw; (try dsimp only at hSw); go_simp); try (with_reducible rfl))
  (try simp only [tA, tS, tZ, Act.put, uA, uS, uZ])
  refine tk 3 (v := ?qvu312) ?qyu312 ?qru312; case qyu312 => ((intro w hSw; (try dsimp only at hSw); go_simp); try (with_reducible rfl))
  (try simp only [tA, tS, tZ, Act.put, uA, uS, uZ])
  refine tk 4 (v := ?qvu313) ?qyu313 ?qru313; case qyu313 => ((intro w hSw; (try dsimp only at hSw); go_simp); try (with_reducible rfl))
  (try simp only [tA, tS, tZ, Act.put, uA, uS, uZ])
  refine tk 5 (v := ?qvu314) ?qyu314 ?qru314; case qyu314 => ((intro w hSw; (try dsimp only at hSw); go_simp); try (with_reducible rfl))
  (try simp only [tA, tS, tZ, Act.put, uA, uS, uZ])
  refine tk 8 (v := ?qvu315) ?qyu315 ?qru315; case qyu315 => ((intro w hSw; (try dsimp only at hSw); go_simp); try (with_reducible rfl))
  (try simp only [tA, tS, tZ, Act.put, uA, uS, uZ])
  refine tk 9 (v := ?qvu316) ?qyu316 ?qru316; case qyu316 => ((intro w hSw; (try dsimp only at hSw); go_simp); try (with_reducible rfl))
  (try simp only [tA, tS, tZ, Act.put, uA, uS, uZ])
  refine wpAnyH_ready (rs := [6]) (by kernel_rfl) (by simp) ?_
  refine AllReadyH.cons rfl (fun K hK => ?_) AllReadyH.nil
  go_simp
  refine hK.out _ _ hHeld (fun hHeld => ?_)
  clear hK K
  (try simp only [tA, tS, tZ, Act.put, uA, uS, uZ])
  refine tk 7 (v := ?qvu317) ?qyu317 ?qru317; case qyu317 => ((intro w hSw; (try dsimp only at hSw); go_simp); try (with_reducible rfl))
  (try simp only [tA, tS, tZ, Act.put, uA, uS, uZ])
  refine tk 10 (v := ?qvu318) ?qyu318 ?qru318; case qyu318 => ((intro w hSw; (try dsimp only at hSw); go_simp); try (with_reducible rfl))
  (try simp only [tA, tS, tZ, Act.put, uA, uS, uZ])
  refine tk 11 (v := ?qvu319) ?qyu319 ?qru319; case qyu319 => ((intro w hSw; (try dsimp only at hSw); go_simp); try (with_reducible rfl))
  (try simp only [tA, tS, tZ, Act.put, uA, uS, uZ])
  refine wpAnyH_ready (rs := [12]) (by kernel_rfl) (by simp) ?_
  refine AllReadyH.cons rfl (fun K hK => ?_) AllReadyH.nil
  go_simp
  go_simp
  refine hK.out _ _ (KBH.out.cell p1 gMm) (fun hHeld => ?_)
  clear hK K
  (try simp only [tA, tS, tZ, Act.put, uA, uS, uZ])
  refine wpAnyH_done (by kernel_rfl) ?_ _
  have kd := (Keep.refl (fun _ => False) wb).drew
  obtain ⟨wc, ec⟩ : ∃ wc, wb.drew = wc := ⟨_, rfl⟩
  rw [ec] at kd ⊢
  have KC := Lib.hid (KBH.out.trans (kd.mono (fun _ e => e.elim)))
  have HC := Lib.hid (CH.out.same kd)
  clear hHeld ec kd eb z2 fz2 wr
  obtain ⟨t2, et2⟩ : ∃ t2, (x.count s).s s = t2 := ⟨_, rfl⟩
  have ET2 := Lib.hid et2
  have s0 := HC.out.s0 s hs
  have s1 := HC.out.s1 s hs
  have s2 := HC.out.s2 s hs
  have s3 := HC.out.s3 s hs
  have s4 := HC.out.s4 s hs
  have s5 := HC.out.s5 s hs
  have OW := Lib.hid (HC.out.ow s hs)
  have OR5 := Lib.hid (HC.out.or' s hs)
  rw [et2] at s0 s1 s2 s3 OW OR5
  obtain ⟨A4, c4, e4⟩ := own_n _ _ _ OW.out
  obtain ⟨A5, c5, e5⟩ := own_r _ _ _ OR5.out
  obtain ⟨n4, en4⟩ : ∃ n, t2.wrote.length = n := ⟨_, rfl⟩
  obtain ⟨n5, en5⟩ : ∃ n, t2.reads.length = n := ⟨_, rfl⟩
  rw [en4] at e4
  rw [en5] at e5
  rw [e4] at s4 OW
  rw [e5] at s5 OR5
  have E4 := Lib.hid e4
  have E5 := Lib.hid e5
  have EN4 := Lib.hid en4
  have EN5 := Lib.hid en5
  obtain ⟨W2, eW2, tb, k2⟩ := tx_box wc t2 (.slice A4 n4 c4) (.slice A5 n5 c5)
  obtain ⟨M3, eM3⟩ : ∃ M3, wc.heap.size = M3 := ⟨_, rfl⟩
  rw [eM3] at tb
  have OB1 := OB.out.keep k1 id
  have OB2 := Lib.hid (OpAt.keep (OpAt.keep OB1 KC.out gMm) k2 id)
  have RB2 := Lib.hid ((R1.out.keep KC.out gNm).keep k2 id)
  have H2 := Lib.hid (HC.out.same k2)
  have TB := Lib.hid tb
  have K2 := Lib.hid (k1.mono (fun _ e => e.elim) |>.trans (KC.out.mono (fun q e => show FootR m vv sw sr q from .inl e)) |>.trans (k2.mono (fun _ e => e.elim)))
  obtain ⟨b0, b1, b2, b3, b4, b5⟩ := TB.out
  clear p0 p1 p2 p3
  obtain ⟨p0, p1, p2, p3⟩ := OB2.out
  have EM3 := Lib.hid eM3
  clear et2 e4 e5 en4 en5 k2 tb OB1 k1
  obtain ⟨iv, eiv⟩ : ∃ iv, idxV at' = iv := ⟨_, rfl⟩
  obtain ⟨mine, emi⟩ : ∃ b, decide (okey ∈ t2.wrote) = b := ⟨_, rfl⟩
  obtain ⟨fd, efd⟩ : ∃ b, decide (at' ≠ none) = b := ⟨_, rfl⟩
  have df : decide ((0 : Int) ≤ iv) = fd := by
    rw [← efd, ← eiv]
    cases at' with
    | none => rfl
    | some i => simp [idxV]
  have HS := Lib.hid (rsees_any H2.out (Nat.le_trans FV.out (by omega)) t2 (.slice A4 n4 c4) (.slice A5 n5 c5) okey)
  have hat2 : seesI (x.count s).v t2.id t2.start okey = at' := by rw [← ET2.out]; exact HAT.out
  rw [hat2, eiv] at HS
  unfold txV at HS
  have ZZ := Lib.hid (show (if mine = true then x.count s else (x.count s).keepR s ⟨okey, okey, fd, false⟩) = z by
    rw [← HZ.out, ← emi, ← efd, ET2.out]
    simp)
  have EIV := Lib.hid eiv
  have EMI := Lib.hid emi
  clear hat2 efd eiv emi
  go_wp2_with fail
  refine HS.out.mono ?_
  rintro e w3 ⟨rfl, k3⟩
  have H3 := Lib.hid (H2.out.same k3)
  have RB3 := Lib.hid (RB2.out.keep k3 id)
  have P3 := OB2.out.keep k3 id
  have T3 := TB.out.keep k3
  have K3 := Lib.hid (K2.out.trans (k3.mono (fun _ e => e.elim)))
  clear p0 p1 p2 p3 b0 b1 b2 b3 b4 b5 k3 HS
  obtain ⟨p0, p1, p2, p3⟩ := P3
  obtain ⟨b0, b1, b2, b3, b4, b5⟩ := T3
  have OW3 := Lib.hid (show OwnN 0 w3 (.slice A4 n4 c4) t2.wrote by have := H3.out.ow s hs; rwa [ET2.out, E4.out] at this)
  have nw : t2.wrote.length ≤ 100000 := by rw [← ET2.out, SAME.out.1]; exact Nat.le_trans FWS.out (by omega)
  have HHA := Lib.hid (rhas_any OW3.out nw okey mine EMI.out)
  clear nw
  go_wp2_with fail
  refine HHA.out.mono ?_
  rintro e w4 ⟨rfl, rfl⟩
  go_upto_if 84 with fail
  go_cut [] from 85 to 101 (fun wx => RmTo W m vv sw sr z wx)
  case first =>
    cases mine
    · have ZF := Lib.hid (show z = (x.count s).keepR s ⟨okey, okey, fd, false⟩ from ZZ.out.symm)
      have kdd := (Keep.refl (fun _ => False) w3).drew
      have H5 := Lib.hid (H3.out.same kdd)
      have OR6 := Lib.hid (show OwnR w3.drew (.slice A5 n5 c5) t2.reads by have := H5.out.or' s hs; rwa [ET2.out, E5.out] at this)
      have nn5 : n5 ≤ 1000 := by
        rw [← EN5.out, ← ET2.out]
        unfold MoI.count
        show (putS x.s s _ s).reads.length ≤ 1000
        rw [putS_self]
        exact FRS.out
      have s5' := H5.out.s5 s hs
      rw [E5.out] at s5'
      have fz5 := H5.out.fz (3 + s * 6 + 5)
      have nm5 := Lib.hid (show ¬ (Value.slice A5 n5 c5).ownBlock = some m by have := H5.out.rm s hs; rwa [E5.out] at this)
      have ml5 := Lib.hid H5.out.mlt
      have nmM := Lib.hid (show ¬ (Value.slice A5 n5 c5).ownBlock = some M from fun q => FM.out (.inr (.inr ⟨s, hs, .inr (by rw [E5.out]; exact q)⟩)))
      have F3 : ¬ FootR m vv sw sr M3 := fun q => by have := HC.out.lt _ q; have := EM3.out; omega
      have nm3 := Lib.hid (show ¬ (Value.slice A5 n5 c5).ownBlock = some M3 from fun q => F3 (.inr (.inr ⟨s, hs, .inr (by rw [E5.out]; exact q)⟩)))
      have g3m : ¬ M3 = m := fun e => F3 (.inl e)
      have F3H := Lib.hid F3
      have hHd : w3.drew.cell? ⟨M, 1, none⟩ = some (.int .i64 okey) ∧ w3.drew.cell? ⟨M3, 5, none⟩ = some (.slice A5 n5 c5) := ⟨p1, b5⟩
      clear F3
      go_wp2_with fail
      refine wp_region_held_drew (S := fun w' => w'.cell? ⟨M, 1, none⟩ = some (.int .i64 okey) ∧ w'.cell? ⟨M3, 5, none⟩ = some (.slice A5 n5 c5)) (by kernel_rfl) ⟨p1, b5⟩ (fun hHeld => ?_)
      refine tk 0 (v := ?qvu320) ?qyu320 ?qru320; case qyu320 => ((intro w hSw; (try dsimp only at hSw); go_simp); try (with_reducible rfl))
      (try simp only [tA, tS, tZ, Act.put, uA, uS, uZ])
      refine tk 1 (v := ?qvu321) ?qyu321 ?qru321; case qyu321 => ((intro w hSw; (try dsimp only at hSw); go_simp); try (with_reducible rfl))
      (try simp only [tA, tS, tZ, Act.put, uA, uS, uZ])
      refine tk 2 (v := ?qvu322) ?qyu322 ?qru322; case qyu322 => ((intro w hSw; (try dsimp only at hSw); go_simp); try (with_reducible rfl))
      (try simp only [tA, tS, tZ, Act.put, uA, uS, uZ])
      refine tk 3 (v := ?qvu323) ?qyu323 ?qru323; case qyu323 => ((intro w hSw; (try dsimp only at hSw); go_simp); try (with_reducible rfl))
      (try simp only [tA, tS, tZ, Act.put, uA, uS, uZ])
      refine tk 4 (v := ?qvu324) ?qyu324 ?qru324; case qyu324 => ((intro w hSw; (try dsimp only at hSw); go_simp); try (with_reducible rfl))
      (try simp only [tA, tS, tZ, Act.put, uA, uS, uZ])
      refine tk 5 (v := ?qvu325) ?qyu325 ?qru325; case qyu325 => ((intro w hSw; (try dsimp only at hSw); go_simp); try (with_reducible rfl))
      (try simp only [tA, tS, tZ, Act.put, uA, uS, uZ])
      refine tk 6 (v := ?qvu326) ?qyu326 ?qru326; case qyu326 => ((intro w hSw; (try dsimp only at hSw); go_simp); try (with_reducible rfl))
      (try simp only [tA, tS, tZ, Act.put, uA, uS, uZ])
      refine tk 7 (v := ?qvu327) ?qyu327 ?qru327; case qyu327 => ((intro w hSw; (try dsimp only at hSw); go_simp); try (with_reducible rfl))
      (try simp only [tA, tS, tZ, Act.put, uA, uS, uZ])
      refine tk 8 (v := ?qvu328) ?qyu328 ?qru328; case qyu328 => ((intro w hSw; (try dsimp only at hSw); go_simp); try (with_reducible rfl))
      (try simp only [tA, tS, tZ, Act.put, uA, uS, uZ])
      refine tk 9 (v := ?qvu329) ?qyu329 ?qru329; case qyu329 => ((intro w hSw; (try dsimp only at hSw); go_simp); try (with_reducible rfl))
      (try simp only [tA, tS, tZ, Act.put, uA, uS, uZ])
      refine tk 10 (v := ?qvu330) ?qyu330 ?qru330; case qyu330 => ((intro w hSw; (try dsimp only at hSw); go_simp); try (with_reducible rfl))
      (try simp only [tA, tS, tZ, Act.put, uA, uS, uZ])
      refine tk 13 (v := ?qvu331) ?qyu331 ?qru331; case qyu331 => ((intro w hSw; (try dsimp only at hSw); go_simp); try (with_reducible rfl))
      (try simp only [tA, tS, tZ, Act.put, uA, uS, uZ])
      refine tk 14 (v := ?qvu332) ?qyu332 ?qru332; case qyu332 => ((intro w hSw; (try dsimp only at hSw); go_simp); try (with_reducible rfl))
      (try simp only [tA, tS, tZ, Act.put, uA, uS, uZ])
      refine wpAnyH_ready (rs := [11]) (by kernel_rfl) (by simp) ?_
      refine AllReadyH.cons rfl (fun K hK => ?_) AllReadyH.nil
      go_simp
      refine hK.out _ _ ⟨((Keep.refl (fun _ => False) _).alloc _).cell hHeld.1 id, ((Keep.refl (fun _ => False) _).alloc _).cell hHeld.2 id⟩ (fun hHeld => ?_)
      clear hK K
      (try simp only [tA, tS, tZ, Act.put, uA, uS, uZ])
      refine wpAnyH_ready (rs := [12]) (by kernel_rfl) (by simp) ?_
      refine AllReadyH.cons rfl (fun K hK => ?_) AllReadyH.nil
      refine step_pushM Try.underlying77 info_rr rfl (by decide) (by decide) rrC_len rr_one rfl (.tmp 88) (.tmp 96) rfl _ t2.reads (by rfl) OR6.out ⟨okey, okey, fd, false⟩ rfl (by rw [EN5.out]; omega) ?_
      rintro g6 c6 y6 o6 k6 hg6
      have z5 := k6.cell s5' nm5.out
      have zf := (k6.frozen (a := ⟨m, 3 + s * 6 + 5, none⟩) ml5.out nm5.out).trans fz5
      refine hK.out _ _ ⟨k6.cell hHd.1 nmM.out, k6.cell hHd.2 nm3.out⟩ (fun hHeld => ?_)
      clear hK K
      (try simp only [tA, tS, tZ, Act.put, uA, uS, uZ])
      refine tk 15 (v := ?qvu333) ?qyu333 ?qru333; case qyu333 => ((intro w hSw; (try dsimp only at hSw); go_simp); try (with_reducible rfl))
      (try simp only [tA, tS, tZ, Act.put, uA, uS, uZ])
      refine tk 16 (v := ?qvu334) ?qyu334 ?qru334; case qyu334 => ((intro w hSw; (try dsimp only at hSw); go_simp); try (with_reducible rfl))
      (try simp only [tA, tS, tZ, Act.put, uA, uS, uZ])
      refine wpAnyH_ready (rs := [17]) (by kernel_rfl) (by simp) ?_
      refine AllReadyH.cons rfl (fun K hK => ?_) AllReadyH.nil
      go_simp
      refine hK.out _ _ ⟨(keep_one y6 ⟨m, 3 + s * 6 + 5, none⟩ _).cell hHeld.1 gMm, (keep_one y6 ⟨m, 3 + s * 6 + 5, none⟩ _).cell hHeld.2 g3m⟩ (fun hHeld => ?_)
      clear hK K
      (try simp only [tA, tS, tZ, Act.put, uA, uS, uZ])
      refine wpAnyH_done (by kernel_rfl) ?_ _
      have AR := H5.out.addR hs ⟨okey, okey, fd, false⟩ (b := .slice (some ⟨g6, 0, none⟩) (t2.reads.length + 1) c6) (y4 := y6) (by rw [E5.out]; exact k6) (by rw [ET2.out]; exact o6) (by rw [E5.out]; intro g e; cases e; exact hg6)
      go_wp2_with fail
      go_meet
      rw [ZF.out]
      exact AR.front2 (K3.out.trans (kdd.mono (fun _ e => e.elim))) (fun g hg => hg)
    · have ZF := Lib.hid (show z = x.count s from ZZ.out.symm)
      go_wp2_with fail
      go_meet
      rw [ZF.out]
      exact RmTo.same H3.out K3.out
  case rest =>
    obtain ⟨vv1, sw1, sr1, a1, a2, a3⟩ := hcut
    have zv : z.v = x.v := by rw [← ZZ.out]; cases mine <;> rfl
    have R6 := Lib.hid (RB.out.keep a2 FN.out)
    obtain ⟨q0, q1, q2, q3, q4, q5⟩ := R6.out
    have HC9 := Lib.hid a1
    have KC9 := Lib.hid a2
    have FC9 := Lib.hid a3
    obtain ⟨Av1, cv1, ev1, hcv1, _⟩ := a1.vers
    obtain ⟨nv, env⟩ : ∃ n, z.v.length = n := ⟨_, rfl⟩
    rw [env] at ev1 hcv1
    subst ev1
    have c2 := a1.c2
    clear a2 a3
    cases at' with
    | none =>
      obtain rfl : -1 = iv := EIV.out
      clear a1 zv env
      go_wp2
      (obtain ⟨W7, eW7⟩ : ∃ W7, (((((wc.setCell ⟨N, 0, none⟩ (.int .i64 11)).setCell ⟨N, 1, none⟩ (.int .i64 0)).setCell ⟨N, 2, none⟩ (.slice none 0 0)).setCell ⟨N, 3, none⟩ (.int .i64 0)).setCell ⟨N, 4, none⟩ (.int .i64 0)) = W7 := ⟨_, rfl⟩; obtain ⟨⟨v0, v1, v2, v3, v4, _⟩, k7⟩ := res_set R6.out _ _ _ _ _ eW7; rw [eW7]; refine bodyPost_ret (v := .tuple #[.agg #[.int .i64 11, .int .i64 0, .slice none 0 0, .int .i64 0, .int .i64 0], .int .i64 0]) (by simp [results, Try.results37, go_sem, v0, v1, v2, v3, v4]) rfl ⟨rfl, ?_⟩)
      exact RmTo.fin ⟨_, _, _, HC9.out, KC9.out, FC9.out⟩ KW.out MW.out hNW FN.out k7
    | some i =>
      obtain rfl : (i : Int) = iv := EIV.out
      have li : i < x.v.length := by
        have hat := HAT.out
        unfold seesI at hat
        split at hat
        · next e => cases hat; exact (List.findIdx?_eq_some_iff_getElem.1 e).1
        · exact (List.findIdx?_eq_some_iff_getElem.1 hat).1
      obtain ⟨y, hy⟩ : ∃ y, x.v[i]? = some y := ⟨_, List.getElem?_eq_getElem li⟩
      have vl : valI x.v i = y.val := by unfold valI; rw [hy]
      obtain ⟨g, eg, v0, v1, v2, v3, v4, v5, v6⟩ := a1.at' i y (by rw [zv]; exact hy)
      subst eg
      have lin : i < nv := by rw [← env, zv]; exact li
      have lin2 : (i : Int) < (nv : Int) := by omega
      have ai0 : (0 : Int) ≤ (i : Int) := by omega
      have ai1 : decide ((i : Int) < 0) = false := decide_eq_false (by omega)
      have VL := Lib.hid vl
      clear a1 zv env hy vl li
      go_wp2
      simp only [VL.out]
      (obtain ⟨W7, eW7⟩ : ∃ W7, (((((wc.setCell ⟨N, 0, none⟩ (.int .i64 0)).setCell ⟨N, 1, none⟩ (.int .i64 y.val)).setCell ⟨N, 2, none⟩ (.slice none 0 0)).setCell ⟨N, 3, none⟩ (.int .i64 0)).setCell ⟨N, 4, none⟩ (.int .i64 0)) = W7 := ⟨_, rfl⟩; obtain ⟨⟨v0, v1, v2, v3, v4, _⟩, k7⟩ := res_set R6.out _ _ _ _ _ eW7; rw [eW7]; refine bodyPost_ret (v := .tuple #[.agg #[.int .i64 0, .int .i64 y.val, .slice none 0 0, .int .i64 0, .int .i64 0], .int .i64 0]) (by simp [results, Try.results37, go_sem, v0, v1, v2, v3, v4]) rfl ⟨rfl, ?_⟩)
      exact RmTo.fin ⟨_, _, _, HC9.out, KC9.out, FC9.out⟩ KW.out MW.out hNW FN.out k7
end
end Go.Proofs.Ytkkjofefjepodaa
/- The document's own Model, twelfth part: Collect. Conditions: at most 1000 versions. -/
namespace Go.Proofs.Ytkkjofefjepodaa
open Go.ChangeShapes Go.WideShapes Go.ChangeAt Go.RowKit
set_option linter.unusedVariables false
set_option linter.unusedSimpArgs false

/-- The lowest begin among the first k sessions. -/
def lowTo (x : MoI) (k : Nat) : Int := (List.range k).foldl (fun a i => if (x.s i).id ≠ 0 then min a (x.s i).start else a) x.time
theorem lowTo_next (x : MoI) (k : Nat) : lowTo x (k + 1) = if (x.s k).id ≠ 0 then min (lowTo x k) (x.s k).start else lowTo x k := by
 unfold lowTo
 rw [List.range_succ, List.foldl_append]
 rfl
theorem keep_cases (low : Int) (y : VrI) : (MoI.keepV low y = true ∧ y.dead = false ∧ ((y.stop != 0) = false ∨ ((y.stop != 0) = true ∧ decide (y.stop ≤ low) = false))) ∨ (MoI.keepV low y = false ∧ (y.dead = true ∨ (y.dead = false ∧ (y.stop != 0) = true ∧ decide (y.stop ≤ low) = true))) := by
 unfold MoI.keepV
 by_cases h1 : y.dead = true <;> by_cases h2 : y.stop = 0 <;> by_cases h3 : y.stop ≤ low <;> simp [h1, h2, h3]
theorem filt_take {l : List VrI} {k : Nat} {y : VrI} (p : VrI → Bool) (h : l[k]? = some y) : (l.take (k + 1)).filter p = (l.take k).filter p ++ if p y = true then [y] else [] := by
 rw [List.take_add_one, h, List.filter_append]
 congr 1
 by_cases e : p y = true <;> simp [e]
theorem filt_len (l : List VrI) (p : VrI → Bool) (k : Nat) : ((l.take k).filter p).length ≤ l.length := Nat.le_trans (List.length_filter_le _ _) (by rw [List.length_take]; omega)
section
variable {w w' W : World} {m : Nat} {vv vv' : Value} {sw sr sw' sr' : Nat → Value} {x y : MoI} {T : Nat → Prop}
def RLo (w : World) (x : MoI) (k : Nat) (lo i : Value) (wr : World) : Prop := ∃ z : Int, k ≤ 8 ∧ i = .int .i64 k ∧ lo = .int .u64 z ∧ lowTo x k = z ∧ w = wr
def RCo (w : World) (x : MoI) (low : Int) (k : Nat) (o i : Value) (wr : World) : Prop := k ≤ x.v.length ∧ i = .int .i64 k ∧ OwnRv wr o ((x.v.take k).filter (MoI.keepV low)) ∧ (∀ g, o.ownBlock = some g → w.heap.size ≤ g) ∧ Keep (fun _ => False) w wr
set_option maxRecDepth 100000 in
set_option maxHeartbeats 4000000 in
theorem rcollect_any (h : RmAt w m vv sw sr x) (hl : x.v.length ≤ 1000) (r : Int) (hr : x.collected = r) : Calls Try.prog 36 #[.pointer (some ⟨m, 0, none⟩)] w fun e w' => e = .returned (.int .i64 r) ∧ RmTo w m vv sw sr x.collect w' := by
 obtain ⟨A, c, rfl, hc, hv⟩ := h.vers
 obtain ⟨n, en⟩ : ∃ n, x.v.length = n := ⟨_, rfl⟩
 have H := Lib.hid h
 have EN := Lib.hid en
 have HR := Lib.hid hr
 rw [en] at hc hl H ⊢
 have c51 := h.c51
 clear h en hv hr
 go_enter Try.func36, Try.ntmps36
 go_wp2
 go_loopw [3, 4] (fun lo i wr => ∃ k : Nat, RLo w x k lo i wr) (fun _ i _ => 8 - (intOf i).toNat)
 case atStart => exact ⟨0, x.time, Nat.zero_le _, rfl, rfl, rfl, rfl⟩
 case round =>
  obtain ⟨k, z, hk, rfl, rfl, hz, rfl⟩ := hrel
  have wk : IntKind.i64.wrap ((k : Int) + 1) = (k : Int) + 1 := IntWalk.i64_in _ (by omega)
  have HZ := Lib.hid hz
  clear hz
  by_cases hlt : k < 8
  ·have hlt2 : (k : Int) < 8 := by omega
   have s0 := H.out.s0 k hlt
   have s3 := H.out.s3 k hlt
   have nx := lowTo_next x k
   obtain ⟨id', ei⟩ : ∃ z, (x.s k).id = z := ⟨_, rfl⟩
   obtain ⟨st, es⟩ : ∃ z, (x.s k).start = z := ⟨_, rfl⟩
   rw [ei] at s0 nx
   rw [es] at s3 nx
   by_cases hi : id' = 0
   ·subst hi
    have NX := Lib.hid (show lowTo x (k + 1) = z by rw [nx, if_neg (by simp)]; exact HZ.out)
    clear nx ei es
    go_wp2
    first | exact ⟨⟨k + 1, z, by omega, by go_num, rfl, NX.out, rfl⟩, by simp [intOf]; omega⟩ | (refine ⟨?rel2, ?meas2⟩; (case meas2 => (simp [intOf]; omega)); (case rel2 => ((repeat apply Exists.intro); exact ⟨⟨k + 1, z, by omega, by go_num, rfl, NX.out, rfl⟩, rfl⟩)))
   ·have d1 : (id' != 0) = true := by simpa using hi
    obtain ⟨z2, ez2⟩ : ∃ z2, (if st < z then st else z) = z2 := ⟨_, rfl⟩
    have NX := Lib.hid (show lowTo x (k + 1) = z2 by
     rw [nx, if_pos hi, HZ.out, ← ez2, Int.min_def]
     by_cases e1 : z ≤ st <;> by_cases e2 : st < z <;> simp [e1, e2] <;> omega)
    clear nx ei es hi
    go_wp2
    first | exact ⟨⟨k + 1, z2, by omega, by go_num, rfl, NX.out, rfl⟩, by simp [intOf]; omega⟩ | (refine ⟨?rel2, ?meas2⟩; (case meas2 => (simp [intOf]; omega)); (case rel2 => ((repeat apply Exists.intro); exact ⟨⟨k + 1, z2, by omega, by go_num, rfl, NX.out, rfl⟩, rfl⟩)))
  ·obtain rfl : k = 8 := by omega
   have hlow : x.low = z := HZ.out
   have HLO := Lib.hid hlow
   clear hlow hlt hk wk
   go_wp2
   go_loopw [5, 6, 7] (fun o i _ wr => ∃ k : Nat, RCo w x z k o i wr) (fun _ i _ _ => n - (intOf i).toNat)
   case atStart => exact ⟨0, Nat.zero_le _, rfl, OwnM.nil, by simp [Value.ownBlock], Keep.refl _ _⟩
   case round =>
    obtain ⟨k, hk, rfl, oo, og, k1⟩ := hrel
    rename_i u5 u7
    rw [EN.out] at hk
    have wk : IntKind.i64.wrap ((k : Int) + 1) = (k : Int) + 1 := IntWalk.i64_in _ (by omega)
    have c2 := (H.out.same k1).c2
    by_cases hlt : k < n
    ·obtain ⟨y, hy⟩ : ∃ y, x.v[k]? = some y := ⟨_, List.getElem?_eq_getElem (by rw [EN.out]; exact hlt)⟩
     obtain ⟨g, eg, a0, a1, a2, a3, a4, a5, a6⟩ := (H.out.same k1).at' k y hy
     subst eg
     have mc := keep_cases z y
     have nx := filt_take (MoI.keepV z) hy
     have KA := Lib.hid fun o => k1.alloc o
     have OA := Lib.hid fun o => oo.keep ((Keep.refl (fun _ => False) wr).alloc o) (by simp)
     have OG := Lib.hid og
     have ll := Nat.le_trans (filt_len x.v (MoI.keepV z) k) (show x.v.length ≤ 100000 by rw [EN.out]; omega)
     have SZ := Lib.hid k1.size
     obtain ⟨yk, yv, yb, ye, ya, yo, yd⟩ := y
     clear hy oo og
     rcases mc with ⟨mt, rfl, h2 | ⟨h2, h3⟩⟩ | ⟨mf, rfl | ⟨rfl, h2, h3⟩⟩
     iterate 2
      ·rw [if_pos mt] at nx
       have NX := Lib.hid nx
       obtain ⟨Y, eY⟩ : ∃ Y, (x.v.take k).filter (MoI.keepV z) = Y := ⟨_, rfl⟩
       rw [eY] at ll OA
       have EY := Lib.hid eY
       clear nx eY mt
       go_wp2_with (with_reducible refine wp_stop 67 rfl ?_)
       intro _
       refine wp_pushM Try.underlying76 info_vr rfl (by decide) (by decide) vrC_len vr_one rfl (.tmp 64) (.tmp 66) rfl _ Y (by rfl) (OA.out _) ⟨yk, yv, yb, ye, ya, yo, false⟩ (by rw [World.size_alloc]; rfl) ll ?_
       rintro g2 c2 w3 o3 k3 hg
       rw [show Y ++ [(⟨yk, yv, yb, ye, ya, yo, false⟩ : VrI)] = (x.v.take (k + 1)).filter (MoI.keepV z) from by rw [NX.out, EY.out]] at o3
       have K3 : Keep (fun _ => False) w w3 := (KA.out _).older (S := fun g => w.heap.size ≤ g) (k3.mono (fun g e => OG.out g e)) (fun _ e => e)
       have hg2 : w.heap.size ≤ g2 := by
        rcases hg with e | e
        ·exact OG.out g2 e
        ·have := SZ.out; simp at e; omega
       have O3 := Lib.hid o3
       clear o3 k3 hg
       go_wp2
       first | exact ⟨⟨k + 1, by rw [EN.out]; omega, by go_num, O3.out, (fun g e => by cases e; exact hg2), K3⟩, by simp [intOf]; omega⟩ | (refine ⟨?rel2, ?meas2⟩; (case meas2 => (simp [intOf]; omega)); (case rel2 => ((repeat apply Exists.intro); exact ⟨⟨k + 1, by rw [EN.out]; omega, by go_num, O3.out, (fun g e => by cases e; exact hg2), K3⟩, rfl⟩)))
     all_goals
      rw [if_neg (by rw [mf]; simp), List.append_nil] at nx
      have NX := Lib.hid nx
      clear nx mf
      go_wp2
      first | exact ⟨⟨k + 1, by rw [EN.out]; omega, by go_num, by rw [NX.out]; exact OA.out _, OG.out, KA.out _⟩, by simp [intOf]; omega⟩ | (refine ⟨?rel2, ?meas2⟩; (case meas2 => (simp [intOf]; omega)); (case rel2 => ((repeat apply Exists.intro); exact ⟨⟨k + 1, by rw [EN.out]; omega, by go_num, by rw [NX.out]; exact OA.out _, OG.out, KA.out _⟩, rfl⟩)))
    ·obtain rfl : k = n := by omega
     rw [show x.v.take k = x.v by rw [← EN.out]; exact List.take_length] at oo
     have fin : x.collected = (k : Int) - (((x.v.filter (MoI.keepV z)).length : Nat) : Int) := by unfold MoI.collected; rw [HLO.out, EN.out]
     have fin2 : x.collect = { x with v := x.v.filter (MoI.keepV z) } := by unfold MoI.collect; rw [HLO.out]
     have lf : (x.v.filter (MoI.keepV z)).length ≤ k := Nat.le_trans (List.length_filter_le _ _) (Nat.le_of_eq EN.out)
     obtain ⟨Ln, eLn⟩ : ∃ Ln, (x.v.filter (MoI.keepV z)).length = Ln := ⟨_, rfl⟩
     rw [eLn] at fin lf
     obtain ⟨B, cb, eo⟩ : ∃ B cb, u5 = .slice B Ln cb := by
      rcases oo.form with ⟨h1, h2⟩ | ⟨g, c, h1, _⟩
      ·exact ⟨none, 0, by rw [h1, ← eLn, h2]; rfl⟩
      ·exact ⟨_, c, by rw [h1, eLn]⟩
     subst eo
     have wr1 : IntKind.i64.wrap ((k : Int) - (Ln : Int)) = (k : Int) - (Ln : Int) := IntWalk.i64_in _ (by omega)
     have er : (k : Int) - (Ln : Int) = r := by rw [← HR.out, fin]
     rw [er] at wr1
     have w64 : wrap64 ((k : Int) - (Ln : Int)) = r := by unfold wrap64; omega
     have fz := (H.out.same k1).fz 2
     have ks := keep_one wr ⟨m, 2, none⟩ (.slice B Ln cb)
     have hm := H.out.mlt
     have KW : Keep (fun g => g = m) w (wr.setCell ⟨m, 2, none⟩ (.slice B Ln cb)) := (k1.mono (fun _ e => e.elim)).trans ks
     have RV := H.out.vs KW (fun g e => .inl e) (fun i u ne hu => by rw [World.cell?_setCell_other _ _ _ _ (by first | (simp; done) | (simp; omega))]; exact k1.cell hu id) (World.cell?_setCell_same _ _ _ c2) (fun i => by rw [World.frozen?_setCell]; exact (H.out.same k1).fz i) _ (oo.keep ks (fun g hg e => by have := og g hg; have e : g = m := e; omega)) (fun g hg => .inr (og g hg))
     have FIN : RmTo w m (.slice A k c) sw sr x.collect (wr.setCell ⟨m, 2, none⟩ (.slice B Ln cb)) := by
      rw [fin2]
      refine ⟨_, _, _, RV, KW.mono (fun g e => .inl e), fun g hg => ?_⟩
      rcases hg with q | q | q
      ·exact .inl (.inl q)
      ·exact .inr (og g q)
      ·exact .inl (.inr (.inr q))
     have FI := Lib.hid FIN
     clear FIN RV KW ks oo og fin fin2 lf eLn er
     go_wp2
     go_ret
     exact ⟨by rw [w64]; rfl, FI.out⟩
end
end Go.Proofs.Ytkkjofefjepodaa
