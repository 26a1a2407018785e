/- Several texts, one behind the other: RmWa, RmWc, RmL, RmP. -/
import Derived.Test.YtkkjofefjepodaaLawModelPlaysZab
import Derived.Test.YtkkjofefjepodaaLawModelPlaysZax
import Derived.Test.YtkkjofefjepodaaLawModelPlaysZaw
/- The document's own Model, an update of a key not one's own. -/
namespace Go.Proofs.Ytkkjofefjepodaa
open Go.ChangeShapes Go.WideShapes Go.ChangeAt Go.RowKit
set_option linter.unusedVariables false
set_option linter.unusedSimpArgs false
section
variable {w w' W : World} {m : Nat} {vv vv' : Value} {sw sr sw' sr' : Nat → Value} {x y : MoI} {T : Nat → Prop}
set_option maxRecDepth 100000 in
set_option maxHeartbeats 8000000 in
theorem rwrite_updA (h : RmAt w m vv sw sr x) (f : Few x) (s : Nat) (hs : s < 8) (o : OpI) (hk : o.kind = 3) (i : Nat) (hat : seesI x.v (x.s s).id (x.s s).start o.key = (some i)) (hnot : o.key ∉ (x.s s).wrote) (hnt : x.taken (x.s s).id (x.s s).start o.key = false) (hown : x.v.findIdx? (ownV (x.s s).id o.key) = none) (hrm : ¬ x.slots ≤ x.v.length) (z : MoI)
  (hz : ({ (if o.key ∈ (x.s s).wrote then x else x.keepW s o.key) with v := MoI.wroteV x.v (x.s s).id o (some i) (x.v.findIdx? (ownV (x.s s).id o.key)) } : MoI) = z) :
  Calls Try.prog 65 #[.pointer (some ⟨m, 0, none⟩), .int .i64 s, opV o] w (DidR w m vv sw sr re0 z) := by
 obtain ⟨W1, eW1, ob, kW1⟩ := op_box w o
 obtain ⟨W, eW, rb, kW2⟩ := res_box W1
 have kW := kW1.trans kW2
 have fM : ¬ FootR m vv sw sr w.heap.size := fun q => by have := h.lt _ q; omega
 have fN : ¬ FootR m vv sw sr W1.heap.size := fun q => by have := h.lt _ q; have := kW1.size; omega
 have hmw := h.mlt
 have H := Lib.hid (h.same kW)
 obtain ⟨Av, cv, evv, hcv, _⟩ := h.vers
 obtain ⟨nv, env⟩ : ∃ n, x.v.length = n := ⟨_, rfl⟩
 rw [env] at evv hcv
 have EVV := Lib.hid evv
 have ENV := Lib.hid env
 clear evv env
 have s0 := H.out.s0 s hs
 have s1 := H.out.s1 s hs
 have s2 := H.out.s2 s hs
 have s3 := H.out.s3 s hs
 have s4 := H.out.s4 s hs
 have s5 := H.out.s5 s hs
 obtain ⟨A4, c4, e4⟩ := own_n _ _ _ (H.out.ow s hs)
 obtain ⟨A5, c5, e5⟩ := own_r _ _ _ (H.out.or' s hs)
 obtain ⟨t, et⟩ : ∃ t, x.s s = t := ⟨_, rfl⟩
 have OW := Lib.hid (H.out.ow s hs)
 have OR5 := Lib.hid (H.out.or' s hs)
 have FW := Lib.hid (f.w s hs)
 have FRS := Lib.hid (f.r s hs).1
 rw [et] at s0 s1 s2 s3 e4 e5 OW OR5 FW
 have ET := Lib.hid et
 obtain ⟨n4, en4⟩ : ∃ n, t.wrote.length = n := ⟨_, rfl⟩
 obtain ⟨n5, en5⟩ : ∃ n, t.reads.length = n := ⟨_, rfl⟩
 rw [en4] at e4
 rw [en5] at e5
 rw [e4] at s4
 rw [e5] at s5
 have E4 := Lib.hid e4
 have E5 := Lib.hid e5
 have EN4 := Lib.hid en4
 have EN5 := Lib.hid en5
 obtain ⟨M, eM⟩ : ∃ M, w.heap.size = M := ⟨_, rfl⟩
 obtain ⟨N, eN⟩ : ∃ N, W1.heap.size = N := ⟨_, rfl⟩
 have hMN : N = M + 1 := by rw [← eN, ← eW1, World.size_alloc, eM]
 have HMN := Lib.hid hMN
 have EM := Lib.hid eM
 have ES := Lib.hid eN
 have hNW : N < W.heap.size := by rw [← eW, World.size_alloc, eN]; exact Nat.lt_succ_self _
 rw [eM] at ob fM hmw
 rw [eN] at rb fN
 have OB := Lib.hid (ob.keep kW2 (fun e => e))
 have RB := Lib.hid rb
 have FM := Lib.hid fM
 have FN := Lib.hid fN
 have KW := Lib.hid kW
 have FV := Lib.hid f.v
 obtain ⟨o0, o1, o2, o3⟩ := OB.out
 obtain ⟨at', eat⟩ : ∃ at', seesI x.v t.id t.start o.key = at' := ⟨_, rfl⟩
 obtain ⟨mine, emi⟩ : ∃ b, decide (o.key ∈ t.wrote) = b := ⟨_, rfl⟩
 have EAT := Lib.hid eat
 have EMI := Lib.hid emi
 have HS := Lib.hid (fun (wx : World) (k : Keep (fun _ => False) W wx) => rsees_any (H.out.same k) (Nat.le_trans FV.out (by omega)) t (sw s) (sr s) o.key)
 have HW := Lib.hid (fun (wx : World) (k : Keep (fun _ => False) W wx) => rhas_any (OwnN.keep OW.out k (by simp)) (Nat.le_trans FW.out (by omega)) o.key mine EMI.out)
 rw [EAT.out, E4.out, E5.out] at HS
 rw [E4.out] at HW
 unfold txV at HS
 have HT := Lib.hid (fun (wx : World) (k : Keep (fun _ => False) W wx) => rtaken_any (H.out.same k) (Nat.le_trans FV.out (by omega)) (fun i hi => Nat.le_trans (f.w i hi) (by omega)) t (sw s) (sr s) o.key)
 rw [E4.out, E5.out] at HT
 unfold txV at HT
 have HOW := Lib.hid (fun (wx : World) (k : Keep (fun _ => False) W wx) => rown_any (H.out.same k) (Nat.le_trans FV.out (by omega)) t.id o.key)
 obtain ⟨ok, okey, ohi, oval⟩ := o
 rw [ET.out] at hnot hnt hown hat hz
 obtain rfl : (some i) = at' := by rw [← EAT.out]; exact hat.symm
 have hown' : x.v.findIdx? (ownV t.id (OpI.key ⟨ok, okey, ohi, oval⟩)) = none := hown
 rw [hown'] at HOW
 rw [hown] at hz
 obtain rfl : ok = 3 := hk
 have ai : idxV (some i) = (i : Int) := rfl
 have ai0 : (0 : Int) ≤ (i : Int) := by omega
 have ai1 : decide ((i : Int) < 0) = false := decide_eq_false (by omega)
 have ai2 : decide ((0 : Int) ≤ (i : Int)) = true := decide_eq_true ai0
 have li : i < x.v.length := by
  unfold seesI at hat
  split at hat
  ·next e => cases hat; exact (List.findIdx?_eq_some_iff_getElem.1 e).1
  ·exact (List.findIdx?_eq_some_iff_getElem.1 hat).1
 obtain ⟨yi, hyi⟩ : ∃ y, x.v[i]? = some y := ⟨_, List.getElem?_eq_getElem li⟩
 have HYI := Lib.hid hyi
 have lin : i < nv := by rw [← ENV.out]; exact li
 have lin2 : (i : Int) < (nv : Int) := by omega
 have di : idxV none = -1 := rfl
 have ai3 : ((i : Int) != -1) = true := by simp
 have HZ2 := Lib.hid (show z = ({ x.keepW s okey with v := x.v.set i { yi with ended := t.id } ++ [⟨okey, oval, t.id, 0, 0, 0, false⟩] } : MoI) from by
  have w1 : MoI.wroteV x.v t.id ⟨3, okey, ohi, oval⟩ (some i) none = x.v.set i { yi with ended := t.id } ++ [⟨okey, oval, t.id, 0, 0, 0, false⟩] := by unfold MoI.wroteV setV; simp [modify_set hyi]
  rw [← hz, if_neg hnot, w1])
 have HZ := Lib.hid hz
 have EKK := Lib.hid hown
 rw [hnt] at HT
 have HNO := Lib.hid hnot
 have HRM := Lib.hid hrm
 clear hnot hnt hown' hown hz hat li hyi hrm
 clear hMN h ob rb fM fN f et e4 e5 en4 en5 eat emi kW kW1 kW2
 unfold DidR opV
 go_enter Try.func65, Try.ntmps65
 go_wp2_with fail
 refine wp_region_held_drew (S := fun w' => w'.cell? ⟨m, 3 + s * 6, none⟩ = some (.int .i64 t.id) ∧ w'.cell? ⟨m, 3 + s * 6 + 1, none⟩ = some (.int .i64 t.level) ∧ w'.cell? ⟨m, 3 + s * 6 + 2, none⟩ = some (.int .i64 t.ops) ∧ w'.cell? ⟨m, 3 + s * 6 + 3, none⟩ = some (.int .u64 t.start) ∧ w'.cell? ⟨m, 3 + s * 6 + 4, none⟩ = some (.slice A4 n4 c4) ∧ w'.cell? ⟨m, 3 + s * 6 + 5, none⟩ = some (.slice A5 n5 c5) ∧ w'.cell? ⟨M, 1, none⟩ = some (.int .i64 okey)) (by kernel_rfl) ⟨s0, s1, s2, s3, s4, s5, o1⟩ (fun hHeld => ?_)
 refine tk 0 (v := ?qvu839) ?qyu839 ?qru839; case qyu839 => ((intro w hSw; (try dsimp only at hSw); go_simp); try (with_reducible rfl))
 (try simp only [tA, tS, tZ, Act.put, uA, uS, uZ])
 refine tk 1 (v := ?qvu840) ?qyu840 ?qru840; case qyu840 => ((intro w hSw; (try dsimp only at hSw); go_simp); try (with_reducible rfl))
 (try simp only [tA, tS, tZ, Act.put, uA, uS, uZ])
 refine tk 2 (v := ?qvu841) ?qyu841 ?qru841; case qyu841 => ((intro w hSw; (try dsimp only at hSw); go_simp); try (with_reducible rfl))
 (try simp only [tA, tS, tZ, Act.put, uA, uS, uZ])
 refine tk 3 (v := ?qvu842) ?qyu842 ?qru842; case qyu842 => ((intro w hSw; (try dsimp only at hSw); go_simp); try (with_reducible rfl))
 (try simp only [tA, tS, tZ, Act.put, uA, uS, uZ])
 refine tk 4 (v := ?qvu843) ?qyu843 ?qru843; case qyu843 => ((intro w hSw; (try dsimp only at hSw); go_simp); try (with_reducible rfl))
 (try simp only [tA, tS, tZ, Act.put, uA, uS, uZ])
 refine tk 5 (v := ?qvu844) ?qyu844 ?qru844; case qyu844 => ((intro w hSw; (try dsimp only at hSw); go_simp); try (with_reducible rfl))
 (try simp only [tA, tS, tZ, Act.put, uA, uS, uZ])
 refine wpAnyH_ready (rs := [6]) (by kernel_rfl) (by simp) ?_
 refine AllReadyH.cons rfl (fun K hK => ?_) AllReadyH.nil
 go_simp
 refine (HS.out _ ((Keep.refl _ W).drew)).mono ?_
 rintro e w3 ⟨rfl, k3⟩
 refine hK.out _ _ ⟨k3.cell hHeld.1 id, k3.cell hHeld.2.1 id, k3.cell hHeld.2.2.1 id, k3.cell hHeld.2.2.2.1 id, k3.cell hHeld.2.2.2.2.1 id, k3.cell hHeld.2.2.2.2.2.1 id, k3.cell hHeld.2.2.2.2.2.2 id⟩ (fun hHeld => ?_)
 clear hK K
 (try simp only [tA, tS, tZ, Act.put, uA, uS, uZ])
 refine tk 7 (v := ?qvu845) ?qyu845 ?qru845; case qyu845 => ((intro w hSw; (try dsimp only at hSw); go_simp); try (with_reducible rfl))
 (try simp only [tA, tS, tZ, Act.put, uA, uS, uZ])
 refine wpAnyH_done (by kernel_rfl) ?_ _
 have K3 : Keep (fun _ => False) W w3 := ((Keep.refl _ W).drew).trans k3
 clear hHeld
 go_wp2_with fail
 refine wp_region_held_drew (S := fun w' => w'.cell? ⟨m, 3 + s * 6 + 4, none⟩ = some (.slice A4 n4 c4) ∧ w'.cell? ⟨M, 1, none⟩ = some (.int .i64 okey)) (by kernel_rfl) ⟨K3.cell s4 id, K3.cell o1 id⟩ (fun hHeld => ?_)
 refine tk 0 (v := ?qvu846) ?qyu846 ?qru846; case qyu846 => ((intro w hSw; (try dsimp only at hSw); go_simp); try (with_reducible rfl))
 (try simp only [tA, tS, tZ, Act.put, uA, uS, uZ])
 refine tk 1 (v := ?qvu847) ?qyu847 ?qru847; case qyu847 => ((intro w hSw; (try dsimp only at hSw); go_simp); try (with_reducible rfl))
 (try simp only [tA, tS, tZ, Act.put, uA, uS, uZ])
 refine tk 2 (v := ?qvu848) ?qyu848 ?qru848; case qyu848 => ((intro w hSw; (try dsimp only at hSw); go_simp); try (with_reducible rfl))
 (try simp only [tA, tS, tZ, Act.put, uA, uS, uZ])
 refine tk 3 (v := ?qvu849) ?qyu849 ?qru849; case qyu849 => ((intro w hSw; (try dsimp only at hSw); go_simp); try (with_reducible rfl))
 (try simp only [tA, tS, tZ, Act.put, uA, uS, uZ])
 refine tk 4 (v := ?qvu850) ?qyu850 ?qru850; case qyu850 => ((intro w hSw; (try dsimp only at hSw); go_simp); try (with_reducible rfl))
 (try simp only [tA, tS, tZ, Act.put, uA, uS, uZ])
 refine tk 5 (v := ?qvu851) ?qyu851 ?qru851; case qyu851 => ((intro w hSw; (try dsimp only at hSw); go_simp); try (with_reducible rfl))
 (try simp only [tA, tS, tZ, Act.put, uA, uS, uZ])
 refine wpAnyH_ready (rs := [6]) (by kernel_rfl) (by simp) ?_
 refine AllReadyH.cons rfl (fun K hK => ?_) AllReadyH.nil
 go_simp
 refine (HW.out _ (K3.drew)).mono ?_
 rintro e w4 ⟨rfl, rfl⟩
 refine hK.out _ _ hHeld (fun hHeld => ?_)
 clear hK K
 (try simp only [tA, tS, tZ, Act.put, uA, uS, uZ])
 refine tk 7 (v := ?qvu852) ?qyu852 ?qru852; case qyu852 => ((intro w hSw; (try dsimp only at hSw); go_simp); try (with_reducible rfl))
 (try simp only [tA, tS, tZ, Act.put, uA, uS, uZ])
 refine wpAnyH_done (by kernel_rfl) ?_ _
 have K4 : Keep (fun _ => False) W w3.drew := K3.drew
 clear hHeld
 obtain ⟨wq, ewq⟩ : ∃ wq, w3.drew = wq := ⟨_, rfl⟩
 rw [ewq] at K4 ⊢
 clear ewq K3 k3
 obtain ⟨p0, p1, p2, p3⟩ := OB.out.keep K4 id
 have H4 := Lib.hid (H.out.same K4)
 have R4 := Lib.hid (RB.out.keep K4 id)
 obtain rfl : mine = false := by rw [← EMI.out]; exact decide_eq_false HNO.out
 have hrm : ¬ x.slots ≤ (nv : Int) := by have := HRM.out; rw [← ENV.out]; omega
 have d5 : decide (x.slots ≤ (nv : Int)) = false := decide_eq_false hrm
 have s0 := H4.out.s0 s hs
 have s1 := H4.out.s1 s hs
 have s2 := H4.out.s2 s hs
 have s3 := H4.out.s3 s hs
 have s4 := H4.out.s4 s hs
 have s5 := H4.out.s5 s hs
 rw [ET.out] at s0 s1 s2 s3
 rw [E4.out] at s4
 rw [E5.out] at s5
 go_wp2_with fail
 refine wp_region_held_drew (S := fun w' => w'.cell? ⟨m, 3 + s * 6, none⟩ = some (.int .i64 t.id) ∧ w'.cell? ⟨m, 3 + s * 6 + 1, none⟩ = some (.int .i64 t.level) ∧ w'.cell? ⟨m, 3 + s * 6 + 2, none⟩ = some (.int .i64 t.ops) ∧ w'.cell? ⟨m, 3 + s * 6 + 3, none⟩ = some (.int .u64 t.start) ∧ w'.cell? ⟨m, 3 + s * 6 + 4, none⟩ = some (.slice A4 n4 c4) ∧ w'.cell? ⟨m, 3 + s * 6 + 5, none⟩ = some (.slice A5 n5 c5) ∧ w'.cell? ⟨M, 1, none⟩ = some (.int .i64 okey)) (by kernel_rfl) ⟨s0, s1, s2, s3, s4, s5, p1⟩ (fun hHeld => ?_)
 refine tk 0 (v := ?qvu853) ?qyu853 ?qru853; case qyu853 => ((intro w hSw; (try dsimp only at hSw); go_simp); try (with_reducible rfl))
 (try simp only [tA, tS, tZ, Act.put, uA, uS, uZ])
 refine tk 1 (v := ?qvu854) ?qyu854 ?qru854; case qyu854 => ((intro w hSw; (try dsimp only at hSw); go_simp); try (with_reducible rfl))
 (try simp only [tA, tS, tZ, Act.put, uA, uS, uZ])
 refine tk 2 (v := ?qvu855) ?qyu855 ?qru855; case qyu855 => ((intro w hSw; (try dsimp only at hSw); go_simp); try (with_reducible rfl))
 (try simp only [tA, tS, tZ, Act.put, uA, uS, uZ])
 refine tk 3 (v := ?qvu856) ?qyu856 ?qru856; case qyu856 => ((intro w hSw; (try dsimp only at hSw); go_simp); try (with_reducible rfl))
 (try simp only [tA, tS, tZ, Act.put, uA, uS, uZ])
 refine tk 4 (v := ?qvu857) ?qyu857 ?qru857; case qyu857 => ((intro w hSw; (try dsimp only at hSw); go_simp); try (with_reducible rfl))
 (try simp only [tA, tS, tZ, Act.put, uA, uS, uZ])
 refine tk 5 (v := ?qvu858) ?qyu858 ?qru858; case qyu858 => ((intro w hSw; (try dsimp only at hSw); go_simp); try (with_reducible rfl))
 (try simp only [tA, tS, tZ, Act.put, uA, uS, uZ])
 refine tk 6 (v := ?qvu859) ?qyu859 ?qru859; case qyu859 => ((intro w hSw; (try dsimp only at hSw); go_simp); try (with_reducible rfl))
 (try simp only [tA, tS, tZ, Act.put, uA, uS, uZ])
 refine tk 7 (v := ?qvu860) ?qyu860 ?qru860; case qyu860 => ((intro w hSw; (try dsimp only at hSw); go_simp); try (with_reducible rfl))
 (try simp only [tA, tS, tZ, Act.put, uA, uS, uZ])
 refine tk 8 (v := ?qvu861) ?qyu861 ?qru861; case qyu861 => ((intro w hSw; (try dsimp only at hSw); go_simp); try (with_reducible rfl))
 (try simp only [tA, tS, tZ, Act.put, uA, uS, uZ])
 refine wpAnyH_ready (rs := [9]) (by kernel_rfl) (by simp) ?_
 refine AllReadyH.cons rfl (fun K hK => ?_) AllReadyH.nil
 go_simp
 refine (HT.out _ (K4.drew)).mono ?_
 rintro e w5 ⟨rfl, k5⟩
 refine hK.out _ _ ⟨k5.cell hHeld.1 id, k5.cell hHeld.2.1 id, k5.cell hHeld.2.2.1 id, k5.cell hHeld.2.2.2.1 id, k5.cell hHeld.2.2.2.2.1 id, k5.cell hHeld.2.2.2.2.2.1 id, k5.cell hHeld.2.2.2.2.2.2 id⟩ (fun hHeld => ?_)
 clear hK K
 (try simp only [tA, tS, tZ, Act.put, uA, uS, uZ])
 refine tk 10 (v := ?qvu862) ?qyu862 ?qru862; case qyu862 => ((intro w hSw; (try dsimp only at hSw); go_simp); try (with_reducible rfl))
 (try simp only [tA, tS, tZ, Act.put, uA, uS, uZ])
 refine wpAnyH_done (by kernel_rfl) ?_ _
 have K5 := (K4.drew).trans k5
 clear hHeld
 go_wp2_with fail
 have KO : Keep (fun _ => False) W w5.drew := K5.drew
 refine wp_region_held_drew (S := fun w' => w'.cell? ⟨m, 3 + s * 6, none⟩ = some (.int .i64 t.id) ∧ w'.cell? ⟨M, 1, none⟩ = some (.int .i64 okey)) (by kernel_rfl) ⟨by have := (H.out.same KO).s0 s hs; rwa [ET.out] at this, KO.cell o1 id⟩ (fun hHeld => ?_)
 refine tk 0 (v := ?qvu863) ?qyu863 ?qru863; case qyu863 => ((intro w hSw; (try dsimp only at hSw); go_simp); try (with_reducible rfl))
 (try simp only [tA, tS, tZ, Act.put, uA, uS, uZ])
 refine tk 1 (v := ?qvu864) ?qyu864 ?qru864; case qyu864 => ((intro w hSw; (try dsimp only at hSw); go_simp); try (with_reducible rfl))
 (try simp only [tA, tS, tZ, Act.put, uA, uS, uZ])
 refine tk 2 (v := ?qvu865) ?qyu865 ?qru865; case qyu865 => ((intro w hSw; (try dsimp only at hSw); go_simp); try (with_reducible rfl))
 (try simp only [tA, tS, tZ, Act.put, uA, uS, uZ])
 refine tk 3 (v := ?qvu866) ?qyu866 ?qru866; case qyu866 => ((intro w hSw; (try dsimp only at hSw); go_simp); try (with_reducible rfl))
 (try simp only [tA, tS, tZ, Act.put, uA, uS, uZ])
 refine tk 4 (v := ?qvu867) ?qyu867 ?qru867; case qyu867 => ((intro w hSw; (try dsimp only at hSw); go_simp); try (with_reducible rfl))
 (try simp only [tA, tS, tZ, Act.put, uA, uS, uZ])
 refine tk 5 (v := ?qvu868) ?qyu868 ?qru868; case qyu868 => ((intro w hSw; (try dsimp only at hSw); go_simp); try (with_reducible rfl))
 (try simp only [tA, tS, tZ, Act.put, uA, uS, uZ])
 refine tk 6 (v := ?qvu869) ?qyu869 ?qru869; case qyu869 => ((intro w hSw; (try dsimp only at hSw); go_simp); try (with_reducible rfl))
 (try simp only [tA, tS, tZ, Act.put, uA, uS, uZ])
 refine wpAnyH_ready (rs := [7]) (by kernel_rfl) (by simp) ?_
 refine AllReadyH.cons rfl (fun K hK => ?_) AllReadyH.nil
 go_simp
 refine (HOW.out _ KO).mono ?_
 rintro e w7 ⟨rfl, k7'⟩
 refine hK.out _ _ ⟨k7'.cell hHeld.1 id, k7'.cell hHeld.2 id⟩ (fun hHeld => ?_)
 clear hK K
 (try simp only [tA, tS, tZ, Act.put, uA, uS, uZ])
 refine tk 8 (v := ?qvu870) ?qyu870 ?qru870; case qyu870 => ((intro w hSw; (try dsimp only at hSw); go_simp); try (with_reducible rfl))
 (try simp only [tA, tS, tZ, Act.put, uA, uS, uZ])
 refine wpAnyH_done (by kernel_rfl) ?_ _
 have K7 := KO.trans k7'
 clear hHeld
 have c0 := (H.out.same K7).c0
 have c2 := (H.out.same K7).c2
 rw [EVV.out] at c2
 have z0 := K7.cell o0 id
 go_wp2_with fail
 refine wp_region_held_drew (S := fun w' => w'.cell? ⟨M, 0, none⟩ = some (.int .i64 3) ∧ w'.cell? ⟨m, 2, none⟩ = some (.slice Av nv cv) ∧ w'.cell? ⟨m, 0, none⟩ = some (.int .i64 x.slots)) (by kernel_rfl) ⟨z0, c2, c0⟩ (fun hHeld => ?_)
 refine tk 0 (v := ?qvu871) ?qyu871 ?qru871; case qyu871 => ((intro w hSw; (try dsimp only at hSw); go_simp); try (with_reducible rfl))
 (try simp only [tA, tS, tZ, Act.put, uA, uS, uZ])
 refine tk 1 (v := ?qvu872) ?qyu872 ?qru872; case qyu872 => ((intro w hSw; (try dsimp only at hSw); go_simp); try (with_reducible rfl))
 (try simp only [tA, tS, tZ, Act.put, uA, uS, uZ])
 refine tk 2 (v := ?qvu873) ?qyu873 ?qru873; case qyu873 => ((intro w hSw; (try dsimp only at hSw); go_simp); try (with_reducible rfl))
 (try simp only [tA, tS, tZ, Act.put, uA, uS, uZ])
 refine tk 3 (v := ?qvu874) ?qyu874 ?qru874; case qyu874 => ((intro w hSw; (try dsimp only at hSw); go_simp); try (with_reducible rfl))
 (try simp only [tA, tS, tZ, Act.put, uA, uS, uZ])
 refine tk 4 (v := ?qvu875) ?qyu875 ?qru875; case qyu875 => ((intro w hSw; (try dsimp only at hSw); go_simp); try (with_reducible rfl))
 (try simp only [tA, tS, tZ, Act.put, uA, uS, uZ])
 refine tk 5 (v := ?qvu876) ?qyu876 ?qru876; case qyu876 => ((intro w hSw; (try dsimp only at hSw); go_simp); try (with_reducible rfl))
 (try simp only [tA, tS, tZ, Act.put, uA, uS, uZ])
 refine tk 6 (v := ?qvu877) ?qyu877 ?qru877; case qyu877 => ((intro w hSw; (try dsimp only at hSw); go_simp); try (with_reducible rfl))
 (try simp only [tA, tS, tZ, Act.put, uA, uS, uZ])
 refine tk 7 (v := ?qvu878) ?qyu878 ?qru878; case qyu878 => ((intro w hSw; (try dsimp only at hSw); go_simp); try (with_reducible rfl))
 (try simp only [tA, tS, tZ, Act.put, uA, uS, uZ])
 refine tk 8 (v := ?qvu879) ?qyu879 ?qru879; case qyu879 => ((intro w hSw; (try dsimp only at hSw); go_simp); try (with_reducible rfl))
 (try simp only [tA, tS, tZ, Act.put, uA, uS, uZ])
 refine tk 9 (v := ?qvu880) ?qyu880 ?qru880; case qyu880 => ((intro w hSw; (try dsimp only at hSw); go_simp); try (with_reducible rfl))
 (try simp only [tA, tS, tZ, Act.put, uA, uS, uZ])
 refine tk 10 (v := ?qvu881) ?qyu881 ?qru881; case qyu881 => ((intro w hSw; (try dsimp only at hSw); go_simp); try (with_reducible rfl))
 (try simp only [tA, tS, tZ, Act.put, uA, uS, uZ])
 refine tk 11 (v := ?qvu882) ?qyu882 ?qru882; case qyu882 => ((intro w hSw; (try dsimp only at hSw); go_simp); try (with_reducible rfl))
 (try simp only [tA, tS, tZ, Act.put, uA, uS, uZ])
 refine tk 12 (v := ?qvu883) ?qyu883 ?qru883; case qyu883 => ((intro w hSw; (try dsimp only at hSw); go_simp); try (with_reducible rfl))
 (try simp only [tA, tS, tZ, Act.put, uA, uS, uZ])
 refine tk 13 (v := ?qvu884) ?qyu884 ?qru884; case qyu884 => ((intro w hSw; (try dsimp only at hSw); go_simp); try (with_reducible rfl))
 (try simp only [tA, tS, tZ, Act.put, uA, uS, uZ])
 refine tk 14 (v := ?qvu885) ?qyu885 ?qru885; case qyu885 => ((intro w hSw; (try dsimp only at hSw); go_simp); try (with_reducible rfl))
 (try simp only [tA, tS, tZ, Act.put, uA, uS, uZ])
 refine tk 15 (v := ?qvu886) ?qyu886 ?qru886; case qyu886 => ((intro w hSw; (try dsimp only at hSw); go_simp); try (with_reducible rfl))
 (try simp only [tA, tS, tZ, Act.put, uA, uS, uZ])
 refine tk 16 (v := ?qvu887) ?qyu887 ?qru887; case qyu887 => ((intro w hSw; (try dsimp only at hSw); go_simp); try (with_reducible rfl))
 (try simp only [tA, tS, tZ, Act.put, uA, uS, uZ])
 refine tk 17 (v := ?qvu888) ?qyu888 ?qru888; case qyu888 => ((intro w hSw; (try dsimp only at hSw); go_simp); try (with_reducible rfl))
 (try simp only [tA, tS, tZ, Act.put, uA, uS, uZ])
 refine tk 18 (v := ?qvu889) ?qyu889 ?qru889; case qyu889 => ((intro w hSw; (try dsimp only at hSw); go_simp); try (with_reducible rfl))
 (try simp only [tA, tS, tZ, Act.put, uA, uS, uZ])
 refine tk 19 (v := ?qvu890) ?qyu890 ?qru890; case qyu890 => ((intro w hSw; (try dsimp only at hSw); go_simp); try (with_reducible rfl))
 (try simp only [tA, tS, tZ, Act.put, uA, uS, uZ])
 refine wpAnyH_done (by kernel_rfl) ?_ _
 obtain ⟨wv, ewv⟩ : ∃ wv, w7.drew = wv := ⟨_, rfl⟩
 have K8 : Keep (fun _ => False) W wv := by rw [← ewv]; exact K7.drew
 rw [ewv]
 clear hHeld ewv
 go_upto_if 112 with fail
 go_cut [] from 113 to 123 (fun wx => RmTo W m vv sw sr (x.keepW s okey) wx)
 case first =>
  have kdd := (Keep.refl (fun _ => False) wv).drew
  have H9 := Lib.hid (H.out.same (K8.trans kdd))
  have OW6 := Lib.hid (OwnN.keep (OwnN.keep OW.out K8 (by simp)) kdd (by simp))
  rw [E4.out] at OW6
  have nn4 : n4 ≤ 1000 := by rw [← EN4.out]; exact FW.out
  have s4' := H9.out.s4 s hs
  rw [E4.out] at s4'
  have s4q : wv.cell? ⟨m, 3 + s * 6 + 4, none⟩ = some (.slice A4 n4 c4) := s4'
  have fz4 := H9.out.fz (3 + s * 6 + 4)
  have nm4 := Lib.hid (show ¬ (Value.slice A4 n4 c4).ownBlock = some m by have := H9.out.wm s hs; rwa [E4.out] at this)
  have ml4 := Lib.hid H9.out.mlt
  have nmM4 := Lib.hid (show ¬ (Value.slice A4 n4 c4).ownBlock = some M from fun q => FM.out (.inr (.inr ⟨s, hs, .inl (by rw [E4.out]; exact q)⟩)))
  have hHd0 : wv.cell? ⟨M, 1, none⟩ = some (.int .i64 okey) := K8.cell o1 id
  have hHd : wv.drew.cell? ⟨M, 1, none⟩ = some (.int .i64 okey) := hHd0
  have mlq : m < wv.heap.size := H9.out.mlt
  have ha : (wv.drew.alloc (.cells #[.int .i64 okey] 3)).cell? ⟨M, 1, none⟩ = some (.int .i64 okey) := ((Keep.refl (fun _ => False) wv.drew).alloc _).cell hHd id
  go_wp2_with fail
  refine wp_region_held_drew (S := fun w' => w'.cell? ⟨M, 1, none⟩ = some (.int .i64 okey)) (by kernel_rfl) hHd0 (fun hHeld => ?_)
  refine tk 0 (v := ?qvu891) ?qyu891 ?qru891; case qyu891 => ((intro w hSw; (try dsimp only at hSw); go_simp); try (with_reducible rfl))
  (try simp only [tA, tS, tZ, Act.put, uA, uS, uZ])
  refine tk 1 (v := ?qvu892) ?qyu892 ?qru892; case qyu892 => ((intro w hSw; (try dsimp only at hSw); go_simp); try (with_reducible rfl))
  (try simp only [tA, tS, tZ, Act.put, uA, uS, uZ])
  refine tk 2 (v := ?qvu893) ?qyu893 ?qru893; case qyu893 => ((intro w hSw; (try dsimp only at hSw); go_simp); try (with_reducible rfl))
  (try simp only [tA, tS, tZ, Act.put, uA, uS, uZ])
  refine tk 3 (v := ?qvu894) ?qyu894 ?qru894; case qyu894 => ((intro w hSw; (try dsimp only at hSw); go_simp); try (with_reducible rfl))
  (try simp only [tA, tS, tZ, Act.put, uA, uS, uZ])
  refine tk 5 (v := ?qvu895) ?qyu895 ?qru895; case qyu895 => ((intro w hSw; (try dsimp only at hSw); go_simp); try (with_reducible rfl))
  (try simp only [tA, tS, tZ, Act.put, uA, uS, uZ])
  refine tk 6 (v := ?qvu896) ?qyu896 ?qru896; case qyu896 => ((intro w hSw; (try dsimp only at hSw); go_simp); try (with_reducible rfl))
  (try simp only [tA, tS, tZ, Act.put, uA, uS, uZ])
  refine wpAnyH_ready (rs := [4, 7]) (by kernel_rfl) (by simp) ?_
  refine AllReadyH.cons rfl (fun K hK => ?_) (AllReadyH.cons rfl (fun K hK => ?_) AllReadyH.nil)
  ·go_simp
   refine hK.out _ _ hHeld (fun hHeld => ?_)
   clear hK K
   (try simp only [tA, tS, tZ, Act.put, uA, uS, uZ])
   refine wpAnyH_ready (rs := [7]) (by kernel_rfl) (by simp) ?_
   refine AllReadyH.cons rfl (fun K hK => ?_) AllReadyH.nil
   go_simp
   refine hK.out _ _ (((Keep.refl (fun _ => False) _).alloc _).cell hHeld id) (fun hHeld => ?_)
   clear hK K
   (try simp only [tA, tS, tZ, Act.put, uA, uS, uZ])
   refine wpAnyH_ready (rs := [8]) (by kernel_rfl) (by simp) ?_
   refine AllReadyH.cons rfl (fun K hK => ?_) AllReadyH.nil
   refine step_pushN rfl (.tmp 117) (.tmp 120) rfl _ t.wrote (by rfl) OW6.out okey rfl (by rw [EN4.out]; omega) ?_
   rintro g6 c6 y6 o6 k6 hg6
   have z4 := k6.cell s4' nm4.out
   have zf := (k6.frozen (a := ⟨m, 3 + s * 6 + 4, none⟩) ml4.out nm4.out).trans fz4
   refine hK.out _ _ (k6.cell hHd nmM4.out) (fun hHeld => ?_)
   clear hK K
   (try simp only [tA, tS, tZ, Act.put, uA, uS, uZ])
   refine tk 9 (v := ?qvu897) ?qyu897 ?qru897; case qyu897 => ((intro w hSw; (try dsimp only at hSw); go_simp); try (with_reducible rfl))
   (try simp only [tA, tS, tZ, Act.put, uA, uS, uZ])
   refine tk 10 (v := ?qvu898) ?qyu898 ?qru898; case qyu898 => ((intro w hSw; (try dsimp only at hSw); go_simp); try (with_reducible rfl))
   (try simp only [tA, tS, tZ, Act.put, uA, uS, uZ])
   refine wpAnyH_ready (rs := [11]) (by kernel_rfl) (by simp) ?_
   refine AllReadyH.cons rfl (fun K hK => ?_) AllReadyH.nil
   go_simp
   refine hK.out _ _ ((keep_one y6 ⟨m, 3 + s * 6 + 4, none⟩ _).cell hHeld (fun e => by have e : M = m := e; omega)) (fun hHeld => ?_)
   clear hK K
   (try simp only [tA, tS, tZ, Act.put, uA, uS, uZ])
   refine wpAnyH_done (by kernel_rfl) ?_ _
   have AR := (H9.out.addW hs okey (a := .slice (some ⟨g6, 0, none⟩) (t.wrote.length + 1) c6) (y4 := y6) (by rw [E4.out]; exact k6) (by rw [ET.out]; exact o6) (by rw [E4.out]; intro g e; cases e; exact hg6)).front (K8.trans kdd)
   go_wp2_with fail
   go_meet
   exact AR
  ·go_simp
   refine hK.out _ _ ha (fun hHeld => ?_)
   clear hK K
   (try simp only [tA, tS, tZ, Act.put, uA, uS, uZ])
   refine wpAnyH_ready (rs := [4]) (by kernel_rfl) (by simp) ?_
   refine AllReadyH.cons rfl (fun K hK => ?_) AllReadyH.nil
   go_simp
   refine hK.out _ _ ha (fun hHeld => ?_)
   clear hK K
   (try simp only [tA, tS, tZ, Act.put, uA, uS, uZ])
   refine wpAnyH_ready (rs := [8]) (by kernel_rfl) (by simp) ?_
   refine AllReadyH.cons rfl (fun K hK => ?_) AllReadyH.nil
   refine step_pushN rfl (.tmp 117) (.tmp 120) rfl _ t.wrote (by rfl) OW6.out okey rfl (by rw [EN4.out]; omega) ?_
   rintro g6 c6 y6 o6 k6 hg6
   have z4 := k6.cell s4' nm4.out
   have zf := (k6.frozen (a := ⟨m, 3 + s * 6 + 4, none⟩) ml4.out nm4.out).trans fz4
   refine hK.out _ _ (k6.cell hHd nmM4.out) (fun hHeld => ?_)
   clear hK K
   (try simp only [tA, tS, tZ, Act.put, uA, uS, uZ])
   refine tk 9 (v := ?qvu899) ?qyu899 ?qru899; case qyu899 => ((intro w hSw; (try dsimp only at hSw); go_simp); try (with_reducible rfl))
   (try simp only [tA, tS, tZ, Act.put, uA, uS, uZ])
   refine tk 10 (v := ?qvu900) ?qyu900 ?qru900; case qyu900 => ((intro w hSw; (try dsimp only at hSw); go_simp); try (with_reducible rfl))
   (try simp only [tA, tS, tZ, Act.put, uA, uS, uZ])
   refine wpAnyH_ready (rs := [11]) (by kernel_rfl) (by simp) ?_
   refine AllReadyH.cons rfl (fun K hK => ?_) AllReadyH.nil
   go_simp
   refine hK.out _ _ ((keep_one y6 ⟨m, 3 + s * 6 + 4, none⟩ _).cell hHeld (fun e => by have e : M = m := e; omega)) (fun hHeld => ?_)
   clear hK K
   (try simp only [tA, tS, tZ, Act.put, uA, uS, uZ])
   refine wpAnyH_done (by kernel_rfl) ?_ _
   have AR := (H9.out.addW hs okey (a := .slice (some ⟨g6, 0, none⟩) (t.wrote.length + 1) c6) (y4 := y6) (by rw [E4.out]; exact k6) (by rw [ET.out]; exact o6) (by rw [E4.out]; intro g e; cases e; exact hg6)).front (K8.trans kdd)
   go_wp2_with fail
   go_meet
   exact AR
 case rest =>
  obtain ⟨vv1, sw1, sr1, a1, a2, a3⟩ := hcut
  have m0 := a2.cell o0 FM.out
  obtain ⟨Av1, cv1, ev1, hcv1, _⟩ := a1.vers
  have nv1 : (x.keepW s okey).v.length = nv := ENV.out
  rw [nv1] at ev1 hcv1
  subst ev1
  obtain ⟨g, eg, b0, b1, b2, b3, b4, b5, b6⟩ := a1.at' i yi (HYI.out)
  subst eg
  have gF := a3 g (.inr (.inl rfl))
  have gM : ¬ M = g := fun e => by
   rcases gF with q | q
   ·exact FM.out (e ▸ q)
   ·have := hNW; have := HMN.out; omega
  have gm : ¬ m = g := fun e => a1.vm (by rw [e]; rfl)
  have c2 := a1.c2
  have sid : wc.cell? ⟨m, 3 + s * 6, none⟩ = some (.int .i64 t.id) := by have := a1.s0 s hs; rw [show ((x.keepW s okey).s s).id = t.id from by unfold MoI.keepW; show (putS x.s s _ s).id = _; rw [putS_self, ET.out]] at this; exact this
  have fE := OwnM.free a1.ov (i * 7 + 3)
  have gi : ∀ hh, (x.keepW s okey).v[i]'hh = yi := fun hh => (List.getElem?_eq_some_iff.1 (HYI.out)).2
  have P := a1.put i 3 (by rw [nv1]; exact lin) (by omega) (.int .i64 t.id) { yi with ended := t.id } (by rw [gi]; rfl)
  obtain ⟨wb, eb⟩ : ∃ wb, wc.setCell ⟨g, i * 7 + 3, none⟩ (.int .i64 t.id) = wb := ⟨_, rfl⟩
  have KB : Keep (fun q => q = g) wc wb := by rw [← eb]; exact (Keep.refl (fun q => q = g) wc).setCell (p := ⟨g, i * 7 + 3, none⟩) rfl _
  rw [eb] at P
  have KBH := Lib.hid KB
  have PH := Lib.hid P
  have KC := Lib.hid a2
  have FC := Lib.hid a3
  clear a1 a2 a3 P KB gF gi nv1 b0 b1 b2 b4 b5 b6
  go_wp2_with fail
  refine wp_region_held_drew (S := fun w' => w'.cell? ⟨m, 2, none⟩ = some (.slice (some ⟨g, 0, none⟩) nv cv1) ∧ w'.cell? ⟨m, 3 + s * 6, none⟩ = some (.int .i64 t.id)) (by kernel_rfl) ⟨c2, sid⟩ (fun hHeld => ?_)
  refine tk 0 (v := ?qvu901) ?qyu901 ?qru901; case qyu901 => ((intro w hSw; (try dsimp only at hSw); go_simp); try (with_reducible rfl))
  (try simp only [tA, tS, tZ, Act.put, uA, uS, uZ])
  refine tk 1 (v := ?qvu902) ?qyu902 ?qru902; case qyu902 => ((intro w hSw; (try dsimp only at hSw); go_simp); try (with_reducible rfl))
  (try simp only [tA, tS, tZ, Act.put, uA, uS, uZ])
  refine tk 2 (v := ?qvu903) ?qyu903 ?qru903; case qyu903 => ((intro w hSw; (try dsimp only at hSw); go_simp); try (with_reducible rfl))
  (try simp only [tA, tS, tZ, Act.put, uA, uS, uZ])
  refine tk 3 (v := ?qvu904) ?qyu904 ?qru904; case qyu904 => ((intro w hSw; (try dsimp only at hSw); go_simp); try (with_reducible rfl))
  (try simp only [tA, tS, tZ, Act.put, uA, uS, uZ])
  refine tk 4 (v := ?qvu905) ?qyu905 ?qru905; case qyu905 => ((intro w hSw; (try dsimp only at hSw); go_simp); try (with_reducible rfl))
  (try simp only [tA, tS, tZ, Act.put, uA, uS, uZ])
  refine tk 5 (v := ?qvu906) ?qyu906 ?qru906; case qyu906 => ((intro w hSw; (try dsimp only at hSw); go_simp); try (with_reducible rfl))
  (try simp only [tA, tS, tZ, Act.put, uA, uS, uZ])
  refine tk 6 (v := ?qvu907) ?qyu907 ?qru907; case qyu907 => ((intro w hSw; (try dsimp only at hSw); go_simp); try (with_reducible rfl))
  (try simp only [tA, tS, tZ, Act.put, uA, uS, uZ])
  refine tk 7 (v := ?qvu908) ?qyu908 ?qru908; case qyu908 => ((intro w hSw; (try dsimp only at hSw); go_simp); try (with_reducible rfl))
  (try simp only [tA, tS, tZ, Act.put, uA, uS, uZ])
  refine tk 8 (v := ?qvu909) ?qyu909 ?qru909; case qyu909 => ((intro w hSw; (try dsimp only at hSw); go_simp); try (with_reducible rfl))
  (try simp only [tA, tS, tZ, Act.put, uA, uS, uZ])
  refine tk 9 (v := ?qvu910) ?qyu910 ?qru910; case qyu910 => ((intro w hSw; (try dsimp only at hSw); go_simp); try (with_reducible rfl))
  (try simp only [tA, tS, tZ, Act.put, uA, uS, uZ])
  refine tk 10 (v := ?qvu911) ?qyu911 ?qru911; case qyu911 => ((intro w hSw; (try dsimp only at hSw); go_simp); try (with_reducible rfl))
  (try simp only [tA, tS, tZ, Act.put, uA, uS, uZ])
  refine wpAnyH_ready (rs := [11]) (by kernel_rfl) (by simp) ?_
  refine AllReadyH.cons rfl (fun K hK => ?_) AllReadyH.nil
  go_simp
  go_simp
  refine hK.out _ _ ⟨KBH.out.cell c2 gm, KBH.out.cell sid gm⟩ (fun hHeld => ?_)
  clear hK K
  (try simp only [tA, tS, tZ, Act.put, uA, uS, uZ])
  refine wpAnyH_done (by kernel_rfl) ?_ _
  have kd := (Keep.refl (fun _ => False) wb).drew
  obtain ⟨wd, ed⟩ : ∃ wd, wb.drew = wd := ⟨_, rfl⟩
  rw [ed] at kd ⊢
  have hcut : RmTo W m vv sw sr ({ x.keepW s okey with v := x.v.set i { yi with ended := t.id } }) wd := ⟨_, sw1, sr1, PH.out.same kd, KC.out.onew ((KBH.out.mono (fun q e => .inr (.inl (by rw [e]; rfl)))).trans (kd.mono (fun _ e => e.elim))) FC.out, FC.out⟩
  clear hHeld ed kd eb PH KBH KC FC c2 sid fE gM gm m0 b3
  obtain ⟨vv1, sw1, sr1, a1, a2, a3⟩ := hcut
  have HC := Lib.hid a1
  have KC := Lib.hid a2
  have FC := Lib.hid a3
  have m0 := a2.cell o0 FM.out
  have m1 := a2.cell o1 FM.out
  have m3 := a2.cell o3 FM.out
  obtain ⟨Av1, cv1, ev1, hcv1, _⟩ := a1.vers
  have nv1 : ({ x.keepW s okey with v := x.v.set i { yi with ended := t.id } }).v.length = nv := by show (x.v.set i _).length = nv; rw [List.length_set]; exact ENV.out
  rw [nv1] at ev1 hcv1
  subst ev1
  have c2 := a1.c2
  have sid : wd.cell? ⟨m, 3 + s * 6, none⟩ = some (.int .i64 t.id) := by have := a1.s0 s hs; rw [show (({ x.keepW s okey with v := x.v.set i { yi with ended := t.id } } : MoI).s s).id = t.id from by  show (putS x.s s _ s).id = _; rw [putS_self, ET.out]] at this; exact this
  have kdd := (Keep.refl (fun _ => False) wd).drew
  have HC9 := Lib.hid (a1.same kdd)
  have OV6 := Lib.hid HC9.out.ov
  obtain ⟨VL, eVL⟩ : ∃ VL, ({ x.keepW s okey with v := x.v.set i { yi with ended := t.id } }).v = VL := ⟨_, rfl⟩
  rw [eVL] at OV6
  have EVL := Lib.hid eVL
  have lvl : VL.length = nv := by rw [← eVL]; exact nv1
  have LVL := Lib.hid lvl
  have nnv : nv ≤ 1000 := by rw [← ENV.out]; exact FV.out
  have nnl : VL.length ≤ 1000 := by omega
  have c2' := HC9.out.c2
  have fz2 := HC9.out.fz 2
  have nmv := Lib.hid (show ¬ (Value.slice Av1 nv cv1).ownBlock = some m from HC9.out.vm)
  have mlv := Lib.hid HC9.out.mlt
  have nmMv := Lib.hid (show ¬ (Value.slice Av1 nv cv1).ownBlock = some M from fun q => by
   rcases FC.out M (.inr (.inl q)) with e | e
   ·exact FM.out e
   ·have := hNW; have := HMN.out; omega)
  have hHd0 : wd.cell? ⟨M, 1, none⟩ = some (.int .i64 okey) ∧ wd.cell? ⟨M, 3, none⟩ = some (.int .i64 oval) ∧ wd.cell? ⟨m, 3 + s * 6, none⟩ = some (.int .i64 t.id) := ⟨m1, m3, sid⟩
  have hHdv : wd.drew.cell? ⟨M, 1, none⟩ = some (.int .i64 okey) ∧ wd.drew.cell? ⟨M, 3, none⟩ = some (.int .i64 oval) ∧ wd.drew.cell? ⟨m, 3 + s * 6, none⟩ = some (.int .i64 t.id) := hHd0
  have ka := (Keep.refl (fun _ => False) wd.drew).alloc (.cells #[.int .i64 okey, .int .i64 oval, .int .i64 t.id, .int .i64 0, .int .u64 0, .int .u64 0, .bool false] 119)
  have hav : (wd.drew.alloc (.cells #[.int .i64 okey, .int .i64 oval, .int .i64 t.id, .int .i64 0, .int .u64 0, .int .u64 0, .bool false] 119)).cell? ⟨M, 1, none⟩ = some (.int .i64 okey) ∧ (wd.drew.alloc (.cells #[.int .i64 okey, .int .i64 oval, .int .i64 t.id, .int .i64 0, .int .u64 0, .int .u64 0, .bool false] 119)).cell? ⟨M, 3, none⟩ = some (.int .i64 oval) ∧ (wd.drew.alloc (.cells #[.int .i64 okey, .int .i64 oval, .int .i64 t.id, .int .i64 0, .int .u64 0, .int .u64 0, .bool false] 119)).cell? ⟨m, 3 + s * 6, none⟩ = some (.int .i64 t.id) := ⟨ka.cell hHdv.1 id, ka.cell hHdv.2.1 id, ka.cell hHdv.2.2 id⟩
  have hav := hav
  have mlc : m < wd.heap.size := a1.mlt
  have RB9 := Lib.hid ((RB.out.keep a2 FN.out).keep kdd id)
  clear a1 a2 a3 eVL nv1 lvl ka
  go_wp2_with fail
  refine wp_region_held_drew (S := fun w' => w'.cell? ⟨M, 1, none⟩ = some (.int .i64 okey) ∧ w'.cell? ⟨M, 3, none⟩ = some (.int .i64 oval) ∧ w'.cell? ⟨m, 3 + s * 6, none⟩ = some (.int .i64 t.id)) (by kernel_rfl) hHd0 (fun hHeld => ?_)
  refine tk 0 (v := ?qvu912) ?qyu912 ?qru912; case qyu912 => ((intro w hSw; (try dsimp only at hSw); go_simp); try (with_reducible rfl))
  (try simp only [tA, tS, tZ, Act.put, uA, uS, uZ])
  refine tk 1 (v := ?qvu913) ?qyu913 ?qru913; case qyu913 => ((intro w hSw; (try dsimp only at hSw); go_simp); try (with_reducible rfl))
  (try simp only [tA, tS, tZ, Act.put, uA, uS, uZ])
  refine tk 2 (v := ?qvu914) ?qyu914 ?qru914; case qyu914 => ((intro w hSw; (try dsimp only at hSw); go_simp); try (with_reducible rfl))
  (try simp only [tA, tS, tZ, Act.put, uA, uS, uZ])
  refine tk 3 (v := ?qvu915) ?qyu915 ?qru915; case qyu915 => ((intro w hSw; (try dsimp only at hSw); go_simp); try (with_reducible rfl))
  (try simp only [tA, tS, tZ, Act.put, uA, uS, uZ])
  refine tk 5 (v := ?qvu916) ?qyu916 ?qru916; case qyu916 => ((intro w hSw; (try dsimp only at hSw); go_simp); try (with_reducible rfl))
  (try simp only [tA, tS, tZ, Act.put, uA, uS, uZ])
  refine tk 6 (v := ?qvu917) ?qyu917 ?qru917; case qyu917 => ((intro w hSw; (try dsimp only at hSw); go_simp); try (with_reducible rfl))
  (try simp only [tA, tS, tZ, Act.put, uA, uS, uZ])
  refine tk 7 (v := ?qvu918) ?qyu918 ?qru918; case qyu918 => ((intro w hSw; (try dsimp only at hSw); go_simp); try (with_reducible rfl))
  (try simp only [tA, tS, tZ, Act.put, uA, uS, uZ])
  refine tk 8 (v := ?qvu919) ?qyu919 ?qru919; case qyu919 => ((intro w hSw; (try dsimp only at hSw); go_simp); try (with_reducible rfl))
  (try simp only [tA, tS, tZ, Act.put, uA, uS, uZ])
  refine tk 9 (v := ?qvu920) ?qyu920 ?qru920; case qyu920 => ((intro w hSw; (try dsimp only at hSw); go_simp); try (with_reducible rfl))
  (try simp only [tA, tS, tZ, Act.put, uA, uS, uZ])
  refine tk 10 (v := ?qvu921) ?qyu921 ?qru921; case qyu921 => ((intro w hSw; (try dsimp only at hSw); go_simp); try (with_reducible rfl))
  (try simp only [tA, tS, tZ, Act.put, uA, uS, uZ])
  refine tk 11 (v := ?qvu922) ?qyu922 ?qru922; case qyu922 => ((intro w hSw; (try dsimp only at hSw); go_simp); try (with_reducible rfl))
  (try simp only [tA, tS, tZ, Act.put, uA, uS, uZ])
  refine tk 12 (v := ?qvu923) ?qyu923 ?qru923; case qyu923 => ((intro w hSw; (try dsimp only at hSw); go_simp); try (with_reducible rfl))
  (try simp only [tA, tS, tZ, Act.put, uA, uS, uZ])
  refine tk 13 (v := ?qvu924) ?qyu924 ?qru924; case qyu924 => ((intro w hSw; (try dsimp only at hSw); go_simp); try (with_reducible rfl))
  (try simp only [tA, tS, tZ, Act.put, uA, uS, uZ])
  refine wpAnyH_ready (rs := [4, 14]) (by kernel_rfl) (by simp) ?_
  refine AllReadyH.cons rfl (fun K hK => ?_) (AllReadyH.cons rfl (fun K hK => ?_) AllReadyH.nil)
  ·go_simp
   refine hK.out _ _ hHeld (fun hHeld => ?_)
   clear hK K
   (try simp only [tA, tS, tZ, Act.put, uA, uS, uZ])
   refine wpAnyH_ready (rs := [14]) (by kernel_rfl) (by simp) ?_
   refine AllReadyH.cons rfl (fun K hK => ?_) AllReadyH.nil
   go_simp
   refine hK.out _ _ ⟨((Keep.refl (fun _ => False) _).alloc _).cell hHeld.1 id, ((Keep.refl (fun _ => False) _).alloc _).cell hHeld.2.1 id, ((Keep.refl (fun _ => False) _).alloc _).cell hHeld.2.2 id⟩ (fun hHeld => ?_)
   clear hK K
   (try simp only [tA, tS, tZ, Act.put, uA, uS, uZ])
   refine wpAnyH_ready (rs := [15]) (by kernel_rfl) (by simp) ?_
   refine AllReadyH.cons rfl (fun K hK => ?_) AllReadyH.nil
   refine step_pushM Try.underlying76 info_vr rfl (by decide) (by decide) vrC_len vr_one rfl (.tmp 146) (.tmp 156) rfl _ VL (by rfl) OV6.out ⟨okey, oval, t.id, 0, 0, 0, false⟩ rfl (by omega) ?_
   rintro g8 c8 y8 o8 k8 hg8
   have z8 := k8.cell c2' nmv.out
   have zf := (k8.frozen (a := ⟨m, 2, none⟩) mlv.out nmv.out).trans fz2
   refine hK.out _ _ ⟨k8.cell hHdv.1 nmMv.out, k8.cell hHdv.2.1 nmMv.out, k8.cell hHdv.2.2 nmv.out⟩ (fun hHeld => ?_)
   clear hK K
   (try simp only [tA, tS, tZ, Act.put, uA, uS, uZ])
   refine tk 16 (v := ?qvu925) ?qyu925 ?qru925; case qyu925 => ((intro w hSw; (try dsimp only at hSw); go_simp); try (with_reducible rfl))
   (try simp only [tA, tS, tZ, Act.put, uA, uS, uZ])
   refine tk 17 (v := ?qvu926) ?qyu926 ?qru926; case qyu926 => ((intro w hSw; (try dsimp only at hSw); go_simp); try (with_reducible rfl))
   (try simp only [tA, tS, tZ, Act.put, uA, uS, uZ])
   refine wpAnyH_ready (rs := [18]) (by kernel_rfl) (by simp) ?_
   refine AllReadyH.cons rfl (fun K hK => ?_) AllReadyH.nil
   go_simp
   refine hK.out _ _ ⟨(keep_one y8 ⟨m, 2, none⟩ _).cell hHeld.1 (fun e => by have e : M = m := e; omega), (keep_one y8 ⟨m, 2, none⟩ _).cell hHeld.2.1 (fun e => by have e : M = m := e; omega), (by rw [World.cell?_setCell_other _ _ _ _ (by first | (simp; done) | (simp; omega))]; exact hHeld.2.2)⟩ (fun hHeld => ?_)
   clear hK K
   (try simp only [tA, tS, tZ, Act.put, uA, uS, uZ])
   refine wpAnyH_done (by kernel_rfl) ?_ _
   have AV := HC9.out.addV ⟨okey, oval, t.id, 0, 0, 0, false⟩ (b := .slice (some ⟨g8, 0, none⟩) (VL.length + 1) c8) (y8 := y8) k8 (by rw [EVL.out]; exact o8) (by intro g e; cases e; exact hg8)
   obtain ⟨wz, ez⟩ : ∃ wz, y8.setCell ⟨m, 2, none⟩ (.slice (some ⟨g8, 0, none⟩) (VL.length + 1) c8) = wz := ⟨_, rfl⟩
   rw [ez] at AV ⊢
   have R6 := Lib.hid (RB9.out.keep AV.keeps (fun q => by
    rcases FC.out N q with e | e
    ·exact FN.out e
    ·omega))
   obtain ⟨q0, q1, q2, q3, q4, q5⟩ := R6.out
   have AVH := Lib.hid AV
   have KCD := Lib.hid (KC.out.trans (kdd.mono (fun _ e => e.elim)))
   clear AV ez k8 o8 hg8 z8 zf
   go_wp2
   (obtain ⟨W7, eW7⟩ : ∃ W7, (((((wz.setCell ⟨N, 0, none⟩ (.int .i64 0)).setCell ⟨N, 1, none⟩ (.int .i64 0)).setCell ⟨N, 2, none⟩ (.slice none 0 0)).setCell ⟨N, 3, none⟩ (.int .i64 0)).setCell ⟨N, 4, none⟩ (.int .i64 0)) = W7 := ⟨_, rfl⟩; obtain ⟨⟨v0, v1, v2, v3, v4, _⟩, k7⟩ := res_set R6.out _ _ _ _ _ eW7; rw [eW7]; refine bodyPost_ret (v := .agg #[.int .i64 0, .int .i64 0, .slice none 0 0, .int .i64 0, .int .i64 0]) (by simp [results, Try.results65, go_sem, v0, v1, v2, v3, v4]) rfl ⟨rfl, ?_⟩)
   have TT : RmTo W m vv sw sr z wz := by
    have t1 : RmTo W m vv sw sr { { x.keepW s okey with v := x.v.set i { yi with ended := t.id } } with v := ({ x.keepW s okey with v := x.v.set i { yi with ended := t.id } }).v ++ [⟨okey, oval, t.id, 0, 0, 0, false⟩] } wz := by
     obtain ⟨b1, b2, b3, h1, h2, h3⟩ := AVH.out
     exact ⟨b1, b2, b3, h1, KCD.out.onew h2 FC.out, fun g hg => by
      rcases h3 g hg with q | q
      ·exact FC.out g q
      ·right; have := KCD.out.size; omega⟩
    rw [HZ2.out] 
    exact t1
   exact TT.fin KW.out (by have := EM.out; have := HMN.out; omega) hNW FN.out k7
  ·go_simp
   refine hK.out _ _ hav (fun hHeld => ?_)
   clear hK K
   (try simp only [tA, tS, tZ, Act.put, uA, uS, uZ])
   refine wpAnyH_ready (rs := [4]) (by kernel_rfl) (by simp) ?_
   refine AllReadyH.cons rfl (fun K hK => ?_) AllReadyH.nil
   go_simp
   refine hK.out _ _ hav (fun hHeld => ?_)
   clear hK K
   (try simp only [tA, tS, tZ, Act.put, uA, uS, uZ])
   refine wpAnyH_ready (rs := [15]) (by kernel_rfl) (by simp) ?_
   refine AllReadyH.cons rfl (fun K hK => ?_) AllReadyH.nil
   refine step_pushM Try.underlying76 info_vr rfl (by decide) (by decide) vrC_len vr_one rfl (.tmp 146) (.tmp 156) rfl _ VL (by rfl) OV6.out ⟨okey, oval, t.id, 0, 0, 0, false⟩ rfl (by omega) ?_
   rintro g8 c8 y8 o8 k8 hg8
   have z8 := k8.cell c2' nmv.out
   have zf := (k8.frozen (a := ⟨m, 2, none⟩) mlv.out nmv.out).trans fz2
   refine hK.out _ _ ⟨k8.cell hHdv.1 nmMv.out, k8.cell hHdv.2.1 nmMv.out, k8.cell hHdv.2.2 nmv.out⟩ (fun hHeld => ?_)
   clear hK K
   (try simp only [tA, tS, tZ, Act.put, uA, uS, uZ])
   refine tk 16 (v := ?qvu927) ?qyu927 ?qru927; case qyu927 => ((intro w hSw; (try dsimp only at hSw); go_simp); try (with_reducible rfl))
   (try simp only [tA, tS, tZ, Act.put, uA, uS, uZ])
   refine tk 17 (v := ?qvu928) ?qyu928 ?qru928; case qyu928 => ((intro w hSw; (try dsimp only at hSw); go_simp); try (with_reducible rfl))
   (try simp only [tA, tS, tZ, Act.put, uA, uS, uZ])
   refine wpAnyH_ready (rs := [18]) (by kernel_rfl) (by simp) ?_
   refine AllReadyH.cons rfl (fun K hK => ?_) AllReadyH.nil
   go_simp
   refine hK.out _ _ ⟨(keep_one y8 ⟨m, 2, none⟩ _).cell hHeld.1 (fun e => by have e : M = m := e; omega), (keep_one y8 ⟨m, 2, none⟩ _).cell hHeld.2.1 (fun e => by have e : M = m := e; omega), (by rw [World.cell?_setCell_other _ _ _ _ (by first | (simp; done) | (simp; omega))]; exact hHeld.2.2)⟩ (fun hHeld => ?_)
   clear hK K
   (try simp only [tA, tS, tZ, Act.put, uA, uS, uZ])
   refine wpAnyH_done (by kernel_rfl) ?_ _
   have AV := HC9.out.addV ⟨okey, oval, t.id, 0, 0, 0, false⟩ (b := .slice (some ⟨g8, 0, none⟩) (VL.length + 1) c8) (y8 := y8) k8 (by rw [EVL.out]; exact o8) (by intro g e; cases e; exact hg8)
   obtain ⟨wz, ez⟩ : ∃ wz, y8.setCell ⟨m, 2, none⟩ (.slice (some ⟨g8, 0, none⟩) (VL.length + 1) c8) = wz := ⟨_, rfl⟩
   rw [ez] at AV ⊢
   have R6 := Lib.hid (RB9.out.keep AV.keeps (fun q => by
    rcases FC.out N q with e | e
    ·exact FN.out e
    ·omega))
   obtain ⟨q0, q1, q2, q3, q4, q5⟩ := R6.out
   have AVH := Lib.hid AV
   have KCD := Lib.hid (KC.out.trans (kdd.mono (fun _ e => e.elim)))
   clear AV ez k8 o8 hg8 z8 zf
   go_wp2
   (obtain ⟨W7, eW7⟩ : ∃ W7, (((((wz.setCell ⟨N, 0, none⟩ (.int .i64 0)).setCell ⟨N, 1, none⟩ (.int .i64 0)).setCell ⟨N, 2, none⟩ (.slice none 0 0)).setCell ⟨N, 3, none⟩ (.int .i64 0)).setCell ⟨N, 4, none⟩ (.int .i64 0)) = W7 := ⟨_, rfl⟩; obtain ⟨⟨v0, v1, v2, v3, v4, _⟩, k7⟩ := res_set R6.out _ _ _ _ _ eW7; rw [eW7]; refine bodyPost_ret (v := .agg #[.int .i64 0, .int .i64 0, .slice none 0 0, .int .i64 0, .int .i64 0]) (by simp [results, Try.results65, go_sem, v0, v1, v2, v3, v4]) rfl ⟨rfl, ?_⟩)
   have TT : RmTo W m vv sw sr z wz := by
    have t1 : RmTo W m vv sw sr { { x.keepW s okey with v := x.v.set i { yi with ended := t.id } } with v := ({ x.keepW s okey with v := x.v.set i { yi with ended := t.id } }).v ++ [⟨okey, oval, t.id, 0, 0, 0, false⟩] } wz := by
     obtain ⟨b1, b2, b3, h1, h2, h3⟩ := AVH.out
     exact ⟨b1, b2, b3, h1, KCD.out.onew h2 FC.out, fun g hg => by
      rcases h3 g hg with q | q
      ·exact FC.out g q
      ·right; have := KCD.out.size; omega⟩
    rw [HZ2.out] 
    exact t1
   exact TT.fin KW.out (by have := EM.out; have := HMN.out; omega) hNW FN.out k7
end
end Go.Proofs.Ytkkjofefjepodaa
/- The document's own Model, a delete of a key not one's own. -/
namespace Go.Proofs.Ytkkjofefjepodaa
open Go.ChangeShapes Go.WideShapes Go.ChangeAt Go.RowKit
set_option linter.unusedVariables false
set_option linter.unusedSimpArgs false
section
variable {w w' W : World} {m : Nat} {vv vv' : Value} {sw sr sw' sr' : Nat → Value} {x y : MoI} {T : Nat → Prop}
set_option maxRecDepth 100000 in
set_option maxHeartbeats 8000000 in
theorem rwrite_delA (h : RmAt w m vv sw sr x) (f : Few x) (s : Nat) (hs : s < 8) (o : OpI) (hk : o.kind = 4) (i : Nat) (hat : seesI x.v (x.s s).id (x.s s).start o.key = (some i)) (hnot : o.key ∉ (x.s s).wrote) (hnt : x.taken (x.s s).id (x.s s).start o.key = false) (hown : x.v.findIdx? (ownV (x.s s).id o.key) = none) (z : MoI)
  (hz : ({ (if o.key ∈ (x.s s).wrote then x else x.keepW s o.key) with v := MoI.wroteV x.v (x.s s).id o (some i) (x.v.findIdx? (ownV (x.s s).id o.key)) } : MoI) = z) :
  Calls Try.prog 65 #[.pointer (some ⟨m, 0, none⟩), .int .i64 s, opV o] w (DidR w m vv sw sr re0 z) := by
 obtain ⟨W1, eW1, ob, kW1⟩ := op_box w o
 obtain ⟨W, eW, rb, kW2⟩ := res_box W1
 have kW := kW1.trans kW2
 have fM : ¬ FootR m vv sw sr w.heap.size := fun q => by have := h.lt _ q; omega
 have fN : ¬ FootR m vv sw sr W1.heap.size := fun q => by have := h.lt _ q; have := kW1.size; omega
 have hmw := h.mlt
 have H := Lib.hid (h.same kW)
 obtain ⟨Av, cv, evv, hcv, _⟩ := h.vers
 obtain ⟨nv, env⟩ : ∃ n, x.v.length = n := ⟨_, rfl⟩
 rw [env] at evv hcv
 have EVV := Lib.hid evv
 have ENV := Lib.hid env
 clear evv env
 have s0 := H.out.s0 s hs
 have s1 := H.out.s1 s hs
 have s2 := H.out.s2 s hs
 have s3 := H.out.s3 s hs
 have s4 := H.out.s4 s hs
 have s5 := H.out.s5 s hs
 obtain ⟨A4, c4, e4⟩ := own_n _ _ _ (H.out.ow s hs)
 obtain ⟨A5, c5, e5⟩ := own_r _ _ _ (H.out.or' s hs)
 obtain ⟨t, et⟩ : ∃ t, x.s s = t := ⟨_, rfl⟩
 have OW := Lib.hid (H.out.ow s hs)
 have OR5 := Lib.hid (H.out.or' s hs)
 have FW := Lib.hid (f.w s hs)
 have FRS := Lib.hid (f.r s hs).1
 rw [et] at s0 s1 s2 s3 e4 e5 OW OR5 FW
 have ET := Lib.hid et
 obtain ⟨n4, en4⟩ : ∃ n, t.wrote.length = n := ⟨_, rfl⟩
 obtain ⟨n5, en5⟩ : ∃ n, t.reads.length = n := ⟨_, rfl⟩
 rw [en4] at e4
 rw [en5] at e5
 rw [e4] at s4
 rw [e5] at s5
 have E4 := Lib.hid e4
 have E5 := Lib.hid e5
 have EN4 := Lib.hid en4
 have EN5 := Lib.hid en5
 obtain ⟨M, eM⟩ : ∃ M, w.heap.size = M := ⟨_, rfl⟩
 obtain ⟨N, eN⟩ : ∃ N, W1.heap.size = N := ⟨_, rfl⟩
 have hMN : N = M + 1 := by rw [← eN, ← eW1, World.size_alloc, eM]
 have HMN := Lib.hid hMN
 have EM := Lib.hid eM
 have ES := Lib.hid eN
 have hNW : N < W.heap.size := by rw [← eW, World.size_alloc, eN]; exact Nat.lt_succ_self _
 rw [eM] at ob fM hmw
 rw [eN] at rb fN
 have OB := Lib.hid (ob.keep kW2 (fun e => e))
 have RB := Lib.hid rb
 have FM := Lib.hid fM
 have FN := Lib.hid fN
 have KW := Lib.hid kW
 have FV := Lib.hid f.v
 obtain ⟨o0, o1, o2, o3⟩ := OB.out
 obtain ⟨at', eat⟩ : ∃ at', seesI x.v t.id t.start o.key = at' := ⟨_, rfl⟩
 obtain ⟨mine, emi⟩ : ∃ b, decide (o.key ∈ t.wrote) = b := ⟨_, rfl⟩
 have EAT := Lib.hid eat
 have EMI := Lib.hid emi
 have HS := Lib.hid (fun (wx : World) (k : Keep (fun _ => False) W wx) => rsees_any (H.out.same k) (Nat.le_trans FV.out (by omega)) t (sw s) (sr s) o.key)
 have HW := Lib.hid (fun (wx : World) (k : Keep (fun _ => False) W wx) => rhas_any (OwnN.keep OW.out k (by simp)) (Nat.le_trans FW.out (by omega)) o.key mine EMI.out)
 rw [EAT.out, E4.out, E5.out] at HS
 rw [E4.out] at HW
 unfold txV at HS
 have HT := Lib.hid (fun (wx : World) (k : Keep (fun _ => False) W wx) => rtaken_any (H.out.same k) (Nat.le_trans FV.out (by omega)) (fun i hi => Nat.le_trans (f.w i hi) (by omega)) t (sw s) (sr s) o.key)
 rw [E4.out, E5.out] at HT
 unfold txV at HT
 have HOW := Lib.hid (fun (wx : World) (k : Keep (fun _ => False) W wx) => rown_any (H.out.same k) (Nat.le_trans FV.out (by omega)) t.id o.key)
 obtain ⟨ok, okey, ohi, oval⟩ := o
 rw [ET.out] at hnot hnt hown hat hz
 obtain rfl : (some i) = at' := by rw [← EAT.out]; exact hat.symm
 have hown' : x.v.findIdx? (ownV t.id (OpI.key ⟨ok, okey, ohi, oval⟩)) = none := hown
 rw [hown'] at HOW
 rw [hown] at hz
 obtain rfl : ok = 4 := hk
 have ai : idxV (some i) = (i : Int) := rfl
 have ai0 : (0 : Int) ≤ (i : Int) := by omega
 have ai1 : decide ((i : Int) < 0) = false := decide_eq_false (by omega)
 have ai2 : decide ((0 : Int) ≤ (i : Int)) = true := decide_eq_true ai0
 have li : i < x.v.length := by
  unfold seesI at hat
  split at hat
  ·next e => cases hat; exact (List.findIdx?_eq_some_iff_getElem.1 e).1
  ·exact (List.findIdx?_eq_some_iff_getElem.1 hat).1
 obtain ⟨yi, hyi⟩ : ∃ y, x.v[i]? = some y := ⟨_, List.getElem?_eq_getElem li⟩
 have HYI := Lib.hid hyi
 have lin : i < nv := by rw [← ENV.out]; exact li
 have lin2 : (i : Int) < (nv : Int) := by omega
 have di : idxV none = -1 := rfl
 have ai3 : ((i : Int) != -1) = true := by simp
 have HZ2 := Lib.hid (show z = ({ x.keepW s okey with v := x.v.set i { yi with ended := t.id } } : MoI) from by
  have w1 : MoI.wroteV x.v t.id ⟨4, okey, ohi, oval⟩ (some i) none = x.v.set i { yi with ended := t.id } := by unfold MoI.wroteV setV; simp [modify_set hyi]
  rw [← hz, if_neg hnot, w1])
 have HZ := Lib.hid hz
 have EKK := Lib.hid hown
 rw [hnt] at HT
 have HNO := Lib.hid hnot
 clear hnot hnt hown' hown hz hat li hyi
 clear hMN h ob rb fM fN f et e4 e5 en4 en5 eat emi kW kW1 kW2
 unfold DidR opV
 go_enter Try.func65, Try.ntmps65
 go_wp2_with fail
 refine wp_region_held_drew (S := fun w' => w'.cell? ⟨m, 3 + s * 6, none⟩ = some (.int .i64 t.id) ∧ w'.cell? ⟨m, 3 + s * 6 + 1, none⟩ = some (.int .i64 t.level) ∧ w'.cell? ⟨m, 3 + s * 6 + 2, none⟩ = some (.int .i64 t.ops) ∧ w'.cell? ⟨m, 3 + s * 6 + 3, none⟩ = some (.int .u64 t.start) ∧ w'.cell? ⟨m, 3 + s * 6 + 4, none⟩ = some (.slice A4 n4 c4) ∧ w'.cell? ⟨m, 3 + s * 6 + 5, none⟩ = some (.slice A5 n5 c5) ∧ w'.cell? ⟨M, 1, none⟩ = some (.int .i64 okey)) (by kernel_rfl) ⟨s0, s1, s2, s3, s4, s5, o1⟩ (fun hHeld => ?_)
 refine tk 0 (v := ?qvu991) ?qyu991 ?qru991; case qyu991 => ((intro w hSw; (try dsimp only at hSw); go_simp); try (with_reducible rfl))
 (try simp only [tA, tS, tZ, Act.put, uA, uS, uZ])
 refine tk 1 (v := ?qvu992) ?qyu992 ?qru992; case qyu992 => ((intro w hSw; (try dsimp only at hSw); go_simp); try (with_reducible rfl))
 (try simp only [tA, tS, tZ, Act.put, uA, uS, uZ])
 refine tk 2 (v := ?qvu993) ?qyu993 ?qru993; case qyu993 => ((intro w hSw; (try dsimp only at hSw); go_simp); try (with_reducible rfl))
 (try simp only [tA, tS, tZ, Act.put, uA, uS, uZ])
 refine tk 3 (v := ?qvu994) ?qyu994 ?qru994; case qyu994 => ((intro w hSw; (try dsimp only at hSw); go_simp); try (with_reducible rfl))
 (try simp only [tA, tS, tZ, Act.put, uA, uS, uZ])
 refine tk 4 (v := ?qvu995) ?qyu995 ?qru995; case qyu995 => ((intro w hSw; (try dsimp only at hSw); go_simp); try (with_reducible rfl))
 (try simp only [tA, tS, tZ, Act.put, uA, uS, uZ])
 refine tk 5 (v := ?qvu996) ?qyu996 ?qru996; case qyu996 => ((intro w hSw; (try dsimp only at hSw); go_simp); try (with_reducible rfl))
 (try simp only [tA, tS, tZ, Act.put, uA, uS, uZ])
 refine wpAnyH_ready (rs := [6]) (by kernel_rfl) (by simp) ?_
 refine AllReadyH.cons rfl (fun K hK => ?_) AllReadyH.nil
 go_simp
 refine (HS.out _ ((Keep.refl _ W).drew)).mono ?_
 rintro e w3 ⟨rfl, k3⟩
 refine hK.out _ _ ⟨k3.cell hHeld.1 id, k3.cell hHeld.2.1 id, k3.cell hHeld.2.2.1 id, k3.cell hHeld.2.2.2.1 id, k3.cell hHeld.2.2.2.2.1 id, k3.cell hHeld.2.2.2.2.2.1 id, k3.cell hHeld.2.2.2.2.2.2 id⟩ (fun hHeld => ?_)
 clear hK K
 (try simp only [tA, tS, tZ, Act.put, uA, uS, uZ])
 refine tk 7 (v := ?qvu997) ?qyu997 ?qru997; case qyu997 => ((intro w hSw; (try dsimp only at hSw); go_simp); try (with_reducible rfl))
 (try simp only [tA, tS, tZ, Act.put, uA, uS, uZ])
 refine wpAnyH_done (by kernel_rfl) ?_ _
 have K3 : Keep (fun _ => False) W w3 := ((Keep.refl _ W).drew).trans k3
 clear hHeld
 go_wp2_with fail
 refine wp_region_held_drew (S := fun w' => w'.cell? ⟨m, 3 + s * 6 + 4, none⟩ = some (.slice A4 n4 c4) ∧ w'.cell? ⟨M, 1, none⟩ = some (.int .i64 okey)) (by kernel_rfl) ⟨K3.cell s4 id, K3.cell o1 id⟩ (fun hHeld => ?_)
 refine tk 0 (v := ?qvu998) ?qyu998 ?qru998; case qyu998 => ((intro w hSw; (try dsimp only at hSw); go_simp); try (with_reducible rfl))
 (try simp only [tA, tS, tZ, Act.put, uA, uS, uZ])
 refine tk 1 (v := ?qvu999) ?qyu999 ?qru999; case qyu999 => ((intro w hSw; (try dsimp only at hSw); go_simp); try (with_reducible rfl))
 (try simp only [tA, tS, tZ, Act.put, uA, uS, uZ])
 refine tk 2 (v := ?qvu1000) ?qyu1000 ?qru1000; case qyu1000 => ((intro w hSw; (try dsimp only at hSw); go_simp); try (with_reducible rfl))
 (try simp only [tA, tS, tZ, Act.put, uA, uS, uZ])
 refine tk 3 (v := ?qvu1001) ?qyu1001 ?qru1001; case qyu1001 => ((intro w hSw; (try dsimp only at hSw); go_simp); try (with_reducible rfl))
 (try simp only [tA, tS, tZ, Act.put, uA, uS, uZ])
 refine tk 4 (v := ?qvu1002) ?qyu1002 ?qru1002; case qyu1002 => ((intro w hSw; (try dsimp only at hSw); go_simp); try (with_reducible rfl))
 (try simp only [tA, tS, tZ, Act.put, uA, uS, uZ])
 refine tk 5 (v := ?qvu1003) ?qyu1003 ?qru1003; case qyu1003 => ((intro w hSw; (try dsimp only at hSw); go_simp); try (with_reducible rfl))
 (try simp only [tA, tS, tZ, Act.put, uA, uS, uZ])
 refine wpAnyH_ready (rs := [6]) (by kernel_rfl) (by simp) ?_
 refine AllReadyH.cons rfl (fun K hK => ?_) AllReadyH.nil
 go_simp
 refine (HW.out _ (K3.drew)).mono ?_
 rintro e w4 ⟨rfl, rfl⟩
 refine hK.out _ _ hHeld (fun hHeld => ?_)
 clear hK K
 (try simp only [tA, tS, tZ, Act.put, uA, uS, uZ])
 refine tk 7 (v := ?qvu1004) ?qyu1004 ?qru1004; case qyu1004 => ((intro w hSw; (try dsimp only at hSw); go_simp); try (with_reducible rfl))
 (try simp only [tA, tS, tZ, Act.put, uA, uS, uZ])
 refine wpAnyH_done (by kernel_rfl) ?_ _
 have K4 : Keep (fun _ => False) W w3.drew := K3.drew
 clear hHeld
 obtain ⟨wq, ewq⟩ : ∃ wq, w3.drew = wq := ⟨_, rfl⟩
 rw [ewq] at K4 ⊢
 clear ewq K3 k3
 obtain ⟨p0, p1, p2, p3⟩ := OB.out.keep K4 id
 have H4 := Lib.hid (H.out.same K4)
 have R4 := Lib.hid (RB.out.keep K4 id)
 obtain rfl : mine = false := by rw [← EMI.out]; exact decide_eq_false HNO.out
 have s0 := H4.out.s0 s hs
 have s1 := H4.out.s1 s hs
 have s2 := H4.out.s2 s hs
 have s3 := H4.out.s3 s hs
 have s4 := H4.out.s4 s hs
 have s5 := H4.out.s5 s hs
 rw [ET.out] at s0 s1 s2 s3
 rw [E4.out] at s4
 rw [E5.out] at s5
 go_wp2_with fail
 refine wp_region_held_drew (S := fun w' => w'.cell? ⟨m, 3 + s * 6, none⟩ = some (.int .i64 t.id) ∧ w'.cell? ⟨m, 3 + s * 6 + 1, none⟩ = some (.int .i64 t.level) ∧ w'.cell? ⟨m, 3 + s * 6 + 2, none⟩ = some (.int .i64 t.ops) ∧ w'.cell? ⟨m, 3 + s * 6 + 3, none⟩ = some (.int .u64 t.start) ∧ w'.cell? ⟨m, 3 + s * 6 + 4, none⟩ = some (.slice A4 n4 c4) ∧ w'.cell? ⟨m, 3 + s * 6 + 5, none⟩ = some (.slice A5 n5 c5) ∧ w'.cell? ⟨M, 1, none⟩ = some (.int .i64 okey)) (by kernel_rfl) ⟨s0, s1, s2, s3, s4, s5, p1⟩ (fun hHeld => ?_)
 refine tk 0 (v := ?qvu1005) ?qyu1005 ?qru1005; case qyu1005 => ((intro w hSw; (try dsimp only at hSw); go_simp); try (with_reducible rfl))
 (try simp only [tA, tS, tZ, Act.put, uA, uS, uZ])
 refine tk 1 (v := ?qvu1006) ?qyu1006 ?qru1006; case qyu1006 => ((intro w hSw; (try dsimp only at hSw); go_simp); try (with_reducible rfl))
 (try simp only [tA, tS, tZ, Act.put, uA, uS, uZ])
 refine tk 2 (v := ?qvu1007) ?qyu1007 ?qru1007; case qyu1007 => ((intro w hSw; (try dsimp only at hSw); go_simp); try (with_reducible rfl))
 (try simp only [tA, tS, tZ, Act.put, uA, uS, uZ])
 refine tk 3 (v := ?qvu1008) ?qyu1008 ?qru1008; case qyu1008 => ((intro w hSw; (try dsimp only at hSw); go_simp); try (with_reducible rfl))
 (try simp only [tA, tS, tZ, Act.put, uA, uS, uZ])
 refine tk 4 (v := ?qvu1009) ?qyu1009 ?qru1009; case qyu1009 => ((intro w hSw; (try dsimp only at hSw); go_simp); try (with_reducible rfl))
 (try simp only [tA, tS, tZ, Act.put, uA, uS, uZ])
 refine tk 5 (v := ?qvu1010) ?qyu1010 ?qru1010; case qyu1010 => ((intro w hSw; (try dsimp only at hSw); go_simp); try (with_reducible rfl))
 (try simp only [tA, tS, tZ, Act.put, uA, uS, uZ])
 refine tk 6 (v := ?qvu1011) ?qyu1011 ?qru1011; case qyu1011 => ((intro w hSw; (try dsimp only at hSw); go_simp); try (with_reducible rfl))
 (try simp only [tA, tS, tZ, Act.put, uA, uS, uZ])
 refine tk 7 (v := ?qvu1012) ?qyu1012 ?qru1012; case qyu1012 => ((intro w hSw; (try dsimp only at hSw); go_simp); try (with_reducible rfl))
 (try simp only [tA, tS, tZ, Act.put, uA, uS, uZ])
 refine tk 8 (v := ?qvu1013) ?qyu1013 ?qru1013; case qyu1013 => ((intro w hSw; (try dsimp only at hSw); go_simp); try (with_reducible rfl))
 (try simp only [tA, tS, tZ, Act.put, uA, uS, uZ])
 refine wpAnyH_ready (rs := [9]) (by kernel_rfl) (by simp) ?_
 refine AllReadyH.cons rfl (fun K hK => ?_) AllReadyH.nil
 go_simp
 refine (HT.out _ (K4.drew)).mono ?_
 rintro e w5 ⟨rfl, k5⟩
 refine hK.out _ _ ⟨k5.cell hHeld.1 id, k5.cell hHeld.2.1 id, k5.cell hHeld.2.2.1 id, k5.cell hHeld.2.2.2.1 id, k5.cell hHeld.2.2.2.2.1 id, k5.cell hHeld.2.2.2.2.2.1 id, k5.cell hHeld.2.2.2.2.2.2 id⟩ (fun hHeld => ?_)
 clear hK K
 (try simp only [tA, tS, tZ, Act.put, uA, uS, uZ])
 refine tk 10 (v := ?qvu1014) ?qyu1014 ?qru1014; case qyu1014 => ((intro w hSw; (try dsimp only at hSw); go_simp); try (with_reducible rfl))
 (try simp only [tA, tS, tZ, Act.put, uA, uS, uZ])
 refine wpAnyH_done (by kernel_rfl) ?_ _
 have K5 := (K4.drew).trans k5
 clear hHeld
 go_wp2_with fail
 have KO : Keep (fun _ => False) W w5.drew := K5.drew
 refine wp_region_held_drew (S := fun w' => w'.cell? ⟨m, 3 + s * 6, none⟩ = some (.int .i64 t.id) ∧ w'.cell? ⟨M, 1, none⟩ = some (.int .i64 okey)) (by kernel_rfl) ⟨by have := (H.out.same KO).s0 s hs; rwa [ET.out] at this, KO.cell o1 id⟩ (fun hHeld => ?_)
 refine tk 0 (v := ?qvu1015) ?qyu1015 ?qru1015; case qyu1015 => ((intro w hSw; (try dsimp only at hSw); go_simp); try (with_reducible rfl))
 (try simp only [tA, tS, tZ, Act.put, uA, uS, uZ])
 refine tk 1 (v := ?qvu1016) ?qyu1016 ?qru1016; case qyu1016 => ((intro w hSw; (try dsimp only at hSw); go_simp); try (with_reducible rfl))
 (try simp only [tA, tS, tZ, Act.put, uA, uS, uZ])
 refine tk 2 (v := ?qvu1017) ?qyu1017 ?qru1017; case qyu1017 => ((intro w hSw; (try dsimp only at hSw); go_simp); try (with_reducible rfl))
 (try simp only [tA, tS, tZ, Act.put, uA, uS, uZ])
 refine tk 3 (v := ?qvu1018) ?qyu1018 ?qru1018; case qyu1018 => ((intro w hSw; (try dsimp only at hSw); go_simp); try (with_reducible rfl))
 (try simp only [tA, tS, tZ, Act.put, uA, uS, uZ])
 refine tk 4 (v := ?qvu1019) ?qyu1019 ?qru1019; case qyu1019 => ((intro w hSw; (try dsimp only at hSw); go_simp); try (with_reducible rfl))
 (try simp only [tA, tS, tZ, Act.put, uA, uS, uZ])
 refine tk 5 (v := ?qvu1020) ?qyu1020 ?qru1020; case qyu1020 => ((intro w hSw; (try dsimp only at hSw); go_simp); try (with_reducible rfl))
 (try simp only [tA, tS, tZ, Act.put, uA, uS, uZ])
 refine tk 6 (v := ?qvu1021) ?qyu1021 ?qru1021; case qyu1021 => ((intro w hSw; (try dsimp only at hSw); go_simp); try (with_reducible rfl))
 (try simp only [tA, tS, tZ, Act.put, uA, uS, uZ])
 refine wpAnyH_ready (rs := [7]) (by kernel_rfl) (by simp) ?_
 refine AllReadyH.cons rfl (fun K hK => ?_) AllReadyH.nil
 go_simp
 refine (HOW.out _ KO).mono ?_
 rintro e w7 ⟨rfl, k7'⟩
 refine hK.out _ _ ⟨k7'.cell hHeld.1 id, k7'.cell hHeld.2 id⟩ (fun hHeld => ?_)
 clear hK K
 (try simp only [tA, tS, tZ, Act.put, uA, uS, uZ])
 refine tk 8 (v := ?qvu1022) ?qyu1022 ?qru1022; case qyu1022 => ((intro w hSw; (try dsimp only at hSw); go_simp); try (with_reducible rfl))
 (try simp only [tA, tS, tZ, Act.put, uA, uS, uZ])
 refine wpAnyH_done (by kernel_rfl) ?_ _
 have K7 := KO.trans k7'
 clear hHeld
 have c0 := (H.out.same K7).c0
 have c2 := (H.out.same K7).c2
 rw [EVV.out] at c2
 have z0 := K7.cell o0 id
 go_wp2_with fail
 refine wp_region_held_drew (S := fun w' => w'.cell? ⟨M, 0, none⟩ = some (.int .i64 4) ∧ w'.cell? ⟨m, 2, none⟩ = some (.slice Av nv cv) ∧ w'.cell? ⟨m, 0, none⟩ = some (.int .i64 x.slots)) (by kernel_rfl) ⟨z0, c2, c0⟩ (fun hHeld => ?_)
 refine tk 0 (v := ?qvu1023) ?qyu1023 ?qru1023; case qyu1023 => ((intro w hSw; (try dsimp only at hSw); go_simp); try (with_reducible rfl))
 (try simp only [tA, tS, tZ, Act.put, uA, uS, uZ])
 refine tk 1 (v := ?qvu1024) ?qyu1024 ?qru1024; case qyu1024 => ((intro w hSw; (try dsimp only at hSw); go_simp); try (with_reducible rfl))
 (try simp only [tA, tS, tZ, Act.put, uA, uS, uZ])
 refine tk 2 (v := ?qvu1025) ?qyu1025 ?qru1025; case qyu1025 => ((intro w hSw; (try dsimp only at hSw); go_simp); try (with_reducible rfl))
 (try simp only [tA, tS, tZ, Act.put, uA, uS, uZ])
 refine tk 3 (v := ?qvu1026) ?qyu1026 ?qru1026; case qyu1026 => ((intro w hSw; (try dsimp only at hSw); go_simp); try (with_reducible rfl))
 (try simp only [tA, tS, tZ, Act.put, uA, uS, uZ])
 refine wpAnyH_take (i := 4) (v := undef) rfl (by kernel_rfl) (by kernel_rfl) (by kernel_rfl) (fun _ _ _ h => h) (Or.inr ⟨by rfl, rfl⟩) (by assumption) ?qru1027
 (try simp only [tA, tS, tZ, Act.put, uA, uS, uZ])
 refine wpAnyH_take (i := 5) (v := undef) rfl (by kernel_rfl) (by kernel_rfl) (by kernel_rfl) (fun _ _ _ h => h) (Or.inr ⟨by rfl, rfl⟩) (by assumption) ?qru1028
 (try simp only [tA, tS, tZ, Act.put, uA, uS, uZ])
 refine tk 6 (v := ?qvu1029) ?qyu1029 ?qru1029; case qyu1029 => ((intro w hSw; (try dsimp only at hSw); go_simp); try (with_reducible rfl))
 (try simp only [tA, tS, tZ, Act.put, uA, uS, uZ])
 refine tk 7 (v := ?qvu1030) ?qyu1030 ?qru1030; case qyu1030 => ((intro w hSw; (try dsimp only at hSw); go_simp); try (with_reducible rfl))
 (try simp only [tA, tS, tZ, Act.put, uA, uS, uZ])
 refine wpAnyH_take (i := 8) (v := undef) rfl (by kernel_rfl) (by kernel_rfl) (by kernel_rfl) (fun _ _ _ h => h) (Or.inr ⟨by rfl, rfl⟩) (by assumption) ?qru1031
 (try simp only [tA, tS, tZ, Act.put, uA, uS, uZ])
 refine wpAnyH_take (i := 9) (v := undef) rfl (by kernel_rfl) (by kernel_rfl) (by kernel_rfl) (fun _ _ _ h => h) (Or.inr ⟨by rfl, rfl⟩) (by assumption) ?qru1032
 (try simp only [tA, tS, tZ, Act.put, uA, uS, uZ])
 refine wpAnyH_take (i := 10) (v := undef) rfl (by kernel_rfl) (by kernel_rfl) (by kernel_rfl) (fun _ _ _ h => h) (Or.inr ⟨by rfl, rfl⟩) (by assumption) ?qru1033
 (try simp only [tA, tS, tZ, Act.put, uA, uS, uZ])
 refine wpAnyH_take (i := 11) (v := undef) rfl (by kernel_rfl) (by kernel_rfl) (by kernel_rfl) (fun _ _ _ h => h) (Or.inr ⟨by rfl, rfl⟩) (by assumption) ?qru1034
 (try simp only [tA, tS, tZ, Act.put, uA, uS, uZ])
 refine wpAnyH_take (i := 12) (v := undef) rfl (by kernel_rfl) (by kernel_rfl) (by kernel_rfl) (fun _ _ _ h => h) (Or.inr ⟨by rfl, rfl⟩) (by assumption) ?qru1035
 (try simp only [tA, tS, tZ, Act.put, uA, uS, uZ])
 refine wpAnyH_take (i := 13) (v := undef) rfl (by kernel_rfl) (by kernel_rfl) (by kernel_rfl) (fun _ _ _ h => h) (Or.inr ⟨by rfl, rfl⟩) (by assumption) ?qru1036
 (try simp only [tA, tS, tZ, Act.put, uA, uS, uZ])
 refine wpAnyH_take (i := 14) (v := undef) rfl (by kernel_rfl) (by kernel_rfl) (by kernel_rfl) (fun _ _ _ h => h) (Or.inr ⟨by rfl, rfl⟩) (by assumption) ?qru1037
 (try simp only [tA, tS, tZ, Act.put, uA, uS, uZ])
 refine wpAnyH_take (i := 15) (v := undef) rfl (by kernel_rfl) (by kernel_rfl) (by kernel_rfl) (fun _ _ _ h => h) (Or.inr ⟨by rfl, rfl⟩) (by assumption) ?qru1038
 (try simp only [tA, tS, tZ, Act.put, uA, uS, uZ])
 refine wpAnyH_take (i := 16) (v := undef) rfl (by kernel_rfl) (by kernel_rfl) (by kernel_rfl) (fun _ _ _ h => h) (Or.inr ⟨by rfl, rfl⟩) (by assumption) ?qru1039
 (try simp only [tA, tS, tZ, Act.put, uA, uS, uZ])
 refine wpAnyH_take (i := 17) (v := undef) rfl (by kernel_rfl) (by kernel_rfl) (by kernel_rfl) (fun _ _ _ h => h) (Or.inr ⟨by rfl, rfl⟩) (by assumption) ?qru1040
 (try simp only [tA, tS, tZ, Act.put, uA, uS, uZ])
 refine wpAnyH_take (i := 18) (v := undef) rfl (by kernel_rfl) (by kernel_rfl) (by kernel_rfl) (fun _ _ _ h => h) (Or.inr ⟨by rfl, rfl⟩) (by assumption) ?qru1041
 (try simp only [tA, tS, tZ, Act.put, uA, uS, uZ])
 refine tk 19 (v := ?qvu1042) ?qyu1042 ?qru1042; case qyu1042 => ((intro w hSw; (try dsimp only at hSw); go_simp); try (with_reducible rfl))
 (try simp only [tA, tS, tZ, Act.put, uA, uS, uZ])
 refine wpAnyH_done (by kernel_rfl) ?_ _
 obtain ⟨wv, ewv⟩ : ∃ wv, w7.drew = wv := ⟨_, rfl⟩
 have K8 : Keep (fun _ => False) W wv := by rw [← ewv]; exact K7.drew
 rw [ewv]
 clear hHeld ewv
 go_upto_if 112 with fail
 go_cut [] from 113 to 123 (fun wx => RmTo W m vv sw sr (x.keepW s okey) wx)
 case first =>
  have kdd := (Keep.refl (fun _ => False) wv).drew
  have H9 := Lib.hid (H.out.same (K8.trans kdd))
  have OW6 := Lib.hid (OwnN.keep (OwnN.keep OW.out K8 (by simp)) kdd (by simp))
  rw [E4.out] at OW6
  have nn4 : n4 ≤ 1000 := by rw [← EN4.out]; exact FW.out
  have s4' := H9.out.s4 s hs
  rw [E4.out] at s4'
  have s4q : wv.cell? ⟨m, 3 + s * 6 + 4, none⟩ = some (.slice A4 n4 c4) := s4'
  have fz4 := H9.out.fz (3 + s * 6 + 4)
  have nm4 := Lib.hid (show ¬ (Value.slice A4 n4 c4).ownBlock = some m by have := H9.out.wm s hs; rwa [E4.out] at this)
  have ml4 := Lib.hid H9.out.mlt
  have nmM4 := Lib.hid (show ¬ (Value.slice A4 n4 c4).ownBlock = some M from fun q => FM.out (.inr (.inr ⟨s, hs, .inl (by rw [E4.out]; exact q)⟩)))
  have hHd0 : wv.cell? ⟨M, 1, none⟩ = some (.int .i64 okey) := K8.cell o1 id
  have hHd : wv.drew.cell? ⟨M, 1, none⟩ = some (.int .i64 okey) := hHd0
  have mlq : m < wv.heap.size := H9.out.mlt
  have ha : (wv.drew.alloc (.cells #[.int .i64 okey] 3)).cell? ⟨M, 1, none⟩ = some (.int .i64 okey) := ((Keep.refl (fun _ => False) wv.drew).alloc _).cell hHd id
  go_wp2_with fail
  refine wp_region_held_drew (S := fun w' => w'.cell? ⟨M, 1, none⟩ = some (.int .i64 okey)) (by kernel_rfl) hHd0 (fun hHeld => ?_)
  refine tk 0 (v := ?qvu1043) ?qyu1043 ?qru1043; case qyu1043 => ((intro w hSw; (try dsimp only at hSw); go_simp); try (with_reducible rfl))
  (try simp only [tA, tS, tZ, Act.put, uA, uS, uZ])
  refine tk 1 (v := ?qvu1044) ?qyu1044 ?qru1044; case qyu1044 => ((intro w hSw; (try dsimp only at hSw); go_simp); try (with_reducible rfl))
  (try simp only [tA, tS, tZ, Act.put, uA, uS, uZ])
  refine tk 2 (v := ?qvu1045) ?qyu1045 ?qru1045; case qyu1045 => ((intro w hSw; (try dsimp only at hSw); go_simp); try (with_reducible rfl))
  (try simp only [tA, tS, tZ, Act.put, uA, uS, uZ])
  refine tk 3 (v := ?qvu1046) ?qyu1046 ?qru1046; case qyu1046 => ((intro w hSw; (try dsimp only at hSw); go_simp); try (with_reducible rfl))
  (try simp only [tA, tS, tZ, Act.put, uA, uS, uZ])
  refine tk 5 (v := ?qvu1047) ?qyu1047 ?qru1047; case qyu1047 => ((intro w hSw; (try dsimp only at hSw); go_simp); try (with_reducible rfl))
  (try simp only [tA, tS, tZ, Act.put, uA, uS, uZ])
  refine tk 6 (v := ?qvu1048) ?qyu1048 ?qru1048; case qyu1048 => ((intro w hSw; (try dsimp only at hSw); go_simp); try (with_reducible rfl))
  (try simp only [tA, tS, tZ, Act.put, uA, uS, uZ])
  refine wpAnyH_ready (rs := [4, 7]) (by kernel_rfl) (by simp) ?_
  refine AllReadyH.cons rfl (fun K hK => ?_) (AllReadyH.cons rfl (fun K hK => ?_) AllReadyH.nil)
  ·go_simp
   refine hK.out _ _ hHeld (fun hHeld => ?_)
   clear hK K
   (try simp only [tA, tS, tZ, Act.put, uA, uS, uZ])
   refine wpAnyH_ready (rs := [7]) (by kernel_rfl) (by simp) ?_
   refine AllReadyH.cons rfl (fun K hK => ?_) AllReadyH.nil
   go_simp
   refine hK.out _ _ (((Keep.refl (fun _ => False) _).alloc _).cell hHeld id) (fun hHeld => ?_)
   clear hK K
   (try simp only [tA, tS, tZ, Act.put, uA, uS, uZ])
   refine wpAnyH_ready (rs := [8]) (by kernel_rfl) (by simp) ?_
   refine AllReadyH.cons rfl (fun K hK => ?_) AllReadyH.nil
   refine step_pushN rfl (.tmp 117) (.tmp 120) rfl _ t.wrote (by rfl) OW6.out okey rfl (by rw [EN4.out]; omega) ?_
   rintro g6 c6 y6 o6 k6 hg6
   have z4 := k6.cell s4' nm4.out
   have zf := (k6.frozen (a := ⟨m, 3 + s * 6 + 4, none⟩) ml4.out nm4.out).trans fz4
   refine hK.out _ _ (k6.cell hHd nmM4.out) (fun hHeld => ?_)
   clear hK K
   (try simp only [tA, tS, tZ, Act.put, uA, uS, uZ])
   refine tk 9 (v := ?qvu1049) ?qyu1049 ?qru1049; case qyu1049 => ((intro w hSw; (try dsimp only at hSw); go_simp); try (with_reducible rfl))
   (try simp only [tA, tS, tZ, Act.put, uA, uS, uZ])
   refine tk 10 (v := ?qvu1050) ?qyu1050 ?qru1050; case qyu1050 => ((intro w hSw; (try dsimp only at hSw); go_simp); try (with_reducible rfl))
   (try simp only [tA, tS, tZ, Act.put, uA, uS, uZ])
   refine wpAnyH_ready (rs := [11]) (by kernel_rfl) (by simp) ?_
   refine AllReadyH.cons rfl (fun K hK => ?_) AllReadyH.nil
   go_simp
   refine hK.out _ _ ((keep_one y6 ⟨m, 3 + s * 6 + 4, none⟩ _).cell hHeld (fun e => by have e : M = m := e; omega)) (fun hHeld => ?_)
   clear hK K
   (try simp only [tA, tS, tZ, Act.put, uA, uS, uZ])
   refine wpAnyH_done (by kernel_rfl) ?_ _
   have AR := (H9.out.addW hs okey (a := .slice (some ⟨g6, 0, none⟩) (t.wrote.length + 1) c6) (y4 := y6) (by rw [E4.out]; exact k6) (by rw [ET.out]; exact o6) (by rw [E4.out]; intro g e; cases e; exact hg6)).front (K8.trans kdd)
   go_wp2_with fail
   go_meet
   exact AR
  ·go_simp
   refine hK.out _ _ ha (fun hHeld => ?_)
   clear hK K
   (try simp only [tA, tS, tZ, Act.put, uA, uS, uZ])
   refine wpAnyH_ready (rs := [4]) (by kernel_rfl) (by simp) ?_
   refine AllReadyH.cons rfl (fun K hK => ?_) AllReadyH.nil
   go_simp
   refine hK.out _ _ ha (fun hHeld => ?_)
   clear hK K
   (try simp only [tA, tS, tZ, Act.put, uA, uS, uZ])
   refine wpAnyH_ready (rs := [8]) (by kernel_rfl) (by simp) ?_
   refine AllReadyH.cons rfl (fun K hK => ?_) AllReadyH.nil
   refine step_pushN rfl (.tmp 117) (.tmp 120) rfl _ t.wrote (by rfl) OW6.out okey rfl (by rw [EN4.out]; omega) ?_
   rintro g6 c6 y6 o6 k6 hg6
   have z4 := k6.cell s4' nm4.out
   have zf := (k6.frozen (a := ⟨m, 3 + s * 6 + 4, none⟩) ml4.out nm4.out).trans fz4
   refine hK.out _ _ (k6.cell hHd nmM4.out) (fun hHeld => ?_)
   clear hK K
   (try simp only [tA, tS, tZ, Act.put, uA, uS, uZ])
   refine tk 9 (v := ?qvu1051) ?qyu1051 ?qru1051; case qyu1051 => ((intro w hSw; (try dsimp only at hSw); go_simp); try (with_reducible rfl))
   (try simp only [tA, tS, tZ, Act.put, uA, uS, uZ])
   refine tk 10 (v := ?qvu1052) ?qyu1052 ?qru1052; case qyu1052 => ((intro w hSw; (try dsimp only at hSw); go_simp); try (with_reducible rfl))
   (try simp only [tA, tS, tZ, Act.put, uA, uS, uZ])
   refine wpAnyH_ready (rs := [11]) (by kernel_rfl) (by simp) ?_
   refine AllReadyH.cons rfl (fun K hK => ?_) AllReadyH.nil
   go_simp
   refine hK.out _ _ ((keep_one y6 ⟨m, 3 + s * 6 + 4, none⟩ _).cell hHeld (fun e => by have e : M = m := e; omega)) (fun hHeld => ?_)
   clear hK K
   (try simp only [tA, tS, tZ, Act.put, uA, uS, uZ])
   refine wpAnyH_done (by kernel_rfl) ?_ _
   have AR := (H9.out.addW hs okey (a := .slice (some ⟨g6, 0, none⟩) (t.wrote.length + 1) c6) (y4 := y6) (by rw [E4.out]; exact k6) (by rw [ET.out]; exact o6) (by rw [E4.out]; intro g e; cases e; exact hg6)).front (K8.trans kdd)
   go_wp2_with fail
   go_meet
   exact AR
 case rest =>
  obtain ⟨vv1, sw1, sr1, a1, a2, a3⟩ := hcut
  have m0 := a2.cell o0 FM.out
  obtain ⟨Av1, cv1, ev1, hcv1, _⟩ := a1.vers
  have nv1 : (x.keepW s okey).v.length = nv := ENV.out
  rw [nv1] at ev1 hcv1
  subst ev1
  obtain ⟨g, eg, b0, b1, b2, b3, b4, b5, b6⟩ := a1.at' i yi (HYI.out)
  subst eg
  have gF := a3 g (.inr (.inl rfl))
  have gM : ¬ M = g := fun e => by
   rcases gF with q | q
   ·exact FM.out (e ▸ q)
   ·have := hNW; have := HMN.out; omega
  have gm : ¬ m = g := fun e => a1.vm (by rw [e]; rfl)
  have c2 := a1.c2
  have sid : wc.cell? ⟨m, 3 + s * 6, none⟩ = some (.int .i64 t.id) := by have := a1.s0 s hs; rw [show ((x.keepW s okey).s s).id = t.id from by unfold MoI.keepW; show (putS x.s s _ s).id = _; rw [putS_self, ET.out]] at this; exact this
  have fE := OwnM.free a1.ov (i * 7 + 3)
  have gi : ∀ hh, (x.keepW s okey).v[i]'hh = yi := fun hh => (List.getElem?_eq_some_iff.1 (HYI.out)).2
  have P := a1.put i 3 (by rw [nv1]; exact lin) (by omega) (.int .i64 t.id) { yi with ended := t.id } (by rw [gi]; rfl)
  obtain ⟨wb, eb⟩ : ∃ wb, wc.setCell ⟨g, i * 7 + 3, none⟩ (.int .i64 t.id) = wb := ⟨_, rfl⟩
  have KB : Keep (fun q => q = g) wc wb := by rw [← eb]; exact (Keep.refl (fun q => q = g) wc).setCell (p := ⟨g, i * 7 + 3, none⟩) rfl _
  rw [eb] at P
  have KBH := Lib.hid KB
  have PH := Lib.hid P
  have KC := Lib.hid a2
  have FC := Lib.hid a3
  clear a1 a2 a3 P KB gF gi nv1 b0 b1 b2 b4 b5 b6
  go_wp2_with fail
  refine wp_region_held_drew (S := fun w' => w'.cell? ⟨m, 2, none⟩ = some (.slice (some ⟨g, 0, none⟩) nv cv1) ∧ w'.cell? ⟨m, 3 + s * 6, none⟩ = some (.int .i64 t.id)) (by kernel_rfl) ⟨c2, sid⟩ (fun hHeld => ?_)
  refine tk 0 (v := ?qvu1053) ?qyu1053 ?qru1053; case qyu1053 => ((intro w hSw; (try dsimp only at hSw); go_simp); try (with_reducible rfl))
  (try simp only [tA, tS, tZ, Act.put, uA, uS, uZ])
  refine tk 1 (v := ?qvu1054) ?qyu1054 ?qru1054; case qyu1054 => ((intro w hSw; (try dsimp only at hSw); go_simp); try (with_reducible rfl))
  (try simp only [tA, tS, tZ, Act.put, uA, uS, uZ])
  refine tk 2 (v := ?qvu1055) ?qyu1055 ?qru1055; case qyu1055 => ((intro w hSw; (try dsimp only at hSw); go_simp); try (with_reducible rfl))
  (try simp only [tA, tS, tZ, Act.put, uA, uS, uZ])
  refine tk 3 (v := ?qvu1056) ?qyu1056 ?qru1056; case qyu1056 => ((intro w hSw; (try dsimp only at hSw); go_simp); try (with_reducible rfl))
  (try simp only [tA, tS, tZ, Act.put, uA, uS, uZ])
  refine tk 4 (v := ?qvu1057) ?qyu1057 ?qru1057; case qyu1057 => ((intro w hSw; (try dsimp only at hSw); go_simp); try (with_reducible rfl))
  (try simp only [tA, tS, tZ, Act.put, uA, uS, uZ])
  refine tk 5 (v := ?qvu1058) ?qyu1058 ?qru1058; case qyu1058 => ((intro w hSw; (try dsimp only at hSw); go_simp); try (with_reducible rfl))
  (try simp only [tA, tS, tZ, Act.put, uA, uS, uZ])
  refine tk 6 (v := ?qvu1059) ?qyu1059 ?qru1059; case qyu1059 => ((intro w hSw; (try dsimp only at hSw); go_simp); try (with_reducible rfl))
  (try simp only [tA, tS, tZ, Act.put, uA, uS, uZ])
  refine tk 7 (v := ?qvu1060) ?qyu1060 ?qru1060; case qyu1060 => ((intro w hSw; (try dsimp only at hSw); go_simp); try (with_reducible rfl))
  (try simp only [tA, tS, tZ, Act.put, uA, uS, uZ])
  refine tk 8 (v := ?qvu1061) ?qyu1061 ?qru1061; case qyu1061 => ((intro w hSw; (try dsimp only at hSw); go_simp); try (with_reducible rfl))
  (try simp only [tA, tS, tZ, Act.put, uA, uS, uZ])
  refine tk 9 (v := ?qvu1062) ?qyu1062 ?qru1062; case qyu1062 => ((intro w hSw; (try dsimp only at hSw); go_simp); try (with_reducible rfl))
  (try simp only [tA, tS, tZ, Act.put, uA, uS, uZ])
  refine tk 10 (v := ?qvu1063) ?qyu1063 ?qru1063; case qyu1063 => ((intro w hSw; (try dsimp only at hSw); go_simp); try (with_reducible rfl))
  (try simp only [tA, tS, tZ, Act.put, uA, uS, uZ])
  refine wpAnyH_ready (rs := [11]) (by kernel_rfl) (by simp) ?_
  refine AllReadyH.cons rfl (fun K hK => ?_) AllReadyH.nil
  go_simp
  go_simp
  refine hK.out _ _ ⟨KBH.out.cell c2 gm, KBH.out.cell sid gm⟩ (fun hHeld => ?_)
  clear hK K
  (try simp only [tA, tS, tZ, Act.put, uA, uS, uZ])
  refine wpAnyH_done (by kernel_rfl) ?_ _
  have kd := (Keep.refl (fun _ => False) wb).drew
  obtain ⟨wd, ed⟩ : ∃ wd, wb.drew = wd := ⟨_, rfl⟩
  rw [ed] at kd ⊢
  have hcut : RmTo W m vv sw sr ({ x.keepW s okey with v := x.v.set i { yi with ended := t.id } }) wd := ⟨_, sw1, sr1, PH.out.same kd, KC.out.onew ((KBH.out.mono (fun q e => .inr (.inl (by rw [e]; rfl)))).trans (kd.mono (fun _ e => e.elim))) FC.out, FC.out⟩
  clear hHeld ed kd eb PH KBH KC FC c2 sid fE gM gm m0 b3
  obtain ⟨vv2, sw2, sr2, a1, a2, a3⟩ := hcut
  have HC := Lib.hid a1
  have KC := Lib.hid a2
  have FC := Lib.hid a3
  have m0 := a2.cell o0 FM.out
  have R6 := Lib.hid (RB.out.keep a2 FN.out)
  obtain ⟨q0, q1, q2, q3, q4, q5⟩ := R6.out
  clear a1 a2 a3
  go_wp2
  (obtain ⟨W7, eW7⟩ : ∃ W7, (((((wd.setCell ⟨N, 0, none⟩ (.int .i64 0)).setCell ⟨N, 1, none⟩ (.int .i64 0)).setCell ⟨N, 2, none⟩ (.slice none 0 0)).setCell ⟨N, 3, none⟩ (.int .i64 0)).setCell ⟨N, 4, none⟩ (.int .i64 0)) = W7 := ⟨_, rfl⟩; obtain ⟨⟨v0, v1, v2, v3, v4, _⟩, k7⟩ := res_set R6.out _ _ _ _ _ eW7; rw [eW7]; refine bodyPost_ret (v := .agg #[.int .i64 0, .int .i64 0, .slice none 0 0, .int .i64 0, .int .i64 0]) (by simp [results, Try.results65, go_sem, v0, v1, v2, v3, v4]) rfl ⟨rfl, ?_⟩)
  have TT : RmTo W m vv sw sr z wd := by
   rw [HZ2.out]
   exact ⟨_, _, _, HC.out, KC.out, FC.out⟩
  exact TT.fin KW.out (by have := EM.out; have := HMN.out; omega) hNW FN.out k7
end
end Go.Proofs.Ytkkjofefjepodaa
/- The document's own Model, tenth part: New, Live. No condition. -/
namespace Go.Proofs.Ytkkjofefjepodaa
open Go.ChangeShapes Go.WideShapes Go.ChangeAt Go.RowKit
set_option linter.unusedVariables false
set_option linter.unusedSimpArgs false

/-- The sessions below k that live. -/
def liveTo (x : MoI) (k : Nat) : List Int := ((List.range k).filter fun i => decide ((x.s i).id ≠ 0)).map (fun i : Nat => (i : Int))
theorem live_next (x : MoI) (k : Nat) : liveTo x (k + 1) = liveTo x k ++ if (x.s k).id = 0 then [] else [(k : Int)] := by
 unfold liveTo
 rw [List.range_succ, List.filter_append, List.map_append]
 congr 1
 by_cases h : (x.s k).id = 0 <;> simp [h]
theorem live_len (x : MoI) (k : Nat) : (liveTo x k).length ≤ k := by
 unfold liveTo
 rw [List.length_map]
 exact Nat.le_trans (List.length_filter_le _ _) (by simp)
section
variable {w w' W : World} {m : Nat} {vv vv' : Value} {sw sr sw' sr' : Nat → Value} {x y : MoI} {T : Nat → Prop}
def RLi (w : World) (x : MoI) (k : Nat) (o i : Value) (wr : World) : Prop := k ≤ 8 ∧ i = .int .i64 k ∧ OwnN w.heap.size wr o (liveTo x k) ∧ Keep (fun _ => False) w wr
/-- What a call answers that tells a list of ints of its own. -/
def ToldN (w : World) (l : List Int) (e : Ending) (w' : World) : Prop := ∃ u, e = .returned u ∧ OwnN w.heap.size w' u l ∧ Keep (fun _ => False) w w'
set_option maxRecDepth 100000 in
set_option maxHeartbeats 2000000 in
theorem rlive_any (h : RmAt w m vv sw sr x) : Calls Try.prog 40 #[.pointer (some ⟨m, 0, none⟩)] w (ToldN w x.live) := by
 have H := Lib.hid h
 clear h
 go_enter Try.func40, Try.ntmps40
 go_wp2
 go_loopw [3, 4] (fun o i wr => ∃ k : Nat, RLi w x k o i wr) (fun _ i _ => 8 - (intOf i).toNat)
 case atStart => exact ⟨0, Nat.zero_le _, rfl, World.ownsRow_nil _ _ _ _, Keep.refl _ _⟩
 case round =>
  obtain ⟨k, hk, rfl, oo, k1⟩ := hrel
  have wk : IntKind.i64.wrap ((k : Int) + 1) = (k : Int) + 1 := IntWalk.i64_in _ (by omega)
  by_cases hlt : k < 8
  ·have s0 := (H.out.same k1).s0 k hlt
   obtain ⟨id', ei⟩ : ∃ z, (x.s k).id = z := ⟨_, rfl⟩
   rw [ei] at s0
   have nx := live_next x k
   rw [ei] at nx
   have hlt2 : (k : Int) < 8 := by omega
   by_cases hz : id' = 0
   ·subst hz
    rw [if_pos rfl, List.append_nil] at nx
    have NX := Lib.hid nx
    have OO := Lib.hid oo
    clear nx ei oo
    go_wp2
    first | exact ⟨⟨k + 1, by omega, by go_num, by rw [NX.out]; exact OO.out, k1⟩, by simp [intOf]; omega⟩ | (refine ⟨?rel2, ?meas2⟩; (case meas2 => (simp [intOf]; omega)); (case rel2 => ((repeat apply Exists.intro); exact ⟨⟨k + 1, by omega, by go_num, by rw [NX.out]; exact OO.out, k1⟩, rfl⟩)))
   ·have d1 : (id' != 0) = true := by simpa using hz
    rw [if_neg hz] at nx
    have ll := Nat.le_trans (live_len x k) (show k ≤ 100000 by omega)
    have hz2 := k1.size
    obtain ⟨Z, eZ⟩ : ∃ Z, liveTo x k = Z := ⟨_, rfl⟩
    rw [eZ] at nx ll oo
    have NX := Lib.hid nx
    have OO := Lib.hid oo
    clear nx ei oo hz eZ
    go_wp2_with (with_reducible refine wp_stop 20 rfl ?_)
    intro _
    refine wp_pushN rfl (.tmp 17) (.tmp 19) rfl w.heap.size hz2 _ Z (by rfl) OO.out k rfl ll ?_
    rintro g2 c2 w3 o3 k3 hg
    rw [show Z ++ [(k : Int)] = liveTo x (k + 1) from NX.out.symm] at o3
    have K3 : Keep (fun _ => False) w w3 := k1.older (S := fun g => w.heap.size ≤ g) (k3.mono (fun g e => (OwnN.lt OO.out e).1)) (fun _ e => e)
    have O3 := Lib.hid o3
    clear o3 k3 hg
    go_wp2
    first | exact ⟨⟨k + 1, by omega, by go_num, O3.out, K3⟩, by simp [intOf]; omega⟩ | (refine ⟨?rel2, ?meas2⟩; (case meas2 => (simp [intOf]; omega)); (case rel2 => ((repeat apply Exists.intro); exact ⟨⟨k + 1, by omega, by go_num, O3.out, K3⟩, rfl⟩)))
  ·obtain rfl : k = 8 := by omega
   have OO := Lib.hid oo
   clear oo
   go_wp2
   go_ret
   exact ⟨_, rfl, OO.out, k1⟩
def newC (slots limit : Int) : List Value := [.int .i64 slots, .int .u64 limit, .slice none 0 0,
 .int .i64 0, .int .i64 0, .int .i64 0, .int .u64 0, .slice none 0 0, .slice none 0 0, .int .i64 0, .int .i64 0, .int .i64 0, .int .u64 0, .slice none 0 0, .slice none 0 0,
 .int .i64 0, .int .i64 0, .int .i64 0, .int .u64 0, .slice none 0 0, .slice none 0 0, .int .i64 0, .int .i64 0, .int .i64 0, .int .u64 0, .slice none 0 0, .slice none 0 0,
 .int .i64 0, .int .i64 0, .int .i64 0, .int .u64 0, .slice none 0 0, .slice none 0 0, .int .i64 0, .int .i64 0, .int .i64 0, .int .u64 0, .slice none 0 0, .slice none 0 0,
 .int .i64 0, .int .i64 0, .int .i64 0, .int .u64 0, .slice none 0 0, .slice none 0 0, .int .i64 0, .int .i64 0, .int .i64 0, .int .u64 0, .slice none 0 0, .slice none 0 0,
 .int .u64 0, .int .i64 0]
theorem new_cell (w : World) (slots limit : Int) (i : Nat) (u : Value) (h : (newC slots limit)[i]? = some u) : (w.alloc (.cells (newC slots limit).toArray 82)).cell? ⟨w.heap.size, i, none⟩ = some u := by
 obtain ⟨lj, e⟩ := List.getElem?_eq_some_iff.1 h
 simp [lj, e]
theorem new_at (w : World) (slots limit : Int) : RmAt (w.alloc (.cells (newC slots limit).toArray 82)) w.heap.size (.slice none 0 0) (fun _ => .slice none 0 0) (fun _ => .slice none 0 0) (new0 slots limit) := by
 have c := new_cell w slots limit
 have eight : ∀ {P : Nat → Prop}, P 0 → P 1 → P 2 → P 3 → P 4 → P 5 → P 6 → P 7 → ∀ i, i < 8 → P i := fun h0 h1 h2 h3 h4 h5 h6 h7 i hi => by
  match i, hi with
  | 0, _ => exact h0
  | 1, _ => exact h1
  | 2, _ => exact h2
  | 3, _ => exact h3
  | 4, _ => exact h4
  | 5, _ => exact h5
  | 6, _ => exact h6
  | 7, _ => exact h7
 exact {
  c0 := c 0 _ rfl, c1 := c 1 _ rfl, c2 := c 2 _ rfl
  s0 := eight (c 3 _ rfl) (c 9 _ rfl) (c 15 _ rfl) (c 21 _ rfl) (c 27 _ rfl) (c 33 _ rfl) (c 39 _ rfl) (c 45 _ rfl)
  s1 := eight (c 4 _ rfl) (c 10 _ rfl) (c 16 _ rfl) (c 22 _ rfl) (c 28 _ rfl) (c 34 _ rfl) (c 40 _ rfl) (c 46 _ rfl)
  s2 := eight (c 5 _ rfl) (c 11 _ rfl) (c 17 _ rfl) (c 23 _ rfl) (c 29 _ rfl) (c 35 _ rfl) (c 41 _ rfl) (c 47 _ rfl)
  s3 := eight (c 6 _ rfl) (c 12 _ rfl) (c 18 _ rfl) (c 24 _ rfl) (c 30 _ rfl) (c 36 _ rfl) (c 42 _ rfl) (c 48 _ rfl)
  s4 := eight (c 7 _ rfl) (c 13 _ rfl) (c 19 _ rfl) (c 25 _ rfl) (c 31 _ rfl) (c 37 _ rfl) (c 43 _ rfl) (c 49 _ rfl)
  s5 := eight (c 8 _ rfl) (c 14 _ rfl) (c 20 _ rfl) (c 26 _ rfl) (c 32 _ rfl) (c 38 _ rfl) (c 44 _ rfl) (c 50 _ rfl)
  c51 := c 51 _ rfl, c52 := c 52 _ rfl
  fz := fun i => by simp
  ov := OwnM.nil
  ow := fun i hi => World.ownsRow_nil _ _ _ _
  or' := fun i hi => OwnM.nil
  vm := by simp [Value.ownBlock], wm := by simp [Value.ownBlock], rm := by simp [Value.ownBlock], vw := by simp [Value.ownBlock], vr := by simp [Value.ownBlock], ww := by simp [Value.ownBlock], rr := by simp [Value.ownBlock], wr := by simp [Value.ownBlock] }
set_option maxRecDepth 100000 in
theorem rnew_no (slots limit : Int) (h : confI slots limit = false) (w : World) : Calls Try.prog 34 #[cfV slots limit] w fun e w' => e = .returned (.pointer none) ∧ Keep (fun _ => False) w w' := by
 have kW : Keep (fun _ => False) w (w.alloc (.cells #[.int .i64 slots, .int .u64 limit] 48)) := (Keep.refl _ _).alloc _
 have hc : ¬ (1 ≤ slots ∧ slots ≤ 256 ∧ 1 ≤ limit ∧ limit ≤ 1099511627776) := of_decide_eq_false h
 unfold cfV
 by_cases h1 : slots < 1
 ·have d1 : decide (slots < 1) = true := decide_eq_true h1
  clear hc h
  go_enter Try.func34, Try.ntmps34
  go_wp2
  go_ret
  exact ⟨rfl, kW⟩
 ·have d1 : decide (slots < 1) = false := decide_eq_false h1
  by_cases h2 : 256 < slots
  ·have d2 : decide (256 < slots) = true := decide_eq_true h2
   clear hc h
   go_enter Try.func34, Try.ntmps34
   go_wp2
   go_ret
   exact ⟨rfl, kW⟩
  ·have d2 : decide (256 < slots) = false := decide_eq_false h2
   by_cases h3 : limit < 1
   ·have d3 : decide (limit < 1) = true := decide_eq_true h3
    clear hc h
    go_enter Try.func34, Try.ntmps34
    go_wp2
    go_ret
    exact ⟨rfl, kW⟩
   ·have d3 : decide (limit < 1) = false := decide_eq_false h3
    have h4 : 1099511627776 < limit := by omega
    have d4 : decide (1099511627776 < limit) = true := decide_eq_true h4
    clear hc h
    go_enter Try.func34, Try.ntmps34
    go_wp2
    go_ret
    exact ⟨rfl, kW⟩
set_option maxRecDepth 100000 in
theorem rnew_yes (slots limit : Int) (h : confI slots limit = true) (w : World) : Calls Try.prog 34 #[cfV slots limit] w fun e w' => ∃ m, e = .returned (.pointer (some ⟨m, 0, none⟩)) ∧ w.heap.size ≤ m ∧ RmAt w' m (.slice none 0 0) (fun _ => .slice none 0 0) (fun _ => .slice none 0 0) (new0 slots limit) ∧ Keep (fun _ => False) w w' := by
 obtain ⟨h1, h2, h3, h4⟩ := of_decide_eq_true h
 have d1 : decide (slots < 1) = false := decide_eq_false (by omega)
 have d2 : decide (256 < slots) = false := decide_eq_false (by omega)
 have d3 : decide (limit < 1) = false := decide_eq_false (by omega)
 have d4 : decide (1099511627776 < limit) = false := decide_eq_false (by omega)
 unfold cfV
 obtain ⟨W1, e1⟩ : ∃ W1, w.alloc (.cells #[.int .i64 slots, .int .u64 limit] 48) = W1 := ⟨_, rfl⟩
 have k1 : Keep (fun _ => False) w W1 := by rw [← e1]; exact (Keep.refl _ _).alloc _
 have s1 : W1.heap.size = w.heap.size + 1 := by rw [← e1]; simp
 have N1 := Lib.hid (new_at W1 slots limit)
 have E1 := Lib.hid e1
 have S1 := Lib.hid s1
 clear h h1 h2 h3 h4 e1 s1
 go_enter Try.func34, Try.ntmps34
 go_wp2
 rw [E1.out]
 have fin := N1.out
 rw [S1.out] at fin
 refine bodyPost_ret (results_tmp rfl _ _ _) rfl ⟨w.heap.size + 1, rfl, by omega, ?_, k1.alloc _⟩
 exact fin
end
end Go.Proofs.Ytkkjofefjepodaa
/- The document's own Model, eleventh part: Pairs, Collect. Conditions: at most 1000 versions. -/
namespace Go.Proofs.Ytkkjofefjepodaa
open Go.ChangeShapes Go.WideShapes Go.ChangeAt Go.RowKit
set_option linter.unusedVariables false
set_option linter.unusedSimpArgs false

theorem pairs_take {l : List VrI} {k : Nat} {y : VrI} (at' key : Int) (h : l[k]? = some y) : MoI.pairsOf (l.take (k + 1)) at' key = MoI.pairsOf (l.take k) at' key ++ if thereV key at' y = true then [(key, y.val)] else [] := by
 unfold MoI.pairsOf
 rw [List.take_add_one, h, List.filter_append, List.map_append]
 congr 1
 by_cases e : thereV key at' y = true <;> simp [e]
theorem pairsof_len (l : List VrI) (at' key : Int) (n : Nat) (h : l.length ≤ n) : (MoI.pairsOf l at' key).length ≤ n := by
 unfold MoI.pairsOf
 rw [List.length_map]
 exact Nat.le_trans (List.length_filter_le _ _) h
theorem pairs_len (l : List VrI) (at' : Int) (n : Nat) (h : l.length ≤ n) : ∀ ks : List Int, (ks.flatMap (MoI.pairsOf l at')).length ≤ ks.length * n
 | [] => by simp
 | k :: ks => by
  rw [List.flatMap_cons, List.length_append, List.length_cons]
  have := pairsof_len l at' k n h
  have := pairs_len l at' n h ks
  rw [Nat.succ_mul]
  omega
section
variable {w w' W : World} {m : Nat} {vv vv' : Value} {sw sr sw' sr' : Nat → Value} {x y : MoI} {T : Nat → Prop}
def RPo (w : World) (x : MoI) (at' : Int) (k : Nat) (o i : Value) (wr : World) : Prop := k ≤ 64 ∧ i = .int .i64 k ∧ OwnPr wr o ((keysI 0 k).flatMap (MoI.pairsOf x.v at')) ∧ (∀ g, o.ownBlock = some g → w.heap.size ≤ g) ∧ Keep (fun _ => False) w wr
def RPi (w : World) (x : MoI) (at' key : Int) (l : List (Int × Int)) (k : Nat) (o i : Value) (wr : World) : Prop := k ≤ x.v.length ∧ i = .int .i64 k ∧ OwnPr wr o (l ++ MoI.pairsOf (x.v.take k) at' key) ∧ (∀ g, o.ownBlock = some g → w.heap.size ≤ g) ∧ Keep (fun _ => False) w wr
set_option maxRecDepth 100000 in
set_option maxHeartbeats 4000000 in
theorem rpairs_any (h : RmAt w m vv sw sr x) (hl : x.v.length ≤ 1000) (at' : Int) : Calls Try.prog 42 #[.pointer (some ⟨m, 0, none⟩), .int .u64 at'] w (ToldPr w (x.pairs at')) := by
 obtain ⟨A, c, rfl, hc, hv⟩ := h.vers
 obtain ⟨n, en⟩ : ∃ n, x.v.length = n := ⟨_, rfl⟩
 have H := Lib.hid h
 have EN := Lib.hid en
 rw [en] at hc hl H
 clear h en hv
 go_enter Try.func42, Try.ntmps42
 go_wp2
 go_loopw [5, 6, 7, 8] (fun o i _ _ wr => ∃ k : Nat, RPo w x at' k o i wr) (fun _ i _ _ _ => 64 - (intOf i).toNat)
 case atStart => exact ⟨0, Nat.zero_le _, rfl, OwnM.nil, by simp [Value.ownBlock], Keep.refl _ _⟩
 case round =>
  obtain ⟨key, hk, rfl, oo, og, k1⟩ := hrel
  have wk : IntKind.i64.wrap ((key : Int) + 1) = (key : Int) + 1 := IntWalk.i64_in _ (by omega)
  by_cases hlt : key < 64
  ·have hlt2 : (key : Int) < 64 := by omega
   obtain ⟨Z, eZ⟩ : ∃ Z, (keysI 0 key).flatMap (MoI.pairsOf x.v at') = Z := ⟨_, rfl⟩
   have lz : Z.length ≤ 64000 := by
    have := pairs_len x.v at' 1000 (by rw [EN.out]; exact hl) (keysI 0 key)
    rw [eZ, keys_len] at this
    have : key * 1000 ≤ 64 * 1000 := Nat.mul_le_mul (by omega) (Nat.le_refl _)
    omega
   have EZ := Lib.hid eZ
   rw [eZ] at oo
   have OO := Lib.hid oo
   have OG := Lib.hid og
   have NXK := Lib.hid (show (keysI 0 (key + 1)).flatMap (MoI.pairsOf x.v at') = Z ++ MoI.pairsOf x.v at' key by rw [keys_next, List.flatMap_append, eZ]; simp)
   clear oo og eZ
   go_wp2
   go_loopw [5, 7, 8] (fun o i _ wr => ∃ k : Nat, RPi w x at' key Z k o i wr) (fun _ i _ _ => n - (intOf i).toNat)
   case atStart => exact ⟨0, Nat.zero_le _, rfl, by simpa [MoI.pairsOf] using OO.out, OG.out, k1⟩
   case round =>
    clear k1 OO OG
    obtain ⟨k, hk2, rfl, oo, og, k2⟩ := hrel
    rw [EN.out] at hk2
    have wk2 : IntKind.i64.wrap ((k : Int) + 1) = (k : Int) + 1 := IntWalk.i64_in _ (by omega)
    have c2 := (H.out.same k2).c2
    have OO := Lib.hid oo
    have OG := Lib.hid og
    clear oo og
    by_cases hkn : k < n
    ·obtain ⟨y, hy⟩ : ∃ y, x.v[k]? = some y := ⟨_, List.getElem?_eq_getElem (by rw [EN.out]; exact hkn)⟩
     obtain ⟨g, eg, a0, a1, a2, a3, a4, a5, a6⟩ := (H.out.same k2).at' k y hy
     subst eg
     have mc := there_cases (key : Int) at' y
     have nx := pairs_take at' key hy
     have kA := fun o => k2.alloc o
     have oA := fun o => OO.out.keep ((Keep.refl (fun _ => False) wr).alloc o) (by simp)
     have ll : (Z ++ MoI.pairsOf (x.v.take k) at' key).length ≤ 100000 := by
      have := pairsof_len (x.v.take k) at' key 1000 (by rw [List.length_take]; omega)
      rw [List.length_append]; omega
     have KA := Lib.hid kA
     have OA := Lib.hid oA
     obtain ⟨yk, yv, yb, ye, ya, yo, yd⟩ := y
     clear hy kA oA
     rcases mc with ⟨mt, h1, rfl, h3, h4, h5 | ⟨h5, h6⟩⟩ | ⟨mf, h1 | ⟨h1, rfl⟩ | ⟨h1, rfl, h3⟩ | ⟨h1, rfl, h3, h4⟩ | ⟨h1, rfl, h3, h4, h5, h6⟩⟩
     iterate 2
      ·rw [if_pos mt] at nx
       have NX := Lib.hid nx
       obtain ⟨Y, eY⟩ : ∃ Y, Z ++ MoI.pairsOf (x.v.take k) at' key = Y := ⟨_, rfl⟩
       rw [eY] at ll OA
       have EY := Lib.hid eY
       clear nx eY mt
       go_wp2_with (with_reducible refine wp_stop 66 rfl ?_)
       intro _
       refine wp_pushM Try.underlying28 info_pr rfl (by decide) (by decide) prI_len (by intro p u hu; simp only [prI, List.mem_cons, List.not_mem_nil, or_false] at hu; rcases hu with rfl | rfl <;> rfl) rfl (.tmp 60) (.tmp 65) rfl _ Y (by rfl) (OA.out _) ((key : Int), yv) (by rw [World.size_alloc]; rfl) ll ?_
       rintro g2 c2 w3 o3 k3 hg
       rw [show Y ++ [((key : Int), yv)] = Z ++ MoI.pairsOf (x.v.take (k + 1)) at' key from by rw [NX.out, ← EY.out, List.append_assoc]] at o3
       have K3 : Keep (fun _ => False) w w3 := (KA.out _).older (S := fun g => w.heap.size ≤ g) (k3.mono (fun g e => OG.out g e)) (fun _ e => e)
       have hg2 : w.heap.size ≤ g2 := by
        rcases hg with e | e
        ·exact OG.out g2 e
        ·have := k2.size; simp at e; omega
       have O3 := Lib.hid o3
       clear o3 k3 hg
       go_wp2
       first | exact ⟨⟨k + 1, by rw [EN.out]; omega, by go_num, O3.out, (fun g e => by cases e; exact hg2), K3⟩, by simp [intOf]; omega⟩ | (refine ⟨?rel2, ?meas2⟩; (case meas2 => (simp [intOf]; omega)); (case rel2 => ((repeat apply Exists.intro); exact ⟨⟨k + 1, by rw [EN.out]; omega, by go_num, O3.out, (fun g e => by cases e; exact hg2), K3⟩, rfl⟩)))
     all_goals
      rw [if_neg (by rw [mf]; simp), List.append_nil] at nx
      have NX := Lib.hid nx
      clear nx mf
      go_wp2
      first | exact ⟨⟨k + 1, by rw [EN.out]; omega, by go_num, by rw [NX.out]; exact OA.out _, OG.out, KA.out _⟩, by simp [intOf]; omega⟩ | (refine ⟨?rel2, ?meas2⟩; (case meas2 => (simp [intOf]; omega)); (case rel2 => ((repeat apply Exists.intro); exact ⟨⟨k + 1, by rw [EN.out]; omega, by go_num, by rw [NX.out]; exact OA.out _, OG.out, KA.out _⟩, rfl⟩)))
    ·obtain rfl : k = n := by omega
     have o3 := OO.out
     rw [show x.v.take k = x.v by rw [← EN.out]; exact List.take_length, ← NXK.out] at o3
     have O3 := Lib.hid o3
     clear o3 hkn hk2 OO
     go_wp2
     first | exact ⟨⟨key + 1, by omega, by go_num, O3.out, OG.out, k2⟩, by simp [intOf]; omega⟩ | (refine ⟨?rel2, ?meas2⟩; (case meas2 => (simp [intOf]; omega)); (case rel2 => ((repeat apply Exists.intro); exact ⟨⟨key + 1, by omega, by go_num, O3.out, OG.out, k2⟩, rfl⟩)))
  ·obtain rfl : key = 64 := by omega
   have OO := Lib.hid oo
   have OG := Lib.hid og
   clear oo og
   go_wp2
   go_ret
   exact ⟨_, rfl, OO.out, OG.out, k1⟩
end
end Go.Proofs.Ytkkjofefjepodaa
