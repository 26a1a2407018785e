/- Several texts, one behind the other: RmJ, RmV, RmX. -/
import Derived.Test.YtkkjofefjepodaaLawModelPlaysZab
import Derived.Test.YtkkjofefjepodaaLawModelPlaysZaw
/- The document's own Model, eighth part: write for want of a slot. -/
namespace Go.Proofs.Ytkkjofefjepodaa
open Go.ChangeShapes Go.WideShapes Go.ChangeAt Go.RowKit
set_option linter.unusedVariables false
set_option linter.unusedSimpArgs false
section
variable {w w' W : World} {m : Nat} {vv vv' : Value} {sw sr sw' sr' : Nat → Value} {x y : MoI} {T : Nat → Prop}
set_option maxRecDepth 100000 in
set_option maxHeartbeats 8000000 in
theorem rwrite_full (h : RmAt w m vv sw sr x) (f : Few x) (s : Nat) (hs : s < 8) (o : OpI) (hnr : ¬ ((o.kind = 2 ∧ seesI x.v (x.s s).id (x.s s).start o.key ≠ none) ∨ (o.kind ≠ 2 ∧ seesI x.v (x.s s).id (x.s s).start o.key = none))) (hnt : o.key ∈ (x.s s).wrote ∨ x.taken (x.s s).id (x.s s).start o.key = false) (hk4 : o.kind ≠ 4) (how : x.v.findIdx? (ownV (x.s s).id o.key) = none) (hfu : x.slots ≤ x.v.length) :
  Calls Try.prog 65 #[.pointer (some ⟨m, 0, none⟩), .int .i64 s, opV o] w (DidR w m vv sw sr (MoI.bad 5) (x.over s)) := by
 obtain ⟨W1, eW1, ob, kW1⟩ := op_box w o
 obtain ⟨W, eW, rb, kW2⟩ := res_box W1
 have kW := kW1.trans kW2
 have fM : ¬ FootR m vv sw sr w.heap.size := fun q => by have := h.lt _ q; omega
 have fN : ¬ FootR m vv sw sr W1.heap.size := fun q => by have := h.lt _ q; have := kW1.size; omega
 have hmw := h.mlt
 have H := Lib.hid (h.same kW)
 obtain ⟨Av, cv, evv, hcv, _⟩ := h.vers
 obtain ⟨nv, env⟩ : ∃ n, x.v.length = n := ⟨_, rfl⟩
 rw [env] at evv hcv
 have EVV := Lib.hid evv
 have ENV := Lib.hid env
 clear evv env
 have s0 := H.out.s0 s hs
 have s1 := H.out.s1 s hs
 have s2 := H.out.s2 s hs
 have s3 := H.out.s3 s hs
 have s4 := H.out.s4 s hs
 have s5 := H.out.s5 s hs
 obtain ⟨A4, c4, e4⟩ := own_n _ _ _ (H.out.ow s hs)
 obtain ⟨A5, c5, e5⟩ := own_r _ _ _ (H.out.or' s hs)
 obtain ⟨t, et⟩ : ∃ t, x.s s = t := ⟨_, rfl⟩
 have OW := Lib.hid (H.out.ow s hs)
 have OR5 := Lib.hid (H.out.or' s hs)
 have FW := Lib.hid (f.w s hs)
 have FRS := Lib.hid (f.r s hs).1
 rw [et] at s0 s1 s2 s3 e4 e5 OW OR5 FW
 have ET := Lib.hid et
 obtain ⟨n4, en4⟩ : ∃ n, t.wrote.length = n := ⟨_, rfl⟩
 obtain ⟨n5, en5⟩ : ∃ n, t.reads.length = n := ⟨_, rfl⟩
 rw [en4] at e4
 rw [en5] at e5
 rw [e4] at s4
 rw [e5] at s5
 have E4 := Lib.hid e4
 have E5 := Lib.hid e5
 have EN4 := Lib.hid en4
 have EN5 := Lib.hid en5
 obtain ⟨M, eM⟩ : ∃ M, w.heap.size = M := ⟨_, rfl⟩
 obtain ⟨N, eN⟩ : ∃ N, W1.heap.size = N := ⟨_, rfl⟩
 have hMN : N = M + 1 := by rw [← eN, ← eW1, World.size_alloc, eM]
 have HMN := Lib.hid hMN
 have EM := Lib.hid eM
 have ES := Lib.hid eN
 have hNW : N < W.heap.size := by rw [← eW, World.size_alloc, eN]; exact Nat.lt_succ_self _
 rw [eM] at ob fM hmw
 rw [eN] at rb fN
 have OB := Lib.hid (ob.keep kW2 (fun e => e))
 have RB := Lib.hid rb
 have FM := Lib.hid fM
 have FN := Lib.hid fN
 have KW := Lib.hid kW
 have FV := Lib.hid f.v
 obtain ⟨o0, o1, o2, o3⟩ := OB.out
 obtain ⟨at', eat⟩ : ∃ at', seesI x.v t.id t.start o.key = at' := ⟨_, rfl⟩
 obtain ⟨mine, emi⟩ : ∃ b, decide (o.key ∈ t.wrote) = b := ⟨_, rfl⟩
 have EAT := Lib.hid eat
 have EMI := Lib.hid emi
 have HS := Lib.hid (fun (wx : World) (k : Keep (fun _ => False) W wx) => rsees_any (H.out.same k) (Nat.le_trans FV.out (by omega)) t (sw s) (sr s) o.key)
 have HW := Lib.hid (fun (wx : World) (k : Keep (fun _ => False) W wx) => rhas_any (OwnN.keep OW.out k (by simp)) (Nat.le_trans FW.out (by omega)) o.key mine EMI.out)
 rw [EAT.out, E4.out, E5.out] at HS
 rw [E4.out] at HW
 unfold txV at HS
 have HT := Lib.hid (fun (wx : World) (k : Keep (fun _ => False) W wx) => rtaken_any (H.out.same k) (Nat.le_trans FV.out (by omega)) (fun i hi => Nat.le_trans (f.w i hi) (by omega)) t (sw s) (sr s) o.key)
 rw [E4.out, E5.out] at HT
 unfold txV at HT
 have HOW := Lib.hid (fun (wx : World) (k : Keep (fun _ => False) W wx) => rown_any (H.out.same k) (Nat.le_trans FV.out (by omega)) t.id o.key)
 obtain ⟨ok, okey, ohi, oval⟩ := o
 rw [ET.out] at hnt how
 rw [how] at HOW
 have d4 : (ok != 4) = true := by simpa using hk4
 have hfu : x.slots ≤ (nv : Int) := by rw [← ENV.out]; exact hfu
 have d5 : decide (x.slots ≤ (nv : Int)) = true := decide_eq_true hfu
 obtain ⟨b1, eb1⟩ : ∃ b, (ok == 2) = b := ⟨_, rfl⟩
 obtain ⟨b2, eb2⟩ : ∃ b, decide (0 ≤ idxV at') = b := ⟨_, rfl⟩
 have hb : (b1 = true ∧ b2 = false) ∨ (b1 = false ∧ b2 = true) := by
  rw [← eb1, ← eb2]
  cases at' with
  | none => left; have := hnr; rw [ET.out, EAT.out] at this; simp [idxV] at this ⊢; exact this
  | some i => right; have := hnr; rw [ET.out, EAT.out] at this; simp [idxV] at this ⊢; exact this
 have eb3 : (ok != 2) = !b1 := by rw [← eb1]; rfl
 have eb4 : decide (idxV at' < 0) = !b2 := by rw [← eb2]; by_cases e : 0 ≤ idxV at' <;> simp [e] <;> omega
 obtain ⟨av, eav⟩ : ∃ av, idxV at' = av := ⟨_, rfl⟩
 have EAV := Lib.hid eav
 rw [eav] at eb2 eb4 HS
 clear eav hnr
 have HO := Lib.hid (fun (wx : World) (k : Keep (fun _ => False) W wx) => rover_any (H.out.same k) (Nat.le_trans FV.out (by omega)) s hs 14 5)
 have HNT := Lib.hid hnt
 clear hk4 how hnt
 clear hMN h ob rb fM fN f et e4 e5 en4 en5 eat emi kW kW1 kW2
 unfold DidR opV
 go_enter Try.func65, Try.ntmps65
 go_wp2_with fail
 refine wp_region_held_drew (S := fun w' => w'.cell? ⟨m, 3 + s * 6, none⟩ = some (.int .i64 t.id) ∧ w'.cell? ⟨m, 3 + s * 6 + 1, none⟩ = some (.int .i64 t.level) ∧ w'.cell? ⟨m, 3 + s * 6 + 2, none⟩ = some (.int .i64 t.ops) ∧ w'.cell? ⟨m, 3 + s * 6 + 3, none⟩ = some (.int .u64 t.start) ∧ w'.cell? ⟨m, 3 + s * 6 + 4, none⟩ = some (.slice A4 n4 c4) ∧ w'.cell? ⟨m, 3 + s * 6 + 5, none⟩ = some (.slice A5 n5 c5) ∧ w'.cell? ⟨M, 1, none⟩ = some (.int .i64 okey)) (by kernel_rfl) ⟨s0, s1, s2, s3, s4, s5, o1⟩ (fun hHeld => ?_)
 refine tk 0 (v := ?qvu423) ?qyu423 ?qru423; case qyu423 => ((intro w hSw; (try dsimp only at hSw); go_simp); try (with_reducible rfl))
 (try simp only [tA, tS, tZ, Act.put, uA, uS, uZ])
 refine tk 1 (v := ?qvu424) ?qyu424 ?qru424; case qyu424 => ((intro w hSw; (try dsimp only at hSw); go_simp); try (with_reducible rfl))
 (try simp only [tA, tS, tZ, Act.put, uA, uS, uZ])
 refine tk 2 (v := ?qvu425) ?qyu425 ?qru425; case qyu425 => ((intro w hSw; (try dsimp only at hSw); go_simp); try (with_reducible rfl))
 (try simp only [tA, tS, tZ, Act.put, uA, uS, uZ])
 refine tk 3 (v := ?qvu426) ?qyu426 ?qru426; case qyu426 => ((intro w hSw; (try dsimp only at hSw); go_simp); try (with_reducible rfl))
 (try simp only [tA, tS, tZ, Act.put, uA, uS, uZ])
 refine tk 4 (v := ?qvu427) ?qyu427 ?qru427; case qyu427 => ((intro w hSw; (try dsimp only at hSw); go_simp); try (with_reducible rfl))
 (try simp only [tA, tS, tZ, Act.put, uA, uS, uZ])
 refine tk 5 (v := ?qvu428) ?qyu428 ?qru428; case qyu428 => ((intro w hSw; (try dsimp only at hSw); go_simp); try (with_reducible rfl))
 (try simp only [tA, tS, tZ, Act.put, uA, uS, uZ])
 refine wpAnyH_ready (rs := [6]) (by kernel_rfl) (by simp) ?_
 refine AllReadyH.cons rfl (fun K hK => ?_) AllReadyH.nil
 go_simp
 refine (HS.out _ ((Keep.refl _ W).drew)).mono ?_
 rintro e w3 ⟨rfl, k3⟩
 refine hK.out _ _ ⟨k3.cell hHeld.1 id, k3.cell hHeld.2.1 id, k3.cell hHeld.2.2.1 id, k3.cell hHeld.2.2.2.1 id, k3.cell hHeld.2.2.2.2.1 id, k3.cell hHeld.2.2.2.2.2.1 id, k3.cell hHeld.2.2.2.2.2.2 id⟩ (fun hHeld => ?_)
 clear hK K
 (try simp only [tA, tS, tZ, Act.put, uA, uS, uZ])
 refine tk 7 (v := ?qvu429) ?qyu429 ?qru429; case qyu429 => ((intro w hSw; (try dsimp only at hSw); go_simp); try (with_reducible rfl))
 (try simp only [tA, tS, tZ, Act.put, uA, uS, uZ])
 refine wpAnyH_done (by kernel_rfl) ?_ _
 have K3 : Keep (fun _ => False) W w3 := ((Keep.refl _ W).drew).trans k3
 clear hHeld
 go_wp2_with fail
 refine wp_region_held_drew (S := fun w' => w'.cell? ⟨m, 3 + s * 6 + 4, none⟩ = some (.slice A4 n4 c4) ∧ w'.cell? ⟨M, 1, none⟩ = some (.int .i64 okey)) (by kernel_rfl) ⟨K3.cell s4 id, K3.cell o1 id⟩ (fun hHeld => ?_)
 refine tk 0 (v := ?qvu430) ?qyu430 ?qru430; case qyu430 => ((intro w hSw; (try dsimp only at hSw); go_simp); try (with_reducible rfl))
 (try simp only [tA, tS, tZ, Act.put, uA, uS, uZ])
 refine tk 1 (v := ?qvu431) ?qyu431 ?qru431; case qyu431 => ((intro w hSw; (try dsimp only at hSw); go_simp); try (with_reducible rfl))
 (try simp only [tA, tS, tZ, Act.put, uA, uS, uZ])
 refine tk 2 (v := ?qvu432) ?qyu432 ?qru432; case qyu432 => ((intro w hSw; (try dsimp only at hSw); go_simp); try (with_reducible rfl))
 (try simp only [tA, tS, tZ, Act.put, uA, uS, uZ])
 refine tk 3 (v := ?qvu433) ?qyu433 ?qru433; case qyu433 => ((intro w hSw; (try dsimp only at hSw); go_simp); try (with_reducible rfl))
 (try simp only [tA, tS, tZ, Act.put, uA, uS, uZ])
 refine tk 4 (v := ?qvu434) ?qyu434 ?qru434; case qyu434 => ((intro w hSw; (try dsimp only at hSw); go_simp); try (with_reducible rfl))
 (try simp only [tA, tS, tZ, Act.put, uA, uS, uZ])
 refine tk 5 (v := ?qvu435) ?qyu435 ?qru435; case qyu435 => ((intro w hSw; (try dsimp only at hSw); go_simp); try (with_reducible rfl))
 (try simp only [tA, tS, tZ, Act.put, uA, uS, uZ])
 refine wpAnyH_ready (rs := [6]) (by kernel_rfl) (by simp) ?_
 refine AllReadyH.cons rfl (fun K hK => ?_) AllReadyH.nil
 go_simp
 refine (HW.out _ (K3.drew)).mono ?_
 rintro e w4 ⟨rfl, rfl⟩
 refine hK.out _ _ hHeld (fun hHeld => ?_)
 clear hK K
 (try simp only [tA, tS, tZ, Act.put, uA, uS, uZ])
 refine tk 7 (v := ?qvu436) ?qyu436 ?qru436; case qyu436 => ((intro w hSw; (try dsimp only at hSw); go_simp); try (with_reducible rfl))
 (try simp only [tA, tS, tZ, Act.put, uA, uS, uZ])
 refine wpAnyH_done (by kernel_rfl) ?_ _
 have K4 : Keep (fun _ => False) W w3.drew := K3.drew
 clear hHeld
 obtain ⟨wq, ewq⟩ : ∃ wq, w3.drew = wq := ⟨_, rfl⟩
 rw [ewq] at K4 ⊢
 clear ewq K3 k3
 obtain ⟨p0, p1, p2, p3⟩ := OB.out.keep K4 id
 have H4 := Lib.hid (H.out.same K4)
 have R4 := Lib.hid (RB.out.keep K4 id)
 cases mine
 ·have ht := HNT.out.resolve_left (of_decide_eq_false EMI.out)
  rw [ht] at HT
  clear ht
  rcases hb with ⟨rfl, rfl⟩ | ⟨rfl, rfl⟩
  ·have s0 := H4.out.s0 s hs
   have s1 := H4.out.s1 s hs
   have s2 := H4.out.s2 s hs
   have s3 := H4.out.s3 s hs
   have s4 := H4.out.s4 s hs
   have s5 := H4.out.s5 s hs
   rw [ET.out] at s0 s1 s2 s3
   rw [E4.out] at s4
   rw [E5.out] at s5
   go_wp2_with fail
   refine wp_region_held_drew (S := fun w' => w'.cell? ⟨m, 3 + s * 6, none⟩ = some (.int .i64 t.id) ∧ w'.cell? ⟨m, 3 + s * 6 + 1, none⟩ = some (.int .i64 t.level) ∧ w'.cell? ⟨m, 3 + s * 6 + 2, none⟩ = some (.int .i64 t.ops) ∧ w'.cell? ⟨m, 3 + s * 6 + 3, none⟩ = some (.int .u64 t.start) ∧ w'.cell? ⟨m, 3 + s * 6 + 4, none⟩ = some (.slice A4 n4 c4) ∧ w'.cell? ⟨m, 3 + s * 6 + 5, none⟩ = some (.slice A5 n5 c5) ∧ w'.cell? ⟨M, 1, none⟩ = some (.int .i64 okey)) (by kernel_rfl) ⟨s0, s1, s2, s3, s4, s5, p1⟩ (fun hHeld => ?_)
   refine tk 0 (v := ?qvu437) ?qyu437 ?qru437; case qyu437 => ((intro w hSw; (try dsimp only at hSw); go_simp); try (with_reducible rfl))
   (try simp only [tA, tS, tZ, Act.put, uA, uS, uZ])
   refine tk 1 (v := ?qvu438) ?qyu438 ?qru438; case qyu438 => ((intro w hSw; (try dsimp only at hSw); go_simp); try (with_reducible rfl))
   (try simp only [tA, tS, tZ, Act.put, uA, uS, uZ])
   refine tk 2 (v := ?qvu439) ?qyu439 ?qru439; case qyu439 => ((intro w hSw; (try dsimp only at hSw); go_simp); try (with_reducible rfl))
   (try simp only [tA, tS, tZ, Act.put, uA, uS, uZ])
   refine tk 3 (v := ?qvu440) ?qyu440 ?qru440; case qyu440 => ((intro w hSw; (try dsimp only at hSw); go_simp); try (with_reducible rfl))
   (try simp only [tA, tS, tZ, Act.put, uA, uS, uZ])
   refine tk 4 (v := ?qvu441) ?qyu441 ?qru441; case qyu441 => ((intro w hSw; (try dsimp only at hSw); go_simp); try (with_reducible rfl))
   (try simp only [tA, tS, tZ, Act.put, uA, uS, uZ])
   refine tk 5 (v := ?qvu442) ?qyu442 ?qru442; case qyu442 => ((intro w hSw; (try dsimp only at hSw); go_simp); try (with_reducible rfl))
   (try simp only [tA, tS, tZ, Act.put, uA, uS, uZ])
   refine tk 6 (v := ?qvu443) ?qyu443 ?qru443; case qyu443 => ((intro w hSw; (try dsimp only at hSw); go_simp); try (with_reducible rfl))
   (try simp only [tA, tS, tZ, Act.put, uA, uS, uZ])
   refine tk 7 (v := ?qvu444) ?qyu444 ?qru444; case qyu444 => ((intro w hSw; (try dsimp only at hSw); go_simp); try (with_reducible rfl))
   (try simp only [tA, tS, tZ, Act.put, uA, uS, uZ])
   refine tk 8 (v := ?qvu445) ?qyu445 ?qru445; case qyu445 => ((intro w hSw; (try dsimp only at hSw); go_simp); try (with_reducible rfl))
   (try simp only [tA, tS, tZ, Act.put, uA, uS, uZ])
   refine wpAnyH_ready (rs := [9]) (by kernel_rfl) (by simp) ?_
   refine AllReadyH.cons rfl (fun K hK => ?_) AllReadyH.nil
   go_simp
   refine (HT.out _ (K4.drew)).mono ?_
   rintro e w5 ⟨rfl, k5⟩
   refine hK.out _ _ ⟨k5.cell hHeld.1 id, k5.cell hHeld.2.1 id, k5.cell hHeld.2.2.1 id, k5.cell hHeld.2.2.2.1 id, k5.cell hHeld.2.2.2.2.1 id, k5.cell hHeld.2.2.2.2.2.1 id, k5.cell hHeld.2.2.2.2.2.2 id⟩ (fun hHeld => ?_)
   clear hK K
   (try simp only [tA, tS, tZ, Act.put, uA, uS, uZ])
   refine tk 10 (v := ?qvu446) ?qyu446 ?qru446; case qyu446 => ((intro w hSw; (try dsimp only at hSw); go_simp); try (with_reducible rfl))
   (try simp only [tA, tS, tZ, Act.put, uA, uS, uZ])
   refine wpAnyH_done (by kernel_rfl) ?_ _
   have K5 := (K4.drew).trans k5
   clear hHeld
   go_wp2_with fail
   have KO : Keep (fun _ => False) W w5.drew := K5.drew
   refine wp_region_held_drew (S := fun w' => w'.cell? ⟨m, 3 + s * 6, none⟩ = some (.int .i64 t.id) ∧ w'.cell? ⟨M, 1, none⟩ = some (.int .i64 okey)) (by kernel_rfl) ⟨by have := (H.out.same KO).s0 s hs; rwa [ET.out] at this, KO.cell o1 id⟩ (fun hHeld => ?_)
   refine tk 0 (v := ?qvu447) ?qyu447 ?qru447; case qyu447 => ((intro w hSw; (try dsimp only at hSw); go_simp); try (with_reducible rfl))
   (try simp only [tA, tS, tZ, Act.put, uA, uS, uZ])
   refine tk 1 (v := ?qvu448) ?qyu448 ?qru448; case qyu448 => ((intro w hSw; (try dsimp only at hSw); go_simp); try (with_reducible rfl))
   (try simp only [tA, tS, tZ, Act.put, uA, uS, uZ])
   refine tk 2 (v := ?qvu449) ?qyu449 ?qru449; case qyu449 => ((intro w hSw; (try dsimp only at hSw); go_simp); try (with_reducible rfl))
   (try simp only [tA, tS, tZ, Act.put, uA, uS, uZ])
   refine tk 3 (v := ?qvu450) ?qyu450 ?qru450; case qyu450 => ((intro w hSw; (try dsimp only at hSw); go_simp); try (with_reducible rfl))
   (try simp only [tA, tS, tZ, Act.put, uA, uS, uZ])
   refine tk 4 (v := ?qvu451) ?qyu451 ?qru451; case qyu451 => ((intro w hSw; (try dsimp only at hSw); go_simp); try (with_reducible rfl))
   (try simp only [tA, tS, tZ, Act.put, uA, uS, uZ])
   refine tk 5 (v := ?qvu452) ?qyu452 ?qru452; case qyu452 => ((intro w hSw; (try dsimp only at hSw); go_simp); try (with_reducible rfl))
   (try simp only [tA, tS, tZ, Act.put, uA, uS, uZ])
   refine tk 6 (v := ?qvu453) ?qyu453 ?qru453; case qyu453 => ((intro w hSw; (try dsimp only at hSw); go_simp); try (with_reducible rfl))
   (try simp only [tA, tS, tZ, Act.put, uA, uS, uZ])
   refine wpAnyH_ready (rs := [7]) (by kernel_rfl) (by simp) ?_
   refine AllReadyH.cons rfl (fun K hK => ?_) AllReadyH.nil
   go_simp
   refine (HOW.out _ KO).mono ?_
   rintro e w7 ⟨rfl, k7'⟩
   refine hK.out _ _ ⟨k7'.cell hHeld.1 id, k7'.cell hHeld.2 id⟩ (fun hHeld => ?_)
   clear hK K
   (try simp only [tA, tS, tZ, Act.put, uA, uS, uZ])
   refine tk 8 (v := ?qvu454) ?qyu454 ?qru454; case qyu454 => ((intro w hSw; (try dsimp only at hSw); go_simp); try (with_reducible rfl))
   (try simp only [tA, tS, tZ, Act.put, uA, uS, uZ])
   refine wpAnyH_done (by kernel_rfl) ?_ _
   have K7 := KO.trans k7'
   clear hHeld
   have c0 := (H.out.same K7).c0
   have c2 := (H.out.same K7).c2
   rw [EVV.out] at c2
   have z0 := K7.cell o0 id
   have di : idxV none = -1 := rfl
   go_wp2_with fail
   refine wp_region_held_drew (S := fun w' => w'.cell? ⟨M, 0, none⟩ = some (.int .i64 ok) ∧ w'.cell? ⟨m, 2, none⟩ = some (.slice Av nv cv) ∧ w'.cell? ⟨m, 0, none⟩ = some (.int .i64 x.slots)) (by kernel_rfl) ⟨z0, c2, c0⟩ (fun hHeld => ?_)
   refine tk 0 (v := ?qvu455) ?qyu455 ?qru455; case qyu455 => ((intro w hSw; (try dsimp only at hSw); go_simp); try (with_reducible rfl))
   (try simp only [tA, tS, tZ, Act.put, uA, uS, uZ])
   refine tk 1 (v := ?qvu456) ?qyu456 ?qru456; case qyu456 => ((intro w hSw; (try dsimp only at hSw); go_simp); try (with_reducible rfl))
   (try simp only [tA, tS, tZ, Act.put, uA, uS, uZ])
   refine tk 2 (v := ?qvu457) ?qyu457 ?qru457; case qyu457 => ((intro w hSw; (try dsimp only at hSw); go_simp); try (with_reducible rfl))
   (try simp only [tA, tS, tZ, Act.put, uA, uS, uZ])
   refine tk 3 (v := ?qvu458) ?qyu458 ?qru458; case qyu458 => ((intro w hSw; (try dsimp only at hSw); go_simp); try (with_reducible rfl))
   (try simp only [tA, tS, tZ, Act.put, uA, uS, uZ])
   refine tk 4 (v := ?qvu459) ?qyu459 ?qru459; case qyu459 => ((intro w hSw; (try dsimp only at hSw); go_simp); try (with_reducible rfl))
   (try simp only [tA, tS, tZ, Act.put, uA, uS, uZ])
   refine tk 5 (v := ?qvu460) ?qyu460 ?qru460; case qyu460 => ((intro w hSw; (try dsimp only at hSw); go_simp); try (with_reducible rfl))
   (try simp only [tA, tS, tZ, Act.put, uA, uS, uZ])
   refine tk 6 (v := ?qvu461) ?qyu461 ?qru461; case qyu461 => ((intro w hSw; (try dsimp only at hSw); go_simp); try (with_reducible rfl))
   (try simp only [tA, tS, tZ, Act.put, uA, uS, uZ])
   refine tk 7 (v := ?qvu462) ?qyu462 ?qru462; case qyu462 => ((intro w hSw; (try dsimp only at hSw); go_simp); try (with_reducible rfl))
   (try simp only [tA, tS, tZ, Act.put, uA, uS, uZ])
   refine tk 8 (v := ?qvu463) ?qyu463 ?qru463; case qyu463 => ((intro w hSw; (try dsimp only at hSw); go_simp); try (with_reducible rfl))
   (try simp only [tA, tS, tZ, Act.put, uA, uS, uZ])
   refine tk 9 (v := ?qvu464) ?qyu464 ?qru464; case qyu464 => ((intro w hSw; (try dsimp only at hSw); go_simp); try (with_reducible rfl))
   (try simp only [tA, tS, tZ, Act.put, uA, uS, uZ])
   refine tk 10 (v := ?qvu465) ?qyu465 ?qru465; case qyu465 => ((intro w hSw; (try dsimp only at hSw); go_simp); try (with_reducible rfl))
   (try simp only [tA, tS, tZ, Act.put, uA, uS, uZ])
   refine tk 11 (v := ?qvu466) ?qyu466 ?qru466; case qyu466 => ((intro w hSw; (try dsimp only at hSw); go_simp); try (with_reducible rfl))
   (try simp only [tA, tS, tZ, Act.put, uA, uS, uZ])
   refine tk 12 (v := ?qvu467) ?qyu467 ?qru467; case qyu467 => ((intro w hSw; (try dsimp only at hSw); go_simp); try (with_reducible rfl))
   (try simp only [tA, tS, tZ, Act.put, uA, uS, uZ])
   refine tk 13 (v := ?qvu468) ?qyu468 ?qru468; case qyu468 => ((intro w hSw; (try dsimp only at hSw); go_simp); try (with_reducible rfl))
   (try simp only [tA, tS, tZ, Act.put, uA, uS, uZ])
   refine tk 14 (v := ?qvu469) ?qyu469 ?qru469; case qyu469 => ((intro w hSw; (try dsimp only at hSw); go_simp); try (with_reducible rfl))
   (try simp only [tA, tS, tZ, Act.put, uA, uS, uZ])
   refine tk 15 (v := ?qvu470) ?qyu470 ?qru470; case qyu470 => ((intro w hSw; (try dsimp only at hSw); go_simp); try (with_reducible rfl))
   (try simp only [tA, tS, tZ, Act.put, uA, uS, uZ])
   refine tk 16 (v := ?qvu471) ?qyu471 ?qru471; case qyu471 => ((intro w hSw; (try dsimp only at hSw); go_simp); try (with_reducible rfl))
   (try simp only [tA, tS, tZ, Act.put, uA, uS, uZ])
   refine tk 17 (v := ?qvu472) ?qyu472 ?qru472; case qyu472 => ((intro w hSw; (try dsimp only at hSw); go_simp); try (with_reducible rfl))
   (try simp only [tA, tS, tZ, Act.put, uA, uS, uZ])
   refine tk 18 (v := ?qvu473) ?qyu473 ?qru473; case qyu473 => ((intro w hSw; (try dsimp only at hSw); go_simp); try (with_reducible rfl))
   (try simp only [tA, tS, tZ, Act.put, uA, uS, uZ])
   refine tk 19 (v := ?qvu474) ?qyu474 ?qru474; case qyu474 => ((intro w hSw; (try dsimp only at hSw); go_simp); try (with_reducible rfl))
   (try simp only [tA, tS, tZ, Act.put, uA, uS, uZ])
   refine wpAnyH_done (by kernel_rfl) ?_ _
   have K8 : Keep (fun _ => False) W w7.drew := K7.drew
   clear hHeld
   go_wp2_with fail
   refine (HO.out w7.drew K8).mono ?_
   rintro e wa ⟨rfl, hto⟩
   have R6 := Lib.hid ((RB.out.keep K8 id).keep hto.keeps FN.out)
   obtain ⟨q0, q1, q2, q3, q4, q5⟩ := R6.out
   have TO := Lib.hid hto
   have KK := Lib.hid K8
   unfold reV
   clear hto HO K8 K7
   go_wp2
   (obtain ⟨W7, eW7⟩ : ∃ W7, (((((wa.setCell ⟨N, 0, none⟩ (.int .i64 14)).setCell ⟨N, 1, none⟩ (.int .i64 0)).setCell ⟨N, 2, none⟩ (.slice none 0 0)).setCell ⟨N, 3, none⟩ (.int .i64 4)).setCell ⟨N, 4, none⟩ (.int .i64 5)) = W7 := ⟨_, rfl⟩; obtain ⟨⟨v0, v1, v2, v3, v4, _⟩, k7⟩ := res_set R6.out _ _ _ _ _ eW7; rw [eW7]; refine bodyPost_ret (v := .agg #[.int .i64 14, .int .i64 0, .slice none 0 0, .int .i64 4, .int .i64 5]) (by simp [results, Try.results65, go_sem, v0, v1, v2, v3, v4]) rfl ⟨rfl, ?_⟩)
   exact (TO.out.front KK.out).fin KW.out (by have := EM.out; have := HMN.out; omega) hNW FN.out k7
  ·have s0 := H4.out.s0 s hs
   have s1 := H4.out.s1 s hs
   have s2 := H4.out.s2 s hs
   have s3 := H4.out.s3 s hs
   have s4 := H4.out.s4 s hs
   have s5 := H4.out.s5 s hs
   rw [ET.out] at s0 s1 s2 s3
   rw [E4.out] at s4
   rw [E5.out] at s5
   go_wp2_with fail
   refine wp_region_held_drew (S := fun w' => w'.cell? ⟨m, 3 + s * 6, none⟩ = some (.int .i64 t.id) ∧ w'.cell? ⟨m, 3 + s * 6 + 1, none⟩ = some (.int .i64 t.level) ∧ w'.cell? ⟨m, 3 + s * 6 + 2, none⟩ = some (.int .i64 t.ops) ∧ w'.cell? ⟨m, 3 + s * 6 + 3, none⟩ = some (.int .u64 t.start) ∧ w'.cell? ⟨m, 3 + s * 6 + 4, none⟩ = some (.slice A4 n4 c4) ∧ w'.cell? ⟨m, 3 + s * 6 + 5, none⟩ = some (.slice A5 n5 c5) ∧ w'.cell? ⟨M, 1, none⟩ = some (.int .i64 okey)) (by kernel_rfl) ⟨s0, s1, s2, s3, s4, s5, p1⟩ (fun hHeld => ?_)
   refine tk 0 (v := ?qvu475) ?qyu475 ?qru475; case qyu475 => ((intro w hSw; (try dsimp only at hSw); go_simp); try (with_reducible rfl))
   (try simp only [tA, tS, tZ, Act.put, uA, uS, uZ])
   refine tk 1 (v := ?qvu476) ?qyu476 ?qru476; case qyu476 => ((intro w hSw; (try dsimp only at hSw); go_simp); try (with_reducible rfl))
   (try simp only [tA, tS, tZ, Act.put, uA, uS, uZ])
   refine tk 2 (v := ?qvu477) ?qyu477 ?qru477; case qyu477 => ((intro w hSw; (try dsimp only at hSw); go_simp); try (with_reducible rfl))
   (try simp only [tA, tS, tZ, Act.put, uA, uS, uZ])
   refine tk 3 (v := ?qvu478) ?qyu478 ?qru478; case qyu478 => ((intro w hSw; (try dsimp only at hSw); go_simp); try (with_reducible rfl))
   (try simp only [tA, tS, tZ, Act.put, uA, uS, uZ])
   refine tk 4 (v := ?qvu479) ?qyu479 ?qru479; case qyu479 => ((intro w hSw; (try dsimp only at hSw); go_simp); try (with_reducible rfl))
   (try simp only [tA, tS, tZ, Act.put, uA, uS, uZ])
   refine tk 5 (v := ?qvu480) ?qyu480 ?qru480; case qyu480 => ((intro w hSw; (try dsimp only at hSw); go_simp); try (with_reducible rfl))
   (try simp only [tA, tS, tZ, Act.put, uA, uS, uZ])
   refine tk 6 (v := ?qvu481) ?qyu481 ?qru481; case qyu481 => ((intro w hSw; (try dsimp only at hSw); go_simp); try (with_reducible rfl))
   (try simp only [tA, tS, tZ, Act.put, uA, uS, uZ])
   refine tk 7 (v := ?qvu482) ?qyu482 ?qru482; case qyu482 => ((intro w hSw; (try dsimp only at hSw); go_simp); try (with_reducible rfl))
   (try simp only [tA, tS, tZ, Act.put, uA, uS, uZ])
   refine tk 8 (v := ?qvu483) ?qyu483 ?qru483; case qyu483 => ((intro w hSw; (try dsimp only at hSw); go_simp); try (with_reducible rfl))
   (try simp only [tA, tS, tZ, Act.put, uA, uS, uZ])
   refine wpAnyH_ready (rs := [9]) (by kernel_rfl) (by simp) ?_
   refine AllReadyH.cons rfl (fun K hK => ?_) AllReadyH.nil
   go_simp
   refine (HT.out _ (K4.drew)).mono ?_
   rintro e w5 ⟨rfl, k5⟩
   refine hK.out _ _ ⟨k5.cell hHeld.1 id, k5.cell hHeld.2.1 id, k5.cell hHeld.2.2.1 id, k5.cell hHeld.2.2.2.1 id, k5.cell hHeld.2.2.2.2.1 id, k5.cell hHeld.2.2.2.2.2.1 id, k5.cell hHeld.2.2.2.2.2.2 id⟩ (fun hHeld => ?_)
   clear hK K
   (try simp only [tA, tS, tZ, Act.put, uA, uS, uZ])
   refine tk 10 (v := ?qvu484) ?qyu484 ?qru484; case qyu484 => ((intro w hSw; (try dsimp only at hSw); go_simp); try (with_reducible rfl))
   (try simp only [tA, tS, tZ, Act.put, uA, uS, uZ])
   refine wpAnyH_done (by kernel_rfl) ?_ _
   have K5 := (K4.drew).trans k5
   clear hHeld
   go_wp2_with fail
   have KO : Keep (fun _ => False) W w5.drew := K5.drew
   refine wp_region_held_drew (S := fun w' => w'.cell? ⟨m, 3 + s * 6, none⟩ = some (.int .i64 t.id) ∧ w'.cell? ⟨M, 1, none⟩ = some (.int .i64 okey)) (by kernel_rfl) ⟨by have := (H.out.same KO).s0 s hs; rwa [ET.out] at this, KO.cell o1 id⟩ (fun hHeld => ?_)
   refine tk 0 (v := ?qvu485) ?qyu485 ?qru485; case qyu485 => ((intro w hSw; (try dsimp only at hSw); go_simp); try (with_reducible rfl))
   (try simp only [tA, tS, tZ, Act.put, uA, uS, uZ])
   refine tk 1 (v := ?qvu486) ?qyu486 ?qru486; case qyu486 => ((intro w hSw; (try dsimp only at hSw); go_simp); try (with_reducible rfl))
   (try simp only [tA, tS, tZ, Act.put, uA, uS, uZ])
   refine tk 2 (v := ?qvu487) ?qyu487 ?qru487; case qyu487 => ((intro w hSw; (try dsimp only at hSw); go_simp); try (with_reducible rfl))
   (try simp only [tA, tS, tZ, Act.put, uA, uS, uZ])
   refine tk 3 (v := ?qvu488) ?qyu488 ?qru488; case qyu488 => ((intro w hSw; (try dsimp only at hSw); go_simp); try (with_reducible rfl))
   (try simp only [tA, tS, tZ, Act.put, uA, uS, uZ])
   refine tk 4 (v := ?qvu489) ?qyu489 ?qru489; case qyu489 => ((intro w hSw; (try dsimp only at hSw); go_simp); try (with_reducible rfl))
   (try simp only [tA, tS, tZ, Act.put, uA, uS, uZ])
   refine tk 5 (v := ?qvu490) ?qyu490 ?qru490; case qyu490 => ((intro w hSw; (try dsimp only at hSw); go_simp); try (with_reducible rfl))
   (try simp only [tA, tS, tZ, Act.put, uA, uS, uZ])
   refine tk 6 (v := ?qvu491) ?qyu491 ?qru491; case qyu491 => ((intro w hSw; (try dsimp only at hSw); go_simp); try (with_reducible rfl))
   (try simp only [tA, tS, tZ, Act.put, uA, uS, uZ])
   refine wpAnyH_ready (rs := [7]) (by kernel_rfl) (by simp) ?_
   refine AllReadyH.cons rfl (fun K hK => ?_) AllReadyH.nil
   go_simp
   refine (HOW.out _ KO).mono ?_
   rintro e w7 ⟨rfl, k7'⟩
   refine hK.out _ _ ⟨k7'.cell hHeld.1 id, k7'.cell hHeld.2 id⟩ (fun hHeld => ?_)
   clear hK K
   (try simp only [tA, tS, tZ, Act.put, uA, uS, uZ])
   refine tk 8 (v := ?qvu492) ?qyu492 ?qru492; case qyu492 => ((intro w hSw; (try dsimp only at hSw); go_simp); try (with_reducible rfl))
   (try simp only [tA, tS, tZ, Act.put, uA, uS, uZ])
   refine wpAnyH_done (by kernel_rfl) ?_ _
   have K7 := KO.trans k7'
   clear hHeld
   have c0 := (H.out.same K7).c0
   have c2 := (H.out.same K7).c2
   rw [EVV.out] at c2
   have z0 := K7.cell o0 id
   have di : idxV none = -1 := rfl
   go_wp2_with fail
   refine wp_region_held_drew (S := fun w' => w'.cell? ⟨M, 0, none⟩ = some (.int .i64 ok) ∧ w'.cell? ⟨m, 2, none⟩ = some (.slice Av nv cv) ∧ w'.cell? ⟨m, 0, none⟩ = some (.int .i64 x.slots)) (by kernel_rfl) ⟨z0, c2, c0⟩ (fun hHeld => ?_)
   refine tk 0 (v := ?qvu493) ?qyu493 ?qru493; case qyu493 => ((intro w hSw; (try dsimp only at hSw); go_simp); try (with_reducible rfl))
   (try simp only [tA, tS, tZ, Act.put, uA, uS, uZ])
   refine tk 1 (v := ?qvu494) ?qyu494 ?qru494; case qyu494 => ((intro w hSw; (try dsimp only at hSw); go_simp); try (with_reducible rfl))
   (try simp only [tA, tS, tZ, Act.put, uA, uS, uZ])
   refine tk 2 (v := ?qvu495) ?qyu495 ?qru495; case qyu495 => ((intro w hSw; (try dsimp only at hSw); go_simp); try (with_reducible rfl))
   (try simp only [tA, tS, tZ, Act.put, uA, uS, uZ])
   refine tk 3 (v := ?qvu496) ?qyu496 ?qru496; case qyu496 => ((intro w hSw; (try dsimp only at hSw); go_simp); try (with_reducible rfl))
   (try simp only [tA, tS, tZ, Act.put, uA, uS, uZ])
   refine tk 4 (v := ?qvu497) ?qyu497 ?qru497; case qyu497 => ((intro w hSw; (try dsimp only at hSw); go_simp); try (with_reducible rfl))
   (try simp only [tA, tS, tZ, Act.put, uA, uS, uZ])
   refine tk 5 (v := ?qvu498) ?qyu498 ?qru498; case qyu498 => ((intro w hSw; (try dsimp only at hSw); go_simp); try (with_reducible rfl))
   (try simp only [tA, tS, tZ, Act.put, uA, uS, uZ])
   refine tk 6 (v := ?qvu499) ?qyu499 ?qru499; case qyu499 => ((intro w hSw; (try dsimp only at hSw); go_simp); try (with_reducible rfl))
   (try simp only [tA, tS, tZ, Act.put, uA, uS, uZ])
   refine tk 7 (v := ?qvu500) ?qyu500 ?qru500; case qyu500 => ((intro w hSw; (try dsimp only at hSw); go_simp); try (with_reducible rfl))
   (try simp only [tA, tS, tZ, Act.put, uA, uS, uZ])
   refine tk 8 (v := ?qvu501) ?qyu501 ?qru501; case qyu501 => ((intro w hSw; (try dsimp only at hSw); go_simp); try (with_reducible rfl))
   (try simp only [tA, tS, tZ, Act.put, uA, uS, uZ])
   refine tk 9 (v := ?qvu502) ?qyu502 ?qru502; case qyu502 => ((intro w hSw; (try dsimp only at hSw); go_simp); try (with_reducible rfl))
   (try simp only [tA, tS, tZ, Act.put, uA, uS, uZ])
   refine tk 10 (v := ?qvu503) ?qyu503 ?qru503; case qyu503 => ((intro w hSw; (try dsimp only at hSw); go_simp); try (with_reducible rfl))
   (try simp only [tA, tS, tZ, Act.put, uA, uS, uZ])
   refine tk 11 (v := ?qvu504) ?qyu504 ?qru504; case qyu504 => ((intro w hSw; (try dsimp only at hSw); go_simp); try (with_reducible rfl))
   (try simp only [tA, tS, tZ, Act.put, uA, uS, uZ])
   refine tk 12 (v := ?qvu505) ?qyu505 ?qru505; case qyu505 => ((intro w hSw; (try dsimp only at hSw); go_simp); try (with_reducible rfl))
   (try simp only [tA, tS, tZ, Act.put, uA, uS, uZ])
   refine tk 13 (v := ?qvu506) ?qyu506 ?qru506; case qyu506 => ((intro w hSw; (try dsimp only at hSw); go_simp); try (with_reducible rfl))
   (try simp only [tA, tS, tZ, Act.put, uA, uS, uZ])
   refine tk 14 (v := ?qvu507) ?qyu507 ?qru507; case qyu507 => ((intro w hSw; (try dsimp only at hSw); go_simp); try (with_reducible rfl))
   (try simp only [tA, tS, tZ, Act.put, uA, uS, uZ])
   refine tk 15 (v := ?qvu508) ?qyu508 ?qru508; case qyu508 => ((intro w hSw; (try dsimp only at hSw); go_simp); try (with_reducible rfl))
   (try simp only [tA, tS, tZ, Act.put, uA, uS, uZ])
   refine tk 16 (v := ?qvu509) ?qyu509 ?qru509; case qyu509 => ((intro w hSw; (try dsimp only at hSw); go_simp); try (with_reducible rfl))
   (try simp only [tA, tS, tZ, Act.put, uA, uS, uZ])
   refine tk 17 (v := ?qvu510) ?qyu510 ?qru510; case qyu510 => ((intro w hSw; (try dsimp only at hSw); go_simp); try (with_reducible rfl))
   (try simp only [tA, tS, tZ, Act.put, uA, uS, uZ])
   refine tk 18 (v := ?qvu511) ?qyu511 ?qru511; case qyu511 => ((intro w hSw; (try dsimp only at hSw); go_simp); try (with_reducible rfl))
   (try simp only [tA, tS, tZ, Act.put, uA, uS, uZ])
   refine tk 19 (v := ?qvu512) ?qyu512 ?qru512; case qyu512 => ((intro w hSw; (try dsimp only at hSw); go_simp); try (with_reducible rfl))
   (try simp only [tA, tS, tZ, Act.put, uA, uS, uZ])
   refine wpAnyH_done (by kernel_rfl) ?_ _
   have K8 : Keep (fun _ => False) W w7.drew := K7.drew
   clear hHeld
   go_wp2_with fail
   refine (HO.out w7.drew K8).mono ?_
   rintro e wa ⟨rfl, hto⟩
   have R6 := Lib.hid ((RB.out.keep K8 id).keep hto.keeps FN.out)
   obtain ⟨q0, q1, q2, q3, q4, q5⟩ := R6.out
   have TO := Lib.hid hto
   have KK := Lib.hid K8
   unfold reV
   clear hto HO K8 K7
   go_wp2
   (obtain ⟨W7, eW7⟩ : ∃ W7, (((((wa.setCell ⟨N, 0, none⟩ (.int .i64 14)).setCell ⟨N, 1, none⟩ (.int .i64 0)).setCell ⟨N, 2, none⟩ (.slice none 0 0)).setCell ⟨N, 3, none⟩ (.int .i64 4)).setCell ⟨N, 4, none⟩ (.int .i64 5)) = W7 := ⟨_, rfl⟩; obtain ⟨⟨v0, v1, v2, v3, v4, _⟩, k7⟩ := res_set R6.out _ _ _ _ _ eW7; rw [eW7]; refine bodyPost_ret (v := .agg #[.int .i64 14, .int .i64 0, .slice none 0 0, .int .i64 4, .int .i64 5]) (by simp [results, Try.results65, go_sem, v0, v1, v2, v3, v4]) rfl ⟨rfl, ?_⟩)
   exact (TO.out.front KK.out).fin KW.out (by have := EM.out; have := HMN.out; omega) hNW FN.out k7
 ·rcases hb with ⟨rfl, rfl⟩ | ⟨rfl, rfl⟩
  ·have s0 := H4.out.s0 s hs
   have s1 := H4.out.s1 s hs
   have s2 := H4.out.s2 s hs
   have s3 := H4.out.s3 s hs
   have s4 := H4.out.s4 s hs
   have s5 := H4.out.s5 s hs
   rw [ET.out] at s0 s1 s2 s3
   rw [E4.out] at s4
   rw [E5.out] at s5
   go_wp2_with fail
   refine wp_region_held_drew (S := fun w' => w'.cell? ⟨m, 3 + s * 6, none⟩ = some (.int .i64 t.id) ∧ w'.cell? ⟨m, 3 + s * 6 + 1, none⟩ = some (.int .i64 t.level) ∧ w'.cell? ⟨m, 3 + s * 6 + 2, none⟩ = some (.int .i64 t.ops) ∧ w'.cell? ⟨m, 3 + s * 6 + 3, none⟩ = some (.int .u64 t.start) ∧ w'.cell? ⟨m, 3 + s * 6 + 4, none⟩ = some (.slice A4 n4 c4) ∧ w'.cell? ⟨m, 3 + s * 6 + 5, none⟩ = some (.slice A5 n5 c5) ∧ w'.cell? ⟨M, 1, none⟩ = some (.int .i64 okey)) (by kernel_rfl) ⟨s0, s1, s2, s3, s4, s5, p1⟩ (fun hHeld => ?_)
   refine tk 0 (v := ?qvu513) ?qyu513 ?qru513; case qyu513 => ((intro w hSw; (try dsimp only at hSw); go_simp); try (with_reducible rfl))
   (try simp only [tA, tS, tZ, Act.put, uA, uS, uZ])
   refine tk 1 (v := ?qvu514) ?qyu514 ?qru514; case qyu514 => ((intro w hSw; (try dsimp only at hSw); go_simp); try (with_reducible rfl))
   (try simp only [tA, tS, tZ, Act.put, uA, uS, uZ])
   refine tk 2 (v := ?qvu515) ?qyu515 ?qru515; case qyu515 => ((intro w hSw; (try dsimp only at hSw); go_simp); try (with_reducible rfl))
   (try simp only [tA, tS, tZ, Act.put, uA, uS, uZ])
   refine wpAnyH_take (i := 3) (v := undef) rfl (by kernel_rfl) (by kernel_rfl) (by kernel_rfl) (fun _ _ _ h => h) (Or.inr ⟨by rfl, rfl⟩) (by assumption) ?qru516
   (try simp only [tA, tS, tZ, Act.put, uA, uS, uZ])
   refine wpAnyH_take (i := 4) (v := undef) rfl (by kernel_rfl) (by kernel_rfl) (by kernel_rfl) (fun _ _ _ h => h) (Or.inr ⟨by rfl, rfl⟩) (by assumption) ?qru517
   (try simp only [tA, tS, tZ, Act.put, uA, uS, uZ])
   refine wpAnyH_take (i := 5) (v := undef) rfl (by kernel_rfl) (by kernel_rfl) (by kernel_rfl) (fun _ _ _ h => h) (Or.inr ⟨by rfl, rfl⟩) (by assumption) ?qru518
   (try simp only [tA, tS, tZ, Act.put, uA, uS, uZ])
   refine wpAnyH_take (i := 6) (v := undef) rfl (by kernel_rfl) (by kernel_rfl) (by kernel_rfl) (fun _ _ _ h => h) (Or.inr ⟨by rfl, rfl⟩) (by assumption) ?qru519
   (try simp only [tA, tS, tZ, Act.put, uA, uS, uZ])
   refine wpAnyH_take (i := 7) (v := undef) rfl (by kernel_rfl) (by kernel_rfl) (by kernel_rfl) (fun _ _ _ h => h) (Or.inr ⟨by rfl, rfl⟩) (by assumption) ?qru520
   (try simp only [tA, tS, tZ, Act.put, uA, uS, uZ])
   refine wpAnyH_take (i := 8) (v := undef) rfl (by kernel_rfl) (by kernel_rfl) (by kernel_rfl) (fun _ _ _ h => h) (Or.inr ⟨by rfl, rfl⟩) (by assumption) ?qru521
   (try simp only [tA, tS, tZ, Act.put, uA, uS, uZ])
   refine wpAnyH_take (i := 9) (v := undef) rfl (by kernel_rfl) (by kernel_rfl) (by kernel_rfl) (fun _ _ _ h => h) (Or.inr ⟨by rfl, rfl⟩) (by assumption) ?qru522
   (try simp only [tA, tS, tZ, Act.put, uA, uS, uZ])
   refine tk 10 (v := ?qvu523) ?qyu523 ?qru523; case qyu523 => ((intro w hSw; (try dsimp only at hSw); go_simp); try (with_reducible rfl))
   (try simp only [tA, tS, tZ, Act.put, uA, uS, uZ])
   refine wpAnyH_done (by kernel_rfl) ?_ _
   obtain ⟨w5, ew5⟩ : ∃ w5, wq.drew = w5 := ⟨_, rfl⟩
   have K5 : Keep (fun _ => False) W w5 := by rw [← ew5]; exact K4.drew
   rw [ew5]
   clear ew5
   clear hHeld
   go_wp2_with fail
   have KO : Keep (fun _ => False) W w5.drew := K5.drew
   refine wp_region_held_drew (S := fun w' => w'.cell? ⟨m, 3 + s * 6, none⟩ = some (.int .i64 t.id) ∧ w'.cell? ⟨M, 1, none⟩ = some (.int .i64 okey)) (by kernel_rfl) ⟨by have := (H.out.same KO).s0 s hs; rwa [ET.out] at this, KO.cell o1 id⟩ (fun hHeld => ?_)
   refine tk 0 (v := ?qvu524) ?qyu524 ?qru524; case qyu524 => ((intro w hSw; (try dsimp only at hSw); go_simp); try (with_reducible rfl))
   (try simp only [tA, tS, tZ, Act.put, uA, uS, uZ])
   refine tk 1 (v := ?qvu525) ?qyu525 ?qru525; case qyu525 => ((intro w hSw; (try dsimp only at hSw); go_simp); try (with_reducible rfl))
   (try simp only [tA, tS, tZ, Act.put, uA, uS, uZ])
   refine tk 2 (v := ?qvu526) ?qyu526 ?qru526; case qyu526 => ((intro w hSw; (try dsimp only at hSw); go_simp); try (with_reducible rfl))
   (try simp only [tA, tS, tZ, Act.put, uA, uS, uZ])
   refine tk 3 (v := ?qvu527) ?qyu527 ?qru527; case qyu527 => ((intro w hSw; (try dsimp only at hSw); go_simp); try (with_reducible rfl))
   (try simp only [tA, tS, tZ, Act.put, uA, uS, uZ])
   refine tk 4 (v := ?qvu528) ?qyu528 ?qru528; case qyu528 => ((intro w hSw; (try dsimp only at hSw); go_simp); try (with_reducible rfl))
   (try simp only [tA, tS, tZ, Act.put, uA, uS, uZ])
   refine tk 5 (v := ?qvu529) ?qyu529 ?qru529; case qyu529 => ((intro w hSw; (try dsimp only at hSw); go_simp); try (with_reducible rfl))
   (try simp only [tA, tS, tZ, Act.put, uA, uS, uZ])
   refine tk 6 (v := ?qvu530) ?qyu530 ?qru530; case qyu530 => ((intro w hSw; (try dsimp only at hSw); go_simp); try (with_reducible rfl))
   (try simp only [tA, tS, tZ, Act.put, uA, uS, uZ])
   refine wpAnyH_ready (rs := [7]) (by kernel_rfl) (by simp) ?_
   refine AllReadyH.cons rfl (fun K hK => ?_) AllReadyH.nil
   go_simp
   refine (HOW.out _ KO).mono ?_
   rintro e w7 ⟨rfl, k7'⟩
   refine hK.out _ _ ⟨k7'.cell hHeld.1 id, k7'.cell hHeld.2 id⟩ (fun hHeld => ?_)
   clear hK K
   (try simp only [tA, tS, tZ, Act.put, uA, uS, uZ])
   refine tk 8 (v := ?qvu531) ?qyu531 ?qru531; case qyu531 => ((intro w hSw; (try dsimp only at hSw); go_simp); try (with_reducible rfl))
   (try simp only [tA, tS, tZ, Act.put, uA, uS, uZ])
   refine wpAnyH_done (by kernel_rfl) ?_ _
   have K7 := KO.trans k7'
   clear hHeld
   have c0 := (H.out.same K7).c0
   have c2 := (H.out.same K7).c2
   rw [EVV.out] at c2
   have z0 := K7.cell o0 id
   have di : idxV none = -1 := rfl
   go_wp2_with fail
   refine wp_region_held_drew (S := fun w' => w'.cell? ⟨M, 0, none⟩ = some (.int .i64 ok) ∧ w'.cell? ⟨m, 2, none⟩ = some (.slice Av nv cv) ∧ w'.cell? ⟨m, 0, none⟩ = some (.int .i64 x.slots)) (by kernel_rfl) ⟨z0, c2, c0⟩ (fun hHeld => ?_)
   refine tk 0 (v := ?qvu532) ?qyu532 ?qru532; case qyu532 => ((intro w hSw; (try dsimp only at hSw); go_simp); try (with_reducible rfl))
   (try simp only [tA, tS, tZ, Act.put, uA, uS, uZ])
   refine tk 1 (v := ?qvu533) ?qyu533 ?qru533; case qyu533 => ((intro w hSw; (try dsimp only at hSw); go_simp); try (with_reducible rfl))
   (try simp only [tA, tS, tZ, Act.put, uA, uS, uZ])
   refine tk 2 (v := ?qvu534) ?qyu534 ?qru534; case qyu534 => ((intro w hSw; (try dsimp only at hSw); go_simp); try (with_reducible rfl))
   (try simp only [tA, tS, tZ, Act.put, uA, uS, uZ])
   refine tk 3 (v := ?qvu535) ?qyu535 ?qru535; case qyu535 => ((intro w hSw; (try dsimp only at hSw); go_simp); try (with_reducible rfl))
   (try simp only [tA, tS, tZ, Act.put, uA, uS, uZ])
   refine tk 4 (v := ?qvu536) ?qyu536 ?qru536; case qyu536 => ((intro w hSw; (try dsimp only at hSw); go_simp); try (with_reducible rfl))
   (try simp only [tA, tS, tZ, Act.put, uA, uS, uZ])
   refine tk 5 (v := ?qvu537) ?qyu537 ?qru537; case qyu537 => ((intro w hSw; (try dsimp only at hSw); go_simp); try (with_reducible rfl))
   (try simp only [tA, tS, tZ, Act.put, uA, uS, uZ])
   refine tk 6 (v := ?qvu538) ?qyu538 ?qru538; case qyu538 => ((intro w hSw; (try dsimp only at hSw); go_simp); try (with_reducible rfl))
   (try simp only [tA, tS, tZ, Act.put, uA, uS, uZ])
   refine tk 7 (v := ?qvu539) ?qyu539 ?qru539; case qyu539 => ((intro w hSw; (try dsimp only at hSw); go_simp); try (with_reducible rfl))
   (try simp only [tA, tS, tZ, Act.put, uA, uS, uZ])
   refine tk 8 (v := ?qvu540) ?qyu540 ?qru540; case qyu540 => ((intro w hSw; (try dsimp only at hSw); go_simp); try (with_reducible rfl))
   (try simp only [tA, tS, tZ, Act.put, uA, uS, uZ])
   refine tk 9 (v := ?qvu541) ?qyu541 ?qru541; case qyu541 => ((intro w hSw; (try dsimp only at hSw); go_simp); try (with_reducible rfl))
   (try simp only [tA, tS, tZ, Act.put, uA, uS, uZ])
   refine tk 10 (v := ?qvu542) ?qyu542 ?qru542; case qyu542 => ((intro w hSw; (try dsimp only at hSw); go_simp); try (with_reducible rfl))
   (try simp only [tA, tS, tZ, Act.put, uA, uS, uZ])
   refine tk 11 (v := ?qvu543) ?qyu543 ?qru543; case qyu543 => ((intro w hSw; (try dsimp only at hSw); go_simp); try (with_reducible rfl))
   (try simp only [tA, tS, tZ, Act.put, uA, uS, uZ])
   refine tk 12 (v := ?qvu544) ?qyu544 ?qru544; case qyu544 => ((intro w hSw; (try dsimp only at hSw); go_simp); try (with_reducible rfl))
   (try simp only [tA, tS, tZ, Act.put, uA, uS, uZ])
   refine tk 13 (v := ?qvu545) ?qyu545 ?qru545; case qyu545 => ((intro w hSw; (try dsimp only at hSw); go_simp); try (with_reducible rfl))
   (try simp only [tA, tS, tZ, Act.put, uA, uS, uZ])
   refine tk 14 (v := ?qvu546) ?qyu546 ?qru546; case qyu546 => ((intro w hSw; (try dsimp only at hSw); go_simp); try (with_reducible rfl))
   (try simp only [tA, tS, tZ, Act.put, uA, uS, uZ])
   refine tk 15 (v := ?qvu547) ?qyu547 ?qru547; case qyu547 => ((intro w hSw; (try dsimp only at hSw); go_simp); try (with_reducible rfl))
   (try simp only [tA, tS, tZ, Act.put, uA, uS, uZ])
   refine tk 16 (v := ?qvu548) ?qyu548 ?qru548; case qyu548 => ((intro w hSw; (try dsimp only at hSw); go_simp); try (with_reducible rfl))
   (try simp only [tA, tS, tZ, Act.put, uA, uS, uZ])
   refine tk 17 (v := ?qvu549) ?qyu549 ?qru549; case qyu549 => ((intro w hSw; (try dsimp only at hSw); go_simp); try (with_reducible rfl))
   (try simp only [tA, tS, tZ, Act.put, uA, uS, uZ])
   refine tk 18 (v := ?qvu550) ?qyu550 ?qru550; case qyu550 => ((intro w hSw; (try dsimp only at hSw); go_simp); try (with_reducible rfl))
   (try simp only [tA, tS, tZ, Act.put, uA, uS, uZ])
   refine tk 19 (v := ?qvu551) ?qyu551 ?qru551; case qyu551 => ((intro w hSw; (try dsimp only at hSw); go_simp); try (with_reducible rfl))
   (try simp only [tA, tS, tZ, Act.put, uA, uS, uZ])
   refine wpAnyH_done (by kernel_rfl) ?_ _
   have K8 : Keep (fun _ => False) W w7.drew := K7.drew
   clear hHeld
   go_wp2_with fail
   refine (HO.out w7.drew K8).mono ?_
   rintro e wa ⟨rfl, hto⟩
   have R6 := Lib.hid ((RB.out.keep K8 id).keep hto.keeps FN.out)
   obtain ⟨q0, q1, q2, q3, q4, q5⟩ := R6.out
   have TO := Lib.hid hto
   have KK := Lib.hid K8
   unfold reV
   clear hto HO K8 K7
   go_wp2
   (obtain ⟨W7, eW7⟩ : ∃ W7, (((((wa.setCell ⟨N, 0, none⟩ (.int .i64 14)).setCell ⟨N, 1, none⟩ (.int .i64 0)).setCell ⟨N, 2, none⟩ (.slice none 0 0)).setCell ⟨N, 3, none⟩ (.int .i64 4)).setCell ⟨N, 4, none⟩ (.int .i64 5)) = W7 := ⟨_, rfl⟩; obtain ⟨⟨v0, v1, v2, v3, v4, _⟩, k7⟩ := res_set R6.out _ _ _ _ _ eW7; rw [eW7]; refine bodyPost_ret (v := .agg #[.int .i64 14, .int .i64 0, .slice none 0 0, .int .i64 4, .int .i64 5]) (by simp [results, Try.results65, go_sem, v0, v1, v2, v3, v4]) rfl ⟨rfl, ?_⟩)
   exact (TO.out.front KK.out).fin KW.out (by have := EM.out; have := HMN.out; omega) hNW FN.out k7

  ·have s0 := H4.out.s0 s hs
   have s1 := H4.out.s1 s hs
   have s2 := H4.out.s2 s hs
   have s3 := H4.out.s3 s hs
   have s4 := H4.out.s4 s hs
   have s5 := H4.out.s5 s hs
   rw [ET.out] at s0 s1 s2 s3
   rw [E4.out] at s4
   rw [E5.out] at s5
   go_wp2_with fail
   refine wp_region_held_drew (S := fun w' => w'.cell? ⟨m, 3 + s * 6, none⟩ = some (.int .i64 t.id) ∧ w'.cell? ⟨m, 3 + s * 6 + 1, none⟩ = some (.int .i64 t.level) ∧ w'.cell? ⟨m, 3 + s * 6 + 2, none⟩ = some (.int .i64 t.ops) ∧ w'.cell? ⟨m, 3 + s * 6 + 3, none⟩ = some (.int .u64 t.start) ∧ w'.cell? ⟨m, 3 + s * 6 + 4, none⟩ = some (.slice A4 n4 c4) ∧ w'.cell? ⟨m, 3 + s * 6 + 5, none⟩ = some (.slice A5 n5 c5) ∧ w'.cell? ⟨M, 1, none⟩ = some (.int .i64 okey)) (by kernel_rfl) ⟨s0, s1, s2, s3, s4, s5, p1⟩ (fun hHeld => ?_)
   refine tk 0 (v := ?qvu552) ?qyu552 ?qru552; case qyu552 => ((intro w hSw; (try dsimp only at hSw); go_simp); try (with_reducible rfl))
   (try simp only [tA, tS, tZ, Act.put, uA, uS, uZ])
   refine tk 1 (v := ?qvu553) ?qyu553 ?qru553; case qyu553 => ((intro w hSw; (try dsimp only at hSw); go_simp); try (with_reducible rfl))
   (try simp only [tA, tS, tZ, Act.put, uA, uS, uZ])
   refine tk 2 (v := ?qvu554) ?qyu554 ?qru554; case qyu554 => ((intro w hSw; (try dsimp only at hSw); go_simp); try (with_reducible rfl))
   (try simp only [tA, tS, tZ, Act.put, uA, uS, uZ])
   refine wpAnyH_take (i := 3) (v := undef) rfl (by kernel_rfl) (by kernel_rfl) (by kernel_rfl) (fun _ _ _ h => h) (Or.inr ⟨by rfl, rfl⟩) (by assumption) ?qru555
   (try simp only [tA, tS, tZ, Act.put, uA, uS, uZ])
   refine wpAnyH_take (i := 4) (v := undef) rfl (by kernel_rfl) (by kernel_rfl) (by kernel_rfl) (fun _ _ _ h => h) (Or.inr ⟨by rfl, rfl⟩) (by assumption) ?qru556
   (try simp only [tA, tS, tZ, Act.put, uA, uS, uZ])
   refine wpAnyH_take (i := 5) (v := undef) rfl (by kernel_rfl) (by kernel_rfl) (by kernel_rfl) (fun _ _ _ h => h) (Or.inr ⟨by rfl, rfl⟩) (by assumption) ?qru557
   (try simp only [tA, tS, tZ, Act.put, uA, uS, uZ])
   refine wpAnyH_take (i := 6) (v := undef) rfl (by kernel_rfl) (by kernel_rfl) (by kernel_rfl) (fun _ _ _ h => h) (Or.inr ⟨by rfl, rfl⟩) (by assumption) ?qru558
   (try simp only [tA, tS, tZ, Act.put, uA, uS, uZ])
   refine wpAnyH_take (i := 7) (v := undef) rfl (by kernel_rfl) (by kernel_rfl) (by kernel_rfl) (fun _ _ _ h => h) (Or.inr ⟨by rfl, rfl⟩) (by assumption) ?qru559
   (try simp only [tA, tS, tZ, Act.put, uA, uS, uZ])
   refine wpAnyH_take (i := 8) (v := undef) rfl (by kernel_rfl) (by kernel_rfl) (by kernel_rfl) (fun _ _ _ h => h) (Or.inr ⟨by rfl, rfl⟩) (by assumption) ?qru560
   (try simp only [tA, tS, tZ, Act.put, uA, uS, uZ])
   refine wpAnyH_take (i := 9) (v := undef) rfl (by kernel_rfl) (by kernel_rfl) (by kernel_rfl) (fun _ _ _ h => h) (Or.inr ⟨by rfl, rfl⟩) (by assumption) ?qru561
   (try simp only [tA, tS, tZ, Act.put, uA, uS, uZ])
   refine tk 10 (v := ?qvu562) ?qyu562 ?qru562; case qyu562 => ((intro w hSw; (try dsimp only at hSw); go_simp); try (with_reducible rfl))
   (try simp only [tA, tS, tZ, Act.put, uA, uS, uZ])
   refine wpAnyH_done (by kernel_rfl) ?_ _
   obtain ⟨w5, ew5⟩ : ∃ w5, wq.drew = w5 := ⟨_, rfl⟩
   have K5 : Keep (fun _ => False) W w5 := by rw [← ew5]; exact K4.drew
   rw [ew5]
   clear ew5
   clear hHeld
   go_wp2_with fail
   have KO : Keep (fun _ => False) W w5.drew := K5.drew
   refine wp_region_held_drew (S := fun w' => w'.cell? ⟨m, 3 + s * 6, none⟩ = some (.int .i64 t.id) ∧ w'.cell? ⟨M, 1, none⟩ = some (.int .i64 okey)) (by kernel_rfl) ⟨by have := (H.out.same KO).s0 s hs; rwa [ET.out] at this, KO.cell o1 id⟩ (fun hHeld => ?_)
   refine tk 0 (v := ?qvu563) ?qyu563 ?qru563; case qyu563 => ((intro w hSw; (try dsimp only at hSw); go_simp); try (with_reducible rfl))
   (try simp only [tA, tS, tZ, Act.put, uA, uS, uZ])
   refine tk 1 (v := ?qvu564) ?qyu564 ?qru564; case qyu564 => ((intro w hSw; (try dsimp only at hSw); go_simp); try (with_reducible rfl))
   (try simp only [tA, tS, tZ, Act.put, uA, uS, uZ])
   refine tk 2 (v := ?qvu565) ?qyu565 ?qru565; case qyu565 => ((intro w hSw; (try dsimp only at hSw); go_simp); try (with_reducible rfl))
   (try simp only [tA, tS, tZ, Act.put, uA, uS, uZ])
   refine tk 3 (v := ?qvu566) ?qyu566 ?qru566; case qyu566 => ((intro w hSw; (try dsimp only at hSw); go_simp); try (with_reducible rfl))
   (try simp only [tA, tS, tZ, Act.put, uA, uS, uZ])
   refine tk 4 (v := ?qvu567) ?qyu567 ?qru567; case qyu567 => ((intro w hSw; (try dsimp only at hSw); go_simp); try (with_reducible rfl))
   (try simp only [tA, tS, tZ, Act.put, uA, uS, uZ])
   refine tk 5 (v := ?qvu568) ?qyu568 ?qru568; case qyu568 => ((intro w hSw; (try dsimp only at hSw); go_simp); try (with_reducible rfl))
   (try simp only [tA, tS, tZ, Act.put, uA, uS, uZ])
   refine tk 6 (v := ?qvu569) ?qyu569 ?qru569; case qyu569 => ((intro w hSw; (try dsimp only at hSw); go_simp); try (with_reducible rfl))
   (try simp only [tA, tS, tZ, Act.put, uA, uS, uZ])
   refine wpAnyH_ready (rs := [7]) (by kernel_rfl) (by simp) ?_
   refine AllReadyH.cons rfl (fun K hK => ?_) AllReadyH.nil
   go_simp
   refine (HOW.out _ KO).mono ?_
   rintro e w7 ⟨rfl, k7'⟩
   refine hK.out _ _ ⟨k7'.cell hHeld.1 id, k7'.cell hHeld.2 id⟩ (fun hHeld => ?_)
   clear hK K
   (try simp only [tA, tS, tZ, Act.put, uA, uS, uZ])
   refine tk 8 (v := ?qvu570) ?qyu570 ?qru570; case qyu570 => ((intro w hSw; (try dsimp only at hSw); go_simp); try (with_reducible rfl))
   (try simp only [tA, tS, tZ, Act.put, uA, uS, uZ])
   refine wpAnyH_done (by kernel_rfl) ?_ _
   have K7 := KO.trans k7'
   clear hHeld
   have c0 := (H.out.same K7).c0
   have c2 := (H.out.same K7).c2
   rw [EVV.out] at c2
   have z0 := K7.cell o0 id
   have di : idxV none = -1 := rfl
   go_wp2_with fail
   refine wp_region_held_drew (S := fun w' => w'.cell? ⟨M, 0, none⟩ = some (.int .i64 ok) ∧ w'.cell? ⟨m, 2, none⟩ = some (.slice Av nv cv) ∧ w'.cell? ⟨m, 0, none⟩ = some (.int .i64 x.slots)) (by kernel_rfl) ⟨z0, c2, c0⟩ (fun hHeld => ?_)
   refine tk 0 (v := ?qvu571) ?qyu571 ?qru571; case qyu571 => ((intro w hSw; (try dsimp only at hSw); go_simp); try (with_reducible rfl))
   (try simp only [tA, tS, tZ, Act.put, uA, uS, uZ])
   refine tk 1 (v := ?qvu572) ?qyu572 ?qru572; case qyu572 => ((intro w hSw; (try dsimp only at hSw); go_simp); try (with_reducible rfl))
   (try simp only [tA, tS, tZ, Act.put, uA, uS, uZ])
   refine tk 2 (v := ?qvu573) ?qyu573 ?qru573; case qyu573 => ((intro w hSw; (try dsimp only at hSw); go_simp); try (with_reducible rfl))
   (try simp only [tA, tS, tZ, Act.put, uA, uS, uZ])
   refine tk 3 (v := ?qvu574) ?qyu574 ?qru574; case qyu574 => ((intro w hSw; (try dsimp only at hSw); go_simp); try (with_reducible rfl))
   (try simp only [tA, tS, tZ, Act.put, uA, uS, uZ])
   refine tk 4 (v := ?qvu575) ?qyu575 ?qru575; case qyu575 => ((intro w hSw; (try dsimp only at hSw); go_simp); try (with_reducible rfl))
   (try simp only [tA, tS, tZ, Act.put, uA, uS, uZ])
   refine tk 5 (v := ?qvu576) ?qyu576 ?qru576; case qyu576 => ((intro w hSw; (try dsimp only at hSw); go_simp); try (with_reducible rfl))
   (try simp only [tA, tS, tZ, Act.put, uA, uS, uZ])
   refine tk 6 (v := ?qvu577) ?qyu577 ?qru577; case qyu577 => ((intro w hSw; (try dsimp only at hSw); go_simp); try (with_reducible rfl))
   (try simp only [tA, tS, tZ, Act.put, uA, uS, uZ])
   refine tk 7 (v := ?qvu578) ?qyu578 ?qru578; case qyu578 => ((intro w hSw; (try dsimp only at hSw); go_simp); try (with_reducible rfl))
   (try simp only [tA, tS, tZ, Act.put, uA, uS, uZ])
   refine tk 8 (v := ?qvu579) ?qyu579 ?qru579; case qyu579 => ((intro w hSw; (try dsimp only at hSw); go_simp); try (with_reducible rfl))
   (try simp only [tA, tS, tZ, Act.put, uA, uS, uZ])
   refine tk 9 (v := ?qvu580) ?qyu580 ?qru580; case qyu580 => ((intro w hSw; (try dsimp only at hSw); go_simp); try (with_reducible rfl))
   (try simp only [tA, tS, tZ, Act.put, uA, uS, uZ])
   refine tk 10 (v := ?qvu581) ?qyu581 ?qru581; case qyu581 => ((intro w hSw; (try dsimp only at hSw); go_simp); try (with_reducible rfl))
   (try simp only [tA, tS, tZ, Act.put, uA, uS, uZ])
   refine tk 11 (v := ?qvu582) ?qyu582 ?qru582; case qyu582 => ((intro w hSw; (try dsimp only at hSw); go_simp); try (with_reducible rfl))
   (try simp only [tA, tS, tZ, Act.put, uA, uS, uZ])
   refine tk 12 (v := ?qvu583) ?qyu583 ?qru583; case qyu583 => ((intro w hSw; (try dsimp only at hSw); go_simp); try (with_reducible rfl))
   (try simp only [tA, tS, tZ, Act.put, uA, uS, uZ])
   refine tk 13 (v := ?qvu584) ?qyu584 ?qru584; case qyu584 => ((intro w hSw; (try dsimp only at hSw); go_simp); try (with_reducible rfl))
   (try simp only [tA, tS, tZ, Act.put, uA, uS, uZ])
   refine tk 14 (v := ?qvu585) ?qyu585 ?qru585; case qyu585 => ((intro w hSw; (try dsimp only at hSw); go_simp); try (with_reducible rfl))
   (try simp only [tA, tS, tZ, Act.put, uA, uS, uZ])
   refine tk 15 (v := ?qvu586) ?qyu586 ?qru586; case qyu586 => ((intro w hSw; (try dsimp only at hSw); go_simp); try (with_reducible rfl))
   (try simp only [tA, tS, tZ, Act.put, uA, uS, uZ])
   refine tk 16 (v := ?qvu587) ?qyu587 ?qru587; case qyu587 => ((intro w hSw; (try dsimp only at hSw); go_simp); try (with_reducible rfl))
   (try simp only [tA, tS, tZ, Act.put, uA, uS, uZ])
   refine tk 17 (v := ?qvu588) ?qyu588 ?qru588; case qyu588 => ((intro w hSw; (try dsimp only at hSw); go_simp); try (with_reducible rfl))
   (try simp only [tA, tS, tZ, Act.put, uA, uS, uZ])
   refine tk 18 (v := ?qvu589) ?qyu589 ?qru589; case qyu589 => ((intro w hSw; (try dsimp only at hSw); go_simp); try (with_reducible rfl))
   (try simp only [tA, tS, tZ, Act.put, uA, uS, uZ])
   refine tk 19 (v := ?qvu590) ?qyu590 ?qru590; case qyu590 => ((intro w hSw; (try dsimp only at hSw); go_simp); try (with_reducible rfl))
   (try simp only [tA, tS, tZ, Act.put, uA, uS, uZ])
   refine wpAnyH_done (by kernel_rfl) ?_ _
   have K8 : Keep (fun _ => False) W w7.drew := K7.drew
   clear hHeld
   go_wp2_with fail
   refine (HO.out w7.drew K8).mono ?_
   rintro e wa ⟨rfl, hto⟩
   have R6 := Lib.hid ((RB.out.keep K8 id).keep hto.keeps FN.out)
   obtain ⟨q0, q1, q2, q3, q4, q5⟩ := R6.out
   have TO := Lib.hid hto
   have KK := Lib.hid K8
   unfold reV
   clear hto HO K8 K7
   go_wp2
   (obtain ⟨W7, eW7⟩ : ∃ W7, (((((wa.setCell ⟨N, 0, none⟩ (.int .i64 14)).setCell ⟨N, 1, none⟩ (.int .i64 0)).setCell ⟨N, 2, none⟩ (.slice none 0 0)).setCell ⟨N, 3, none⟩ (.int .i64 4)).setCell ⟨N, 4, none⟩ (.int .i64 5)) = W7 := ⟨_, rfl⟩; obtain ⟨⟨v0, v1, v2, v3, v4, _⟩, k7⟩ := res_set R6.out _ _ _ _ _ eW7; rw [eW7]; refine bodyPost_ret (v := .agg #[.int .i64 14, .int .i64 0, .slice none 0 0, .int .i64 4, .int .i64 5]) (by simp [results, Try.results65, go_sem, v0, v1, v2, v3, v4]) rfl ⟨rfl, ?_⟩)
   exact (TO.out.front KK.out).fin KW.out (by have := EM.out; have := HMN.out; omega) hNW FN.out k7
end
end Go.Proofs.Ytkkjofefjepodaa
/- The document's own Model, fifteenth part: what writes that go through share. -/
namespace Go.Proofs.Ytkkjofefjepodaa
open Go.ChangeShapes Go.WideShapes Go.ChangeAt Go.RowKit
set_option linter.unusedVariables false
set_option linter.unusedSimpArgs false
/-- 'append(l, x)' of one int, at a step of a region that draws its order. -/
theorem step_pushN {w : World} {ops : Array Oper} {o : Oper} {a : Act} {K : Act → World → Prop} {Q : Exit → Act → World → Prop} {E : Prop} (hgd : o.guard = none) (s x : Operand)
  (ho : o.op = .call { callee := .builtin .append, args := #[s, x], argTypes := #[41, 41] })
  (v : Value) (zs : List Int) (hs : a.eval s = v) (hown : OwnN 0 w v zs) (l : Int) (hx : a.eval x = .slice (some ⟨w.heap.size, 0, none⟩) 1 1) (hl : zs.length ≤ 100000)
  (h : ∀ g c w', OwnN 0 w' (.slice (some ⟨g, 0, none⟩) (zs.length + 1) c) (zs ++ [l]) → Keep (fun j => v.ownBlock = some j) w w' → (v.ownBlock = some g ∨ w.heap.size ≤ g) → K (a.put o.dst (.slice (some ⟨g, 0, none⟩) (zs.length + 1) c)) w') :
  if Region.wanted o (yielded ops a.tmps) = true then Oper.wp Try.prog o a (w.alloc (.cells #[.int .i64 l] 3)) K Q else E := by
 obtain ⟨i0, hi0, hz0, hz1, hz2⟩ := info_parts info_pushN
 refine step_append_lies _ hgd s x 41 ho 0 3 i0 (.int .i64 0) 1 8 Try.underlying41 hi0 hz0 hz1 hz2 rfl (by decide) v zs.length (zs.map (Value.int .i64)) hs (World.ownsRow.alloc hown _) ⟨w.heap.size, 0, none⟩ 1 1 [.int .i64 l] hx rfl (push_liesN w l) (by simp [Value.oneCell']) (by decide) (by unfold maxLen; omega) (by omega) (Nat.zero_le _) (w.heap.size + 1) (by simp) ?_
 intro g c w' o1 gr hg _
 have e : OwnN 0 w' (.slice (some ⟨g, 0, none⟩) (zs.length + 1) c) (zs ++ [l]) := by
  unfold OwnN
  simpa using o1
 have k0 := Keep.alloc (Keep.refl (fun j => v.ownBlock = some j) w) (.cells #[.int .i64 l] 3)
 exact h g c w' e (k0.trans ⟨gr.os, gr.tape, gr.output, gr.size, fun j hj hn => gr.block j hj (fun e => hn e.symm)⟩) (hg.imp_right (by omega))
theorem modify_set {i : Nat} {u : VrI} {g : VrI → VrI} {l : List VrI} (hl : l[i]? = some u) : l.modify i g = l.set i (g u) := by
 apply List.ext_getElem?
 intro q
 rw [List.getElem?_modify, List.getElem?_set]
 have hi := (List.getElem?_eq_some_iff.1 hl).1
 by_cases e : i = q
 ·subst e
  rw [if_pos rfl, if_pos hi, hl]
  simp
 ·simp [e]
section
variable {w w' W : World} {m : Nat} {vv vv' : Value} {sw sr sw' sr' : Nat → Value} {x y : MoI} {T : Nat → Prop}
/-- One more version. -/
theorem RmAt.addV (h : RmAt w m vv sw sr x) {y8 : World} {b : Value} (n : VrI) (k8 : Keep (fun j => vv.ownBlock = some j) w y8) (o8 : OwnRv y8 b (x.v ++ [n])) (hb : ∀ g, b.ownBlock = some g → vv.ownBlock = some g ∨ w.heap.size ≤ g) :
  RmTo w m vv sw sr { x with v := x.v ++ [n] } (y8.setCell ⟨m, 2, none⟩ b) := by
 have ks := keep_one y8 ⟨m, 2, none⟩ b
 have bm : b.ownBlock ≠ some m := fun e => by rcases hb m e with q | q; exact h.vm q; have := h.mlt; omega
 have K : Keep (fun g => g = m ∨ vv.ownBlock = some g) w (y8.setCell ⟨m, 2, none⟩ b) := (k8.mono (fun g e => .inr e)).trans (ks.mono (fun g e => .inl e))
 have RV := h.vs K (fun g e => e) (fun i u ne hu => by rw [World.cell?_setCell_other _ _ _ _ (by first | (simp; done) | (simp; omega))]; exact k8.cell hu h.vm) (World.cell?_setCell_same _ _ _ (k8.cell h.c2 h.vm)) (fun i => by rw [World.frozen?_setCell]; exact (k8.frozen (a := ⟨m, i, none⟩) h.mlt h.vm).trans (h.fz i)) _ (o8.keep ks (fun g hg e => bm (by rw [hg]; exact congrArg some e))) hb
 refine ⟨_, _, _, RV, K.mono (fun g e => by rcases e with e | e; exact .inl e; exact .inr (.inl e)), fun g hg => ?_⟩
 rcases hg with q | q | q
 ·exact .inl (.inl q)
 ·rcases hb g q with q | q
  ·exact .inl (.inr (.inl q))
  ·exact .inr q
 ·exact .inl (.inr (.inr q))
theorem RmTo.then (h : RmTo w m vv sw sr x w') {vv1 : Value} {sw1 sr1 : Nat → Value} (h1 : RmTo w' m vv1 sw1 sr1 y W) (hk : Keep (FootR m vv sw sr) w w') (hf : ∀ g, FootR m vv1 sw1 sr1 g → FootR m vv sw sr g ∨ w.heap.size ≤ g) : RmTo w m vv sw sr y W := by
 obtain ⟨a, b, c, h2, k2, f2⟩ := h1
 refine ⟨a, b, c, h2, hk.onew k2 hf, fun g hg => ?_⟩
 rcases f2 g hg with q | q
 ·exact hf g q
 ·right; have := hk.size; omega
end
end Go.Proofs.Ytkkjofefjepodaa
/- The document's own Model, sixteenth part: an insert of one's own key, a new version. -/
namespace Go.Proofs.Ytkkjofefjepodaa
open Go.ChangeShapes Go.WideShapes Go.ChangeAt Go.RowKit
set_option linter.unusedVariables false
set_option linter.unusedSimpArgs false
section
variable {w w' W : World} {m : Nat} {vv vv' : Value} {sw sr sw' sr' : Nat → Value} {x y : MoI} {T : Nat → Prop}
set_option maxRecDepth 100000 in
set_option maxHeartbeats 8000000 in
theorem rwrite_insB (h : RmAt w m vv sw sr x) (f : Few x) (s : Nat) (hs : s < 8) (o : OpI) (hk : o.kind = 2) (hat : seesI x.v (x.s s).id (x.s s).start o.key = none) (hin : o.key ∈ (x.s s).wrote) (hown : x.v.findIdx? (ownV (x.s s).id o.key) = none) (hrm : ¬ x.slots ≤ x.v.length) (z : MoI)
  (hz : ({ (if o.key ∈ (x.s s).wrote then x else x.keepW s o.key) with v := MoI.wroteV x.v (x.s s).id o none (x.v.findIdx? (ownV (x.s s).id o.key)) } : MoI) = z) :
  Calls Try.prog 65 #[.pointer (some ⟨m, 0, none⟩), .int .i64 s, opV o] w (DidR w m vv sw sr re0 z) := by
 obtain ⟨W1, eW1, ob, kW1⟩ := op_box w o
 obtain ⟨W, eW, rb, kW2⟩ := res_box W1
 have kW := kW1.trans kW2
 have fM : ¬ FootR m vv sw sr w.heap.size := fun q => by have := h.lt _ q; omega
 have fN : ¬ FootR m vv sw sr W1.heap.size := fun q => by have := h.lt _ q; have := kW1.size; omega
 have hmw := h.mlt
 have H := Lib.hid (h.same kW)
 obtain ⟨Av, cv, evv, hcv, _⟩ := h.vers
 obtain ⟨nv, env⟩ : ∃ n, x.v.length = n := ⟨_, rfl⟩
 rw [env] at evv hcv
 have EVV := Lib.hid evv
 have ENV := Lib.hid env
 clear evv env
 have s0 := H.out.s0 s hs
 have s1 := H.out.s1 s hs
 have s2 := H.out.s2 s hs
 have s3 := H.out.s3 s hs
 have s4 := H.out.s4 s hs
 have s5 := H.out.s5 s hs
 obtain ⟨A4, c4, e4⟩ := own_n _ _ _ (H.out.ow s hs)
 obtain ⟨A5, c5, e5⟩ := own_r _ _ _ (H.out.or' s hs)
 obtain ⟨t, et⟩ : ∃ t, x.s s = t := ⟨_, rfl⟩
 have OW := Lib.hid (H.out.ow s hs)
 have OR5 := Lib.hid (H.out.or' s hs)
 have FW := Lib.hid (f.w s hs)
 have FRS := Lib.hid (f.r s hs).1
 rw [et] at s0 s1 s2 s3 e4 e5 OW OR5 FW
 have ET := Lib.hid et
 obtain ⟨n4, en4⟩ : ∃ n, t.wrote.length = n := ⟨_, rfl⟩
 obtain ⟨n5, en5⟩ : ∃ n, t.reads.length = n := ⟨_, rfl⟩
 rw [en4] at e4
 rw [en5] at e5
 rw [e4] at s4
 rw [e5] at s5
 have E4 := Lib.hid e4
 have E5 := Lib.hid e5
 have EN4 := Lib.hid en4
 have EN5 := Lib.hid en5
 obtain ⟨M, eM⟩ : ∃ M, w.heap.size = M := ⟨_, rfl⟩
 obtain ⟨N, eN⟩ : ∃ N, W1.heap.size = N := ⟨_, rfl⟩
 have hMN : N = M + 1 := by rw [← eN, ← eW1, World.size_alloc, eM]
 have HMN := Lib.hid hMN
 have EM := Lib.hid eM
 have ES := Lib.hid eN
 have hNW : N < W.heap.size := by rw [← eW, World.size_alloc, eN]; exact Nat.lt_succ_self _
 rw [eM] at ob fM hmw
 rw [eN] at rb fN
 have OB := Lib.hid (ob.keep kW2 (fun e => e))
 have RB := Lib.hid rb
 have FM := Lib.hid fM
 have FN := Lib.hid fN
 have KW := Lib.hid kW
 have FV := Lib.hid f.v
 obtain ⟨o0, o1, o2, o3⟩ := OB.out
 obtain ⟨at', eat⟩ : ∃ at', seesI x.v t.id t.start o.key = at' := ⟨_, rfl⟩
 obtain ⟨mine, emi⟩ : ∃ b, decide (o.key ∈ t.wrote) = b := ⟨_, rfl⟩
 have EAT := Lib.hid eat
 have EMI := Lib.hid emi
 have HS := Lib.hid (fun (wx : World) (k : Keep (fun _ => False) W wx) => rsees_any (H.out.same k) (Nat.le_trans FV.out (by omega)) t (sw s) (sr s) o.key)
 have HW := Lib.hid (fun (wx : World) (k : Keep (fun _ => False) W wx) => rhas_any (OwnN.keep OW.out k (by simp)) (Nat.le_trans FW.out (by omega)) o.key mine EMI.out)
 rw [EAT.out, E4.out, E5.out] at HS
 rw [E4.out] at HW
 unfold txV at HS
 have HOW := Lib.hid (fun (wx : World) (k : Keep (fun _ => False) W wx) => rown_any (H.out.same k) (Nat.le_trans FV.out (by omega)) t.id o.key)
 obtain ⟨ok, okey, ohi, oval⟩ := o
 rw [ET.out] at hin hown hat hz
 obtain rfl : none = at' := by rw [← EAT.out]; exact hat.symm
 have hown' : x.v.findIdx? (ownV t.id (OpI.key ⟨ok, okey, ohi, oval⟩)) = none := hown
 rw [hown'] at HOW
 rw [hown] at hz
 obtain rfl : ok = 2 := hk
 have di : idxV none = -1 := rfl
 have HZ := Lib.hid hz
 have EKK := Lib.hid hown
 have HNO := Lib.hid hin
 have HRM := Lib.hid hrm
 clear hown' hown hz hat hin hrm
 clear hMN h ob rb fM fN f et e4 e5 en4 en5 eat emi kW kW1 kW2
 unfold DidR opV
 go_enter Try.func65, Try.ntmps65
 go_wp2_with fail
 refine wp_region_held_drew (S := fun w' => w'.cell? ⟨m, 3 + s * 6, none⟩ = some (.int .i64 t.id) ∧ w'.cell? ⟨m, 3 + s * 6 + 1, none⟩ = some (.int .i64 t.level) ∧ w'.cell? ⟨m, 3 + s * 6 + 2, none⟩ = some (.int .i64 t.ops) ∧ w'.cell? ⟨m, 3 + s * 6 + 3, none⟩ = some (.int .u64 t.start) ∧ w'.cell? ⟨m, 3 + s * 6 + 4, none⟩ = some (.slice A4 n4 c4) ∧ w'.cell? ⟨m, 3 + s * 6 + 5, none⟩ = some (.slice A5 n5 c5) ∧ w'.cell? ⟨M, 1, none⟩ = some (.int .i64 okey)) (by kernel_rfl) ⟨s0, s1, s2, s3, s4, s5, o1⟩ (fun hHeld => ?_)
 refine tk 0 (v := ?qvu707) ?qyu707 ?qru707; case qyu707 => ((intro w hSw; (try dsimp only at hSw); go_simp); try (with_reducible rfl))
 (try simp only [tA, tS, tZ, Act.put, uA, uS, uZ])
 refine tk 1 (v := ?qvu708) ?qyu708 ?qru708; case qyu708 => ((intro w hSw; (try dsimp only at hSw); go_simp); try (with_reducible rfl))
 (try simp only [tA, tS, tZ, Act.put, uA, uS, uZ])
 refine tk 2 (v := ?qvu709) ?qyu709 ?qru709; case qyu709 => ((intro w hSw; (try dsimp only at hSw); go_simp); try (with_reducible rfl))
 (try simp only [tA, tS, tZ, Act.put, uA, uS, uZ])
 refine tk 3 (v := ?qvu710) ?qyu710 ?qru710; case qyu710 => ((intro w hSw; (try dsimp only at hSw); go_simp); try (with_reducible rfl))
 (try simp only [tA, tS, tZ, Act.put, uA, uS, uZ])
 refine tk 4 (v := ?qvu711) ?qyu711 ?qru711; case qyu711 => ((intro w hSw; (try dsimp only at hSw); go_simp); try (with_reducible rfl))
 (try simp only [tA, tS, tZ, Act.put, uA, uS, uZ])
 refine tk 5 (v := ?qvu712) ?qyu712 ?qru712; case qyu712 => ((intro w hSw; (try dsimp only at hSw); go_simp); try (with_reducible rfl))
 (try simp only [tA, tS, tZ, Act.put, uA, uS, uZ])
 refine wpAnyH_ready (rs := [6]) (by kernel_rfl) (by simp) ?_
 refine AllReadyH.cons rfl (fun K hK => ?_) AllReadyH.nil
 go_simp
 refine (HS.out _ ((Keep.refl _ W).drew)).mono ?_
 rintro e w3 ⟨rfl, k3⟩
 refine hK.out _ _ ⟨k3.cell hHeld.1 id, k3.cell hHeld.2.1 id, k3.cell hHeld.2.2.1 id, k3.cell hHeld.2.2.2.1 id, k3.cell hHeld.2.2.2.2.1 id, k3.cell hHeld.2.2.2.2.2.1 id, k3.cell hHeld.2.2.2.2.2.2 id⟩ (fun hHeld => ?_)
 clear hK K
 (try simp only [tA, tS, tZ, Act.put, uA, uS, uZ])
 refine tk 7 (v := ?qvu713) ?qyu713 ?qru713; case qyu713 => ((intro w hSw; (try dsimp only at hSw); go_simp); try (with_reducible rfl))
 (try simp only [tA, tS, tZ, Act.put, uA, uS, uZ])
 refine wpAnyH_done (by kernel_rfl) ?_ _
 have K3 : Keep (fun _ => False) W w3 := ((Keep.refl _ W).drew).trans k3
 clear hHeld
 go_wp2_with fail
 refine wp_region_held_drew (S := fun w' => w'.cell? ⟨m, 3 + s * 6 + 4, none⟩ = some (.slice A4 n4 c4) ∧ w'.cell? ⟨M, 1, none⟩ = some (.int .i64 okey)) (by kernel_rfl) ⟨K3.cell s4 id, K3.cell o1 id⟩ (fun hHeld => ?_)
 refine tk 0 (v := ?qvu714) ?qyu714 ?qru714; case qyu714 => ((intro w hSw; (try dsimp only at hSw); go_simp); try (with_reducible rfl))
 (try simp only [tA, tS, tZ, Act.put, uA, uS, uZ])
 refine tk 1 (v := ?qvu715) ?qyu715 ?qru715; case qyu715 => ((intro w hSw; (try dsimp only at hSw); go_simp); try (with_reducible rfl))
 (try simp only [tA, tS, tZ, Act.put, uA, uS, uZ])
 refine tk 2 (v := ?qvu716) ?qyu716 ?qru716; case qyu716 => ((intro w hSw; (try dsimp only at hSw); go_simp); try (with_reducible rfl))
 (try simp only [tA, tS, tZ, Act.put, uA, uS, uZ])
 refine tk 3 (v := ?qvu717) ?qyu717 ?qru717; case qyu717 => ((intro w hSw; (try dsimp only at hSw); go_simp); try (with_reducible rfl))
 (try simp only [tA, tS, tZ, Act.put, uA, uS, uZ])
 refine tk 4 (v := ?qvu718) ?qyu718 ?qru718; case qyu718 => ((intro w hSw; (try dsimp only at hSw); go_simp); try (with_reducible rfl))
 (try simp only [tA, tS, tZ, Act.put, uA, uS, uZ])
 refine tk 5 (v := ?qvu719) ?qyu719 ?qru719; case qyu719 => ((intro w hSw; (try dsimp only at hSw); go_simp); try (with_reducible rfl))
 (try simp only [tA, tS, tZ, Act.put, uA, uS, uZ])
 refine wpAnyH_ready (rs := [6]) (by kernel_rfl) (by simp) ?_
 refine AllReadyH.cons rfl (fun K hK => ?_) AllReadyH.nil
 go_simp
 refine (HW.out _ (K3.drew)).mono ?_
 rintro e w4 ⟨rfl, rfl⟩
 refine hK.out _ _ hHeld (fun hHeld => ?_)
 clear hK K
 (try simp only [tA, tS, tZ, Act.put, uA, uS, uZ])
 refine tk 7 (v := ?qvu720) ?qyu720 ?qru720; case qyu720 => ((intro w hSw; (try dsimp only at hSw); go_simp); try (with_reducible rfl))
 (try simp only [tA, tS, tZ, Act.put, uA, uS, uZ])
 refine wpAnyH_done (by kernel_rfl) ?_ _
 have K4 : Keep (fun _ => False) W w3.drew := K3.drew
 clear hHeld
 obtain ⟨wq, ewq⟩ : ∃ wq, w3.drew = wq := ⟨_, rfl⟩
 rw [ewq] at K4 ⊢
 clear ewq K3 k3
 obtain ⟨p0, p1, p2, p3⟩ := OB.out.keep K4 id
 have H4 := Lib.hid (H.out.same K4)
 have R4 := Lib.hid (RB.out.keep K4 id)
 obtain rfl : mine = true := by rw [← EMI.out]; exact decide_eq_true HNO.out
 have hrm : ¬ x.slots ≤ (nv : Int) := by have := HRM.out; rw [← ENV.out]; omega
 have d5 : decide (x.slots ≤ (nv : Int)) = false := decide_eq_false hrm
 have s0 := H4.out.s0 s hs
 have s1 := H4.out.s1 s hs
 have s2 := H4.out.s2 s hs
 have s3 := H4.out.s3 s hs
 have s4 := H4.out.s4 s hs
 have s5 := H4.out.s5 s hs
 rw [ET.out] at s0 s1 s2 s3
 rw [E4.out] at s4
 rw [E5.out] at s5
 go_wp2_with fail
 refine wp_region_held_drew (S := fun w' => w'.cell? ⟨m, 3 + s * 6, none⟩ = some (.int .i64 t.id) ∧ w'.cell? ⟨m, 3 + s * 6 + 1, none⟩ = some (.int .i64 t.level) ∧ w'.cell? ⟨m, 3 + s * 6 + 2, none⟩ = some (.int .i64 t.ops) ∧ w'.cell? ⟨m, 3 + s * 6 + 3, none⟩ = some (.int .u64 t.start) ∧ w'.cell? ⟨m, 3 + s * 6 + 4, none⟩ = some (.slice A4 n4 c4) ∧ w'.cell? ⟨m, 3 + s * 6 + 5, none⟩ = some (.slice A5 n5 c5) ∧ w'.cell? ⟨M, 1, none⟩ = some (.int .i64 okey)) (by kernel_rfl) ⟨s0, s1, s2, s3, s4, s5, p1⟩ (fun hHeld => ?_)
 refine tk 0 (v := ?qvu721) ?qyu721 ?qru721; case qyu721 => ((intro w hSw; (try dsimp only at hSw); go_simp); try (with_reducible rfl))
 (try simp only [tA, tS, tZ, Act.put, uA, uS, uZ])
 refine tk 1 (v := ?qvu722) ?qyu722 ?qru722; case qyu722 => ((intro w hSw; (try dsimp only at hSw); go_simp); try (with_reducible rfl))
 (try simp only [tA, tS, tZ, Act.put, uA, uS, uZ])
 refine tk 2 (v := ?qvu723) ?qyu723 ?qru723; case qyu723 => ((intro w hSw; (try dsimp only at hSw); go_simp); try (with_reducible rfl))
 (try simp only [tA, tS, tZ, Act.put, uA, uS, uZ])
 refine wpAnyH_take (i := 3) (v := undef) rfl (by kernel_rfl) (by kernel_rfl) (by kernel_rfl) (fun _ _ _ h => h) (Or.inr ⟨by rfl, rfl⟩) (by assumption) ?qru724
 (try simp only [tA, tS, tZ, Act.put, uA, uS, uZ])
 refine wpAnyH_take (i := 4) (v := undef) rfl (by kernel_rfl) (by kernel_rfl) (by kernel_rfl) (fun _ _ _ h => h) (Or.inr ⟨by rfl, rfl⟩) (by assumption) ?qru725
 (try simp only [tA, tS, tZ, Act.put, uA, uS, uZ])
 refine wpAnyH_take (i := 5) (v := undef) rfl (by kernel_rfl) (by kernel_rfl) (by kernel_rfl) (fun _ _ _ h => h) (Or.inr ⟨by rfl, rfl⟩) (by assumption) ?qru726
 (try simp only [tA, tS, tZ, Act.put, uA, uS, uZ])
 refine wpAnyH_take (i := 6) (v := undef) rfl (by kernel_rfl) (by kernel_rfl) (by kernel_rfl) (fun _ _ _ h => h) (Or.inr ⟨by rfl, rfl⟩) (by assumption) ?qru727
 (try simp only [tA, tS, tZ, Act.put, uA, uS, uZ])
 refine wpAnyH_take (i := 7) (v := undef) rfl (by kernel_rfl) (by kernel_rfl) (by kernel_rfl) (fun _ _ _ h => h) (Or.inr ⟨by rfl, rfl⟩) (by assumption) ?qru728
 (try simp only [tA, tS, tZ, Act.put, uA, uS, uZ])
 refine wpAnyH_take (i := 8) (v := undef) rfl (by kernel_rfl) (by kernel_rfl) (by kernel_rfl) (fun _ _ _ h => h) (Or.inr ⟨by rfl, rfl⟩) (by assumption) ?qru729
 (try simp only [tA, tS, tZ, Act.put, uA, uS, uZ])
 refine wpAnyH_take (i := 9) (v := undef) rfl (by kernel_rfl) (by kernel_rfl) (by kernel_rfl) (fun _ _ _ h => h) (Or.inr ⟨by rfl, rfl⟩) (by assumption) ?qru730
 (try simp only [tA, tS, tZ, Act.put, uA, uS, uZ])
 refine tk 10 (v := ?qvu731) ?qyu731 ?qru731; case qyu731 => ((intro w hSw; (try dsimp only at hSw); go_simp); try (with_reducible rfl))
 (try simp only [tA, tS, tZ, Act.put, uA, uS, uZ])
 refine wpAnyH_done (by kernel_rfl) ?_ _
 obtain ⟨w5, ew5⟩ : ∃ w5, wq.drew = w5 := ⟨_, rfl⟩
 have K5 : Keep (fun _ => False) W w5 := by rw [← ew5]; exact K4.drew
 rw [ew5]
 clear ew5
 clear hHeld
 go_wp2_with fail
 have KO : Keep (fun _ => False) W w5.drew := K5.drew
 refine wp_region_held_drew (S := fun w' => w'.cell? ⟨m, 3 + s * 6, none⟩ = some (.int .i64 t.id) ∧ w'.cell? ⟨M, 1, none⟩ = some (.int .i64 okey)) (by kernel_rfl) ⟨by have := (H.out.same KO).s0 s hs; rwa [ET.out] at this, KO.cell o1 id⟩ (fun hHeld => ?_)
 refine tk 0 (v := ?qvu732) ?qyu732 ?qru732; case qyu732 => ((intro w hSw; (try dsimp only at hSw); go_simp); try (with_reducible rfl))
 (try simp only [tA, tS, tZ, Act.put, uA, uS, uZ])
 refine tk 1 (v := ?qvu733) ?qyu733 ?qru733; case qyu733 => ((intro w hSw; (try dsimp only at hSw); go_simp); try (with_reducible rfl))
 (try simp only [tA, tS, tZ, Act.put, uA, uS, uZ])
 refine tk 2 (v := ?qvu734) ?qyu734 ?qru734; case qyu734 => ((intro w hSw; (try dsimp only at hSw); go_simp); try (with_reducible rfl))
 (try simp only [tA, tS, tZ, Act.put, uA, uS, uZ])
 refine tk 3 (v := ?qvu735) ?qyu735 ?qru735; case qyu735 => ((intro w hSw; (try dsimp only at hSw); go_simp); try (with_reducible rfl))
 (try simp only [tA, tS, tZ, Act.put, uA, uS, uZ])
 refine tk 4 (v := ?qvu736) ?qyu736 ?qru736; case qyu736 => ((intro w hSw; (try dsimp only at hSw); go_simp); try (with_reducible rfl))
 (try simp only [tA, tS, tZ, Act.put, uA, uS, uZ])
 refine tk 5 (v := ?qvu737) ?qyu737 ?qru737; case qyu737 => ((intro w hSw; (try dsimp only at hSw); go_simp); try (with_reducible rfl))
 (try simp only [tA, tS, tZ, Act.put, uA, uS, uZ])
 refine tk 6 (v := ?qvu738) ?qyu738 ?qru738; case qyu738 => ((intro w hSw; (try dsimp only at hSw); go_simp); try (with_reducible rfl))
 (try simp only [tA, tS, tZ, Act.put, uA, uS, uZ])
 refine wpAnyH_ready (rs := [7]) (by kernel_rfl) (by simp) ?_
 refine AllReadyH.cons rfl (fun K hK => ?_) AllReadyH.nil
 go_simp
 refine (HOW.out _ KO).mono ?_
 rintro e w7 ⟨rfl, k7'⟩
 refine hK.out _ _ ⟨k7'.cell hHeld.1 id, k7'.cell hHeld.2 id⟩ (fun hHeld => ?_)
 clear hK K
 (try simp only [tA, tS, tZ, Act.put, uA, uS, uZ])
 refine tk 8 (v := ?qvu739) ?qyu739 ?qru739; case qyu739 => ((intro w hSw; (try dsimp only at hSw); go_simp); try (with_reducible rfl))
 (try simp only [tA, tS, tZ, Act.put, uA, uS, uZ])
 refine wpAnyH_done (by kernel_rfl) ?_ _
 have K7 := KO.trans k7'
 clear hHeld
 have c0 := (H.out.same K7).c0
 have c2 := (H.out.same K7).c2
 rw [EVV.out] at c2
 have z0 := K7.cell o0 id
 go_wp2_with fail
 refine wp_region_held_drew (S := fun w' => w'.cell? ⟨M, 0, none⟩ = some (.int .i64 2) ∧ w'.cell? ⟨m, 2, none⟩ = some (.slice Av nv cv) ∧ w'.cell? ⟨m, 0, none⟩ = some (.int .i64 x.slots)) (by kernel_rfl) ⟨z0, c2, c0⟩ (fun hHeld => ?_)
 refine tk 0 (v := ?qvu740) ?qyu740 ?qru740; case qyu740 => ((intro w hSw; (try dsimp only at hSw); go_simp); try (with_reducible rfl))
 (try simp only [tA, tS, tZ, Act.put, uA, uS, uZ])
 refine tk 1 (v := ?qvu741) ?qyu741 ?qru741; case qyu741 => ((intro w hSw; (try dsimp only at hSw); go_simp); try (with_reducible rfl))
 (try simp only [tA, tS, tZ, Act.put, uA, uS, uZ])
 refine tk 2 (v := ?qvu742) ?qyu742 ?qru742; case qyu742 => ((intro w hSw; (try dsimp only at hSw); go_simp); try (with_reducible rfl))
 (try simp only [tA, tS, tZ, Act.put, uA, uS, uZ])
 refine tk 3 (v := ?qvu743) ?qyu743 ?qru743; case qyu743 => ((intro w hSw; (try dsimp only at hSw); go_simp); try (with_reducible rfl))
 (try simp only [tA, tS, tZ, Act.put, uA, uS, uZ])
 refine tk 4 (v := ?qvu744) ?qyu744 ?qru744; case qyu744 => ((intro w hSw; (try dsimp only at hSw); go_simp); try (with_reducible rfl))
 (try simp only [tA, tS, tZ, Act.put, uA, uS, uZ])
 refine tk 5 (v := ?qvu745) ?qyu745 ?qru745; case qyu745 => ((intro w hSw; (try dsimp only at hSw); go_simp); try (with_reducible rfl))
 (try simp only [tA, tS, tZ, Act.put, uA, uS, uZ])
 refine tk 6 (v := ?qvu746) ?qyu746 ?qru746; case qyu746 => ((intro w hSw; (try dsimp only at hSw); go_simp); try (with_reducible rfl))
 (try simp only [tA, tS, tZ, Act.put, uA, uS, uZ])
 refine tk 7 (v := ?qvu747) ?qyu747 ?qru747; case qyu747 => ((intro w hSw; (try dsimp only at hSw); go_simp); try (with_reducible rfl))
 (try simp only [tA, tS, tZ, Act.put, uA, uS, uZ])
 refine tk 8 (v := ?qvu748) ?qyu748 ?qru748; case qyu748 => ((intro w hSw; (try dsimp only at hSw); go_simp); try (with_reducible rfl))
 (try simp only [tA, tS, tZ, Act.put, uA, uS, uZ])
 refine tk 9 (v := ?qvu749) ?qyu749 ?qru749; case qyu749 => ((intro w hSw; (try dsimp only at hSw); go_simp); try (with_reducible rfl))
 (try simp only [tA, tS, tZ, Act.put, uA, uS, uZ])
 refine tk 10 (v := ?qvu750) ?qyu750 ?qru750; case qyu750 => ((intro w hSw; (try dsimp only at hSw); go_simp); try (with_reducible rfl))
 (try simp only [tA, tS, tZ, Act.put, uA, uS, uZ])
 refine tk 11 (v := ?qvu751) ?qyu751 ?qru751; case qyu751 => ((intro w hSw; (try dsimp only at hSw); go_simp); try (with_reducible rfl))
 (try simp only [tA, tS, tZ, Act.put, uA, uS, uZ])
 refine tk 12 (v := ?qvu752) ?qyu752 ?qru752; case qyu752 => ((intro w hSw; (try dsimp only at hSw); go_simp); try (with_reducible rfl))
 (try simp only [tA, tS, tZ, Act.put, uA, uS, uZ])
 refine tk 13 (v := ?qvu753) ?qyu753 ?qru753; case qyu753 => ((intro w hSw; (try dsimp only at hSw); go_simp); try (with_reducible rfl))
 (try simp only [tA, tS, tZ, Act.put, uA, uS, uZ])
 refine tk 14 (v := ?qvu754) ?qyu754 ?qru754; case qyu754 => ((intro w hSw; (try dsimp only at hSw); go_simp); try (with_reducible rfl))
 (try simp only [tA, tS, tZ, Act.put, uA, uS, uZ])
 refine tk 15 (v := ?qvu755) ?qyu755 ?qru755; case qyu755 => ((intro w hSw; (try dsimp only at hSw); go_simp); try (with_reducible rfl))
 (try simp only [tA, tS, tZ, Act.put, uA, uS, uZ])
 refine tk 16 (v := ?qvu756) ?qyu756 ?qru756; case qyu756 => ((intro w hSw; (try dsimp only at hSw); go_simp); try (with_reducible rfl))
 (try simp only [tA, tS, tZ, Act.put, uA, uS, uZ])
 refine tk 17 (v := ?qvu757) ?qyu757 ?qru757; case qyu757 => ((intro w hSw; (try dsimp only at hSw); go_simp); try (with_reducible rfl))
 (try simp only [tA, tS, tZ, Act.put, uA, uS, uZ])
 refine tk 18 (v := ?qvu758) ?qyu758 ?qru758; case qyu758 => ((intro w hSw; (try dsimp only at hSw); go_simp); try (with_reducible rfl))
 (try simp only [tA, tS, tZ, Act.put, uA, uS, uZ])
 refine tk 19 (v := ?qvu759) ?qyu759 ?qru759; case qyu759 => ((intro w hSw; (try dsimp only at hSw); go_simp); try (with_reducible rfl))
 (try simp only [tA, tS, tZ, Act.put, uA, uS, uZ])
 refine wpAnyH_done (by kernel_rfl) ?_ _
 obtain ⟨wc, ewv⟩ : ∃ wv, w7.drew = wv := ⟨_, rfl⟩
 have K8 : Keep (fun _ => False) W wc := by rw [← ewv]; exact K7.drew
 rw [ewv]
 have hcut : RmTo W m vv sw sr x wc := RmTo.same (H.out.same K8) (K8.mono (fun _ e => e.elim))
 clear hHeld ewv
 obtain ⟨vv1, sw1, sr1, a1, a2, a3⟩ := hcut
 have HC := Lib.hid a1
 have KC := Lib.hid a2
 have FC := Lib.hid a3
 have m0 := a2.cell o0 FM.out
 have m1 := a2.cell o1 FM.out
 have m3 := a2.cell o3 FM.out
 obtain ⟨Av1, cv1, ev1, hcv1, _⟩ := a1.vers
 have nv1 : (x).v.length = nv := ENV.out
 rw [nv1] at ev1 hcv1
 subst ev1
 have c2 := a1.c2
 have sid : wc.cell? ⟨m, 3 + s * 6, none⟩ = some (.int .i64 t.id) := by have := a1.s0 s hs; rw [show (x.s s).id = t.id from by rw [ET.out]] at this; exact this
 have kdd := (Keep.refl (fun _ => False) wc).drew
 have HC9 := Lib.hid (a1.same kdd)
 have OV6 := Lib.hid HC9.out.ov
 obtain ⟨VL, eVL⟩ : ∃ VL, (x).v = VL := ⟨_, rfl⟩
 rw [eVL] at OV6
 have EVL := Lib.hid eVL
 have lvl : VL.length = nv := by rw [← eVL]; exact nv1
 have LVL := Lib.hid lvl
 have nnv : nv ≤ 1000 := by rw [← ENV.out]; exact FV.out
 have nnl : VL.length ≤ 1000 := by omega
 have c2' := HC9.out.c2
 have fz2 := HC9.out.fz 2
 have nmv := Lib.hid (show ¬ (Value.slice Av1 nv cv1).ownBlock = some m from HC9.out.vm)
 have mlv := Lib.hid HC9.out.mlt
 have nmMv := Lib.hid (show ¬ (Value.slice Av1 nv cv1).ownBlock = some M from fun q => by
  rcases FC.out M (.inr (.inl q)) with e | e
  ·exact FM.out e
  ·have := hNW; have := HMN.out; omega)
 have hHd0 : wc.cell? ⟨M, 1, none⟩ = some (.int .i64 okey) ∧ wc.cell? ⟨M, 3, none⟩ = some (.int .i64 oval) ∧ wc.cell? ⟨m, 3 + s * 6, none⟩ = some (.int .i64 t.id) := ⟨m1, m3, sid⟩
 have hHdv : wc.drew.cell? ⟨M, 1, none⟩ = some (.int .i64 okey) ∧ wc.drew.cell? ⟨M, 3, none⟩ = some (.int .i64 oval) ∧ wc.drew.cell? ⟨m, 3 + s * 6, none⟩ = some (.int .i64 t.id) := hHd0
 have ka := (Keep.refl (fun _ => False) wc.drew).alloc (.cells #[.int .i64 okey, .int .i64 oval, .int .i64 t.id, .int .i64 0, .int .u64 0, .int .u64 0, .bool false] 119)
 have hav : (wc.drew.alloc (.cells #[.int .i64 okey, .int .i64 oval, .int .i64 t.id, .int .i64 0, .int .u64 0, .int .u64 0, .bool false] 119)).cell? ⟨M, 1, none⟩ = some (.int .i64 okey) ∧ (wc.drew.alloc (.cells #[.int .i64 okey, .int .i64 oval, .int .i64 t.id, .int .i64 0, .int .u64 0, .int .u64 0, .bool false] 119)).cell? ⟨M, 3, none⟩ = some (.int .i64 oval) ∧ (wc.drew.alloc (.cells #[.int .i64 okey, .int .i64 oval, .int .i64 t.id, .int .i64 0, .int .u64 0, .int .u64 0, .bool false] 119)).cell? ⟨m, 3 + s * 6, none⟩ = some (.int .i64 t.id) := ⟨ka.cell hHdv.1 id, ka.cell hHdv.2.1 id, ka.cell hHdv.2.2 id⟩
 have hav := hav
 have mlc : m < wc.heap.size := a1.mlt
 have RB9 := Lib.hid ((RB.out.keep a2 FN.out).keep kdd id)
 clear a1 a2 a3 eVL nv1 lvl ka
 go_wp2_with fail
 refine wp_region_held_drew (S := fun w' => w'.cell? ⟨M, 1, none⟩ = some (.int .i64 okey) ∧ w'.cell? ⟨M, 3, none⟩ = some (.int .i64 oval) ∧ w'.cell? ⟨m, 3 + s * 6, none⟩ = some (.int .i64 t.id)) (by kernel_rfl) hHd0 (fun hHeld => ?_)
 refine tk 0 (v := ?qvu760) ?qyu760 ?qru760; case qyu760 => ((intro w hSw; (try dsimp only at hSw); go_simp); try (with_reducible rfl))
 (try simp only [tA, tS, tZ, Act.put, uA, uS, uZ])
 refine tk 1 (v := ?qvu761) ?qyu761 ?qru761; case qyu761 => ((intro w hSw; (try dsimp only at hSw); go_simp); try (with_reducible rfl))
 (try simp only [tA, tS, tZ, Act.put, uA, uS, uZ])
 refine tk 2 (v := ?qvu762) ?qyu762 ?qru762; case qyu762 => ((intro w hSw; (try dsimp only at hSw); go_simp); try (with_reducible rfl))
 (try simp only [tA, tS, tZ, Act.put, uA, uS, uZ])
 refine tk 3 (v := ?qvu763) ?qyu763 ?qru763; case qyu763 => ((intro w hSw; (try dsimp only at hSw); go_simp); try (with_reducible rfl))
 (try simp only [tA, tS, tZ, Act.put, uA, uS, uZ])
 refine tk 5 (v := ?qvu764) ?qyu764 ?qru764; case qyu764 => ((intro w hSw; (try dsimp only at hSw); go_simp); try (with_reducible rfl))
 (try simp only [tA, tS, tZ, Act.put, uA, uS, uZ])
 refine tk 6 (v := ?qvu765) ?qyu765 ?qru765; case qyu765 => ((intro w hSw; (try dsimp only at hSw); go_simp); try (with_reducible rfl))
 (try simp only [tA, tS, tZ, Act.put, uA, uS, uZ])
 refine tk 7 (v := ?qvu766) ?qyu766 ?qru766; case qyu766 => ((intro w hSw; (try dsimp only at hSw); go_simp); try (with_reducible rfl))
 (try simp only [tA, tS, tZ, Act.put, uA, uS, uZ])
 refine tk 8 (v := ?qvu767) ?qyu767 ?qru767; case qyu767 => ((intro w hSw; (try dsimp only at hSw); go_simp); try (with_reducible rfl))
 (try simp only [tA, tS, tZ, Act.put, uA, uS, uZ])
 refine tk 9 (v := ?qvu768) ?qyu768 ?qru768; case qyu768 => ((intro w hSw; (try dsimp only at hSw); go_simp); try (with_reducible rfl))
 (try simp only [tA, tS, tZ, Act.put, uA, uS, uZ])
 refine tk 10 (v := ?qvu769) ?qyu769 ?qru769; case qyu769 => ((intro w hSw; (try dsimp only at hSw); go_simp); try (with_reducible rfl))
 (try simp only [tA, tS, tZ, Act.put, uA, uS, uZ])
 refine tk 11 (v := ?qvu770) ?qyu770 ?qru770; case qyu770 => ((intro w hSw; (try dsimp only at hSw); go_simp); try (with_reducible rfl))
 (try simp only [tA, tS, tZ, Act.put, uA, uS, uZ])
 refine tk 12 (v := ?qvu771) ?qyu771 ?qru771; case qyu771 => ((intro w hSw; (try dsimp only at hSw); go_simp); try (with_reducible rfl))
 (try simp only [tA, tS, tZ, Act.put, uA, uS, uZ])
 refine tk 13 (v := ?qvu772) ?qyu772 ?qru772; case qyu772 => ((intro w hSw; (try dsimp only at hSw); go_simp); try (with_reducible rfl))
 (try simp only [tA, tS, tZ, Act.put, uA, uS, uZ])
 refine wpAnyH_ready (rs := [4, 14]) (by kernel_rfl) (by simp) ?_
 refine AllReadyH.cons rfl (fun K hK => ?_) (AllReadyH.cons rfl (fun K hK => ?_) AllReadyH.nil)
 ·go_simp
  refine hK.out _ _ hHeld (fun hHeld => ?_)
  clear hK K
  (try simp only [tA, tS, tZ, Act.put, uA, uS, uZ])
  refine wpAnyH_ready (rs := [14]) (by kernel_rfl) (by simp) ?_
  refine AllReadyH.cons rfl (fun K hK => ?_) AllReadyH.nil
  go_simp
  refine hK.out _ _ ⟨((Keep.refl (fun _ => False) _).alloc _).cell hHeld.1 id, ((Keep.refl (fun _ => False) _).alloc _).cell hHeld.2.1 id, ((Keep.refl (fun _ => False) _).alloc _).cell hHeld.2.2 id⟩ (fun hHeld => ?_)
  clear hK K
  (try simp only [tA, tS, tZ, Act.put, uA, uS, uZ])
  refine wpAnyH_ready (rs := [15]) (by kernel_rfl) (by simp) ?_
  refine AllReadyH.cons rfl (fun K hK => ?_) AllReadyH.nil
  refine step_pushM Try.underlying76 info_vr rfl (by decide) (by decide) vrC_len vr_one rfl (.tmp 146) (.tmp 156) rfl _ VL (by rfl) OV6.out ⟨okey, oval, t.id, 0, 0, 0, false⟩ rfl (by omega) ?_
  rintro g8 c8 y8 o8 k8 hg8
  have z8 := k8.cell c2' nmv.out
  have zf := (k8.frozen (a := ⟨m, 2, none⟩) mlv.out nmv.out).trans fz2
  refine hK.out _ _ ⟨k8.cell hHdv.1 nmMv.out, k8.cell hHdv.2.1 nmMv.out, k8.cell hHdv.2.2 nmv.out⟩ (fun hHeld => ?_)
  clear hK K
  (try simp only [tA, tS, tZ, Act.put, uA, uS, uZ])
  refine tk 16 (v := ?qvu773) ?qyu773 ?qru773; case qyu773 => ((intro w hSw; (try dsimp only at hSw); go_simp); try (with_reducible rfl))
  (try simp only [tA, tS, tZ, Act.put, uA, uS, uZ])
  refine tk 17 (v := ?qvu774) ?qyu774 ?qru774; case qyu774 => ((intro w hSw; (try dsimp only at hSw); go_simp); try (with_reducible rfl))
  (try simp only [tA, tS, tZ, Act.put, uA, uS, uZ])
  refine wpAnyH_ready (rs := [18]) (by kernel_rfl) (by simp) ?_
  refine AllReadyH.cons rfl (fun K hK => ?_) AllReadyH.nil
  go_simp
  refine hK.out _ _ ⟨(keep_one y8 ⟨m, 2, none⟩ _).cell hHeld.1 (fun e => by have e : M = m := e; omega), (keep_one y8 ⟨m, 2, none⟩ _).cell hHeld.2.1 (fun e => by have e : M = m := e; omega), (by rw [World.cell?_setCell_other _ _ _ _ (by first | (simp; done) | (simp; omega))]; exact hHeld.2.2)⟩ (fun hHeld => ?_)
  clear hK K
  (try simp only [tA, tS, tZ, Act.put, uA, uS, uZ])
  refine wpAnyH_done (by kernel_rfl) ?_ _
  have AV := HC9.out.addV ⟨okey, oval, t.id, 0, 0, 0, false⟩ (b := .slice (some ⟨g8, 0, none⟩) (VL.length + 1) c8) (y8 := y8) k8 (by rw [EVL.out]; exact o8) (by intro g e; cases e; exact hg8)
  obtain ⟨wz, ez⟩ : ∃ wz, y8.setCell ⟨m, 2, none⟩ (.slice (some ⟨g8, 0, none⟩) (VL.length + 1) c8) = wz := ⟨_, rfl⟩
  rw [ez] at AV ⊢
  have R6 := Lib.hid (RB9.out.keep AV.keeps (fun q => by
   rcases FC.out N q with e | e
   ·exact FN.out e
   ·omega))
  obtain ⟨q0, q1, q2, q3, q4, q5⟩ := R6.out
  have AVH := Lib.hid AV
  have KCD := Lib.hid (KC.out.trans (kdd.mono (fun _ e => e.elim)))
  clear AV ez k8 o8 hg8 z8 zf
  go_wp2
  (obtain ⟨W7, eW7⟩ : ∃ W7, (((((wz.setCell ⟨N, 0, none⟩ (.int .i64 0)).setCell ⟨N, 1, none⟩ (.int .i64 0)).setCell ⟨N, 2, none⟩ (.slice none 0 0)).setCell ⟨N, 3, none⟩ (.int .i64 0)).setCell ⟨N, 4, none⟩ (.int .i64 0)) = W7 := ⟨_, rfl⟩; obtain ⟨⟨v0, v1, v2, v3, v4, _⟩, k7⟩ := res_set R6.out _ _ _ _ _ eW7; rw [eW7]; refine bodyPost_ret (v := .agg #[.int .i64 0, .int .i64 0, .slice none 0 0, .int .i64 0, .int .i64 0]) (by simp [results, Try.results65, go_sem, v0, v1, v2, v3, v4]) rfl ⟨rfl, ?_⟩)
  have TT : RmTo W m vv sw sr z wz := by
   have t1 : RmTo W m vv sw sr { x with v := (x).v ++ [⟨okey, oval, t.id, 0, 0, 0, false⟩] } wz := by
    obtain ⟨b1, b2, b3, h1, h2, h3⟩ := AVH.out
    exact ⟨b1, b2, b3, h1, KCD.out.onew h2 FC.out, fun g hg => by
     rcases h3 g hg with q | q
     ·exact FC.out g q
     ·right; have := KCD.out.size; omega⟩
   rw [show z = { x with v := x.v ++ [⟨okey, oval, t.id, 0, 0, 0, false⟩] } from by rw [← HZ.out, if_pos HNO.out]; rfl] 
   exact t1
  exact TT.fin KW.out (by have := EM.out; have := HMN.out; omega) hNW FN.out k7
 ·go_simp
  refine hK.out _ _ hav (fun hHeld => ?_)
  clear hK K
  (try simp only [tA, tS, tZ, Act.put, uA, uS, uZ])
  refine wpAnyH_ready (rs := [4]) (by kernel_rfl) (by simp) ?_
  refine AllReadyH.cons rfl (fun K hK => ?_) AllReadyH.nil
  go_simp
  refine hK.out _ _ hav (fun hHeld => ?_)
  clear hK K
  (try simp only [tA, tS, tZ, Act.put, uA, uS, uZ])
  refine wpAnyH_ready (rs := [15]) (by kernel_rfl) (by simp) ?_
  refine AllReadyH.cons rfl (fun K hK => ?_) AllReadyH.nil
  refine step_pushM Try.underlying76 info_vr rfl (by decide) (by decide) vrC_len vr_one rfl (.tmp 146) (.tmp 156) rfl _ VL (by rfl) OV6.out ⟨okey, oval, t.id, 0, 0, 0, false⟩ rfl (by omega) ?_
  rintro g8 c8 y8 o8 k8 hg8
  have z8 := k8.cell c2' nmv.out
  have zf := (k8.frozen (a := ⟨m, 2, none⟩) mlv.out nmv.out).trans fz2
  refine hK.out _ _ ⟨k8.cell hHdv.1 nmMv.out, k8.cell hHdv.2.1 nmMv.out, k8.cell hHdv.2.2 nmv.out⟩ (fun hHeld => ?_)
  clear hK K
  (try simp only [tA, tS, tZ, Act.put, uA, uS, uZ])
  refine tk 16 (v := ?qvu775) ?qyu775 ?qru775; case qyu775 => ((intro w hSw; (try dsimp only at hSw); go_simp); try (with_reducible rfl))
  (try simp only [tA, tS, tZ, Act.put, uA, uS, uZ])
  refine tk 17 (v := ?qvu776) ?qyu776 ?qru776; case qyu776 => ((intro w hSw; (try dsimp only at hSw); go_simp); try (with_reducible rfl))
  (try simp only [tA, tS, tZ, Act.put, uA, uS, uZ])
  refine wpAnyH_ready (rs := [18]) (by kernel_rfl) (by simp) ?_
  refine AllReadyH.cons rfl (fun K hK => ?_) AllReadyH.nil
  go_simp
  refine hK.out _ _ ⟨(keep_one y8 ⟨m, 2, none⟩ _).cell hHeld.1 (fun e => by have e : M = m := e; omega), (keep_one y8 ⟨m, 2, none⟩ _).cell hHeld.2.1 (fun e => by have e : M = m := e; omega), (by rw [World.cell?_setCell_other _ _ _ _ (by first | (simp; done) | (simp; omega))]; exact hHeld.2.2)⟩ (fun hHeld => ?_)
  clear hK K
  (try simp only [tA, tS, tZ, Act.put, uA, uS, uZ])
  refine wpAnyH_done (by kernel_rfl) ?_ _
  have AV := HC9.out.addV ⟨okey, oval, t.id, 0, 0, 0, false⟩ (b := .slice (some ⟨g8, 0, none⟩) (VL.length + 1) c8) (y8 := y8) k8 (by rw [EVL.out]; exact o8) (by intro g e; cases e; exact hg8)
  obtain ⟨wz, ez⟩ : ∃ wz, y8.setCell ⟨m, 2, none⟩ (.slice (some ⟨g8, 0, none⟩) (VL.length + 1) c8) = wz := ⟨_, rfl⟩
  rw [ez] at AV ⊢
  have R6 := Lib.hid (RB9.out.keep AV.keeps (fun q => by
   rcases FC.out N q with e | e
   ·exact FN.out e
   ·omega))
  obtain ⟨q0, q1, q2, q3, q4, q5⟩ := R6.out
  have AVH := Lib.hid AV
  have KCD := Lib.hid (KC.out.trans (kdd.mono (fun _ e => e.elim)))
  clear AV ez k8 o8 hg8 z8 zf
  go_wp2
  (obtain ⟨W7, eW7⟩ : ∃ W7, (((((wz.setCell ⟨N, 0, none⟩ (.int .i64 0)).setCell ⟨N, 1, none⟩ (.int .i64 0)).setCell ⟨N, 2, none⟩ (.slice none 0 0)).setCell ⟨N, 3, none⟩ (.int .i64 0)).setCell ⟨N, 4, none⟩ (.int .i64 0)) = W7 := ⟨_, rfl⟩; obtain ⟨⟨v0, v1, v2, v3, v4, _⟩, k7⟩ := res_set R6.out _ _ _ _ _ eW7; rw [eW7]; refine bodyPost_ret (v := .agg #[.int .i64 0, .int .i64 0, .slice none 0 0, .int .i64 0, .int .i64 0]) (by simp [results, Try.results65, go_sem, v0, v1, v2, v3, v4]) rfl ⟨rfl, ?_⟩)
  have TT : RmTo W m vv sw sr z wz := by
   have t1 : RmTo W m vv sw sr { x with v := (x).v ++ [⟨okey, oval, t.id, 0, 0, 0, false⟩] } wz := by
    obtain ⟨b1, b2, b3, h1, h2, h3⟩ := AVH.out
    exact ⟨b1, b2, b3, h1, KCD.out.onew h2 FC.out, fun g hg => by
     rcases h3 g hg with q | q
     ·exact FC.out g q
     ·right; have := KCD.out.size; omega⟩
   rw [show z = { x with v := x.v ++ [⟨okey, oval, t.id, 0, 0, 0, false⟩] } from by rw [← HZ.out, if_pos HNO.out]; rfl] 
   exact t1
  exact TT.fin KW.out (by have := EM.out; have := HMN.out; omega) hNW FN.out k7
end
end Go.Proofs.Ytkkjofefjepodaa
