/- Several texts, one behind the other: RmH, RmK, RmT. -/
import Derived.Test.YtkkjofefjepodaaLawModelPlaysZab
import Derived.Test.YtkkjofefjepodaaLawModelPlaysZav
/- The document's own Model, seventh part: write. Conditions: what a Model always keeps (Few). -/
namespace Go.Proofs.Ytkkjofefjepodaa
open Go.ChangeShapes Go.WideShapes Go.ChangeAt Go.RowKit
set_option linter.unusedVariables false
set_option linter.unusedSimpArgs false

theorem info_rr : (Try.prog.info? 125).map (fun i => (i.zero, i.size, i.bytes)) = some (some (.agg #[.int .i64 0, .int .i64 0, .bool false, .bool false]), 4, 24) := by kernel_rfl
theorem info_vr : (Try.prog.info? 119).map (fun i => (i.zero, i.size, i.bytes)) = some (some (.agg #[.int .i64 0, .int .i64 0, .int .i64 0, .int .i64 0, .int .u64 0, .int .u64 0, .bool false]), 7, 56) := by kernel_rfl
theorem rr_one (x : RdI) : ∀ u ∈ rrC x, u.oneCell' = true := by intro u hu; simp only [rrC, List.mem_cons, List.not_mem_nil, or_false] at hu; rcases hu with rfl | rfl | rfl | rfl <;> rfl
theorem vr_one (x : VrI) : ∀ u ∈ vrC x, u.oneCell' = true := by intro u hu; simp only [vrC, List.mem_cons, List.not_mem_nil, or_false] at hu; rcases hu with rfl | rfl | rfl | rfl | rfl | rfl | rfl <;> rfl
section
variable {w w' W : World} {m : Nat} {vv vv' : Value} {sw sr sw' sr' : Nat → Value} {x y : MoI} {T : Nat → Prop}
/-- One more thing is read. -/
theorem RmAt.addR (h : RmAt w m vv sw sr x) {s : Nat} (hs : s < 8) {y4 : World} {b : Value} (r : RdI) (k4 : Keep (fun j => (sr s).ownBlock = some j) w y4) (o4 : OwnR y4 b ((x.s s).reads ++ [r])) (hb : ∀ g, b.ownBlock = some g → (sr s).ownBlock = some g ∨ w.heap.size ≤ g) :
  RmTo w m vv sw sr (x.keepR s r) (y4.setCell ⟨m, 3 + s * 6 + 5, none⟩ b) := by
 have nm : (sr s).ownBlock ≠ some m := h.rm s hs
 have ks := keep_one y4 ⟨m, 3 + s * 6 + 5, none⟩ b
 have bm : b.ownBlock ≠ some m := fun e => by rcases hb m e with q | q; exact nm q; have := h.mlt; omega
 have K : Keep (fun g => g = m ∨ (sr s).ownBlock = some g) w (y4.setCell ⟨m, 3 + s * 6 + 5, none⟩ b) := (k4.mono (fun g e => .inr e)).trans (ks.mono (fun g e => .inl e))
 refine ⟨vv, updV sw s (sw s), updV sr s b, h.ses hs K (fun g e => by rcases e with e | e; exact .inl e; exact .inr (.inr e)) (fun i u hi hu => by rw [World.cell?_setCell_other _ _ _ _ (by first | (simp; done) | (simp; omega))]; exact k4.cell hu nm) (fun i => by rw [World.frozen?_setCell]; exact (k4.frozen (a := ⟨m, i, none⟩) h.mlt nm).trans (h.fz i))
  { x.s s with reads := (x.s s).reads ++ [r] } (sw s) b (by rw [World.cell?_setCell_other _ _ _ _ (by first | (simp; done) | (simp; omega))]; exact k4.cell (h.s0 s hs) nm) (by rw [World.cell?_setCell_other _ _ _ _ (by first | (simp; done) | (simp; omega))]; exact k4.cell (h.s1 s hs) nm) (by rw [World.cell?_setCell_other _ _ _ _ (by first | (simp; done) | (simp; omega))]; exact k4.cell (h.s2 s hs) nm) (by rw [World.cell?_setCell_other _ _ _ _ (by first | (simp; done) | (simp; omega))]; exact k4.cell (h.s3 s hs) nm) (by rw [World.cell?_setCell_other _ _ _ _ (by first | (simp; done) | (simp; omega))]; exact k4.cell (h.s4 s hs) nm)
  (World.cell?_setCell_same _ _ _ (k4.cell (h.s5 s hs) nm)) (OwnN.keep (OwnN.keep (h.ow s hs) k4 (fun g hg e => h.wr s s g hs hs hg e)) ks (fun g hg e => h.wm s hs (by rw [hg]; exact congrArg some e))) (o4.keep ks (fun g hg e => bm (by rw [hg]; exact congrArg some e)))
  (fun g hg => .inl hg) hb (fun g hg e => by rcases hb g e with q | q; exact h.wr s s g hs hs hg q; have := (OwnN.lt (h.ow s hs) hg).2; omega), K.mono (fun g e => by rcases e with e | e; exact .inl e; exact .inr (.inr ⟨s, hs, .inr e⟩)), fun g hg => ?_⟩
 rcases hg with q | q | ⟨i, hi, q⟩
 ·exact .inl (.inl q)
 ·exact .inl (.inr (.inl q))
 ·by_cases e : i = s
  ·subst e
   rw [updV_self, updV_self] at q
   rcases q with q | q
   ·exact .inl (.inr (.inr ⟨i, hi, .inl q⟩))
   ·rcases hb g q with q | q
    ·exact .inl (.inr (.inr ⟨i, hi, .inr q⟩))
    ·exact .inr q
  ·rw [updV_ne _ _ e, updV_ne _ _ e] at q
   exact .inl (.inr (.inr ⟨i, hi, q⟩))
/-- One more key is written. -/
theorem RmAt.addW (h : RmAt w m vv sw sr x) {s : Nat} (hs : s < 8) {y4 : World} {a : Value} (key : Int) (k4 : Keep (fun j => (sw s).ownBlock = some j) w y4) (o4 : OwnN 0 y4 a ((x.s s).wrote ++ [key])) (ha : ∀ g, a.ownBlock = some g → (sw s).ownBlock = some g ∨ w.heap.size ≤ g) :
  RmTo w m vv sw sr (x.keepW s key) (y4.setCell ⟨m, 3 + s * 6 + 4, none⟩ a) := by
 have nm : (sw s).ownBlock ≠ some m := h.wm s hs
 have ks := keep_one y4 ⟨m, 3 + s * 6 + 4, none⟩ a
 have am : a.ownBlock ≠ some m := fun e => by rcases ha m e with q | q; exact nm q; have := h.mlt; omega
 have K : Keep (fun g => g = m ∨ (sw s).ownBlock = some g) w (y4.setCell ⟨m, 3 + s * 6 + 4, none⟩ a) := (k4.mono (fun g e => .inr e)).trans (ks.mono (fun g e => .inl e))
 refine ⟨vv, updV sw s a, updV sr s (sr s), h.ses hs K (fun g e => by rcases e with e | e; exact .inl e; exact .inr (.inl e)) (fun i u hi hu => by rw [World.cell?_setCell_other _ _ _ _ (by first | (simp; done) | (simp; omega))]; exact k4.cell hu nm) (fun i => by rw [World.frozen?_setCell]; exact (k4.frozen (a := ⟨m, i, none⟩) h.mlt nm).trans (h.fz i))
  { x.s s with wrote := (x.s s).wrote ++ [key] } a (sr s) (by rw [World.cell?_setCell_other _ _ _ _ (by first | (simp; done) | (simp; omega))]; exact k4.cell (h.s0 s hs) nm) (by rw [World.cell?_setCell_other _ _ _ _ (by first | (simp; done) | (simp; omega))]; exact k4.cell (h.s1 s hs) nm) (by rw [World.cell?_setCell_other _ _ _ _ (by first | (simp; done) | (simp; omega))]; exact k4.cell (h.s2 s hs) nm) (by rw [World.cell?_setCell_other _ _ _ _ (by first | (simp; done) | (simp; omega))]; exact k4.cell (h.s3 s hs) nm)
  (World.cell?_setCell_same _ _ _ (k4.cell (h.s4 s hs) nm)) (by rw [World.cell?_setCell_other _ _ _ _ (by first | (simp; done) | (simp; omega))]; exact k4.cell (h.s5 s hs) nm) (OwnN.keep o4 ks (fun g hg e => am (by rw [hg]; exact congrArg some e))) (((h.or' s hs).keep k4 (fun g hg e => h.wr s s g hs hs e hg)).keep ks (fun g hg e => h.rm s hs (by rw [hg]; exact congrArg some e)))
  ha (fun g hg => .inl hg) (fun g hg e => by rcases ha g hg with q | q; exact h.wr s s g hs hs q e; have := (h.or' s hs).lt e; omega), K.mono (fun g e => by rcases e with e | e; exact .inl e; exact .inr (.inr ⟨s, hs, .inl e⟩)), fun g hg => ?_⟩
 rcases hg with q | q | ⟨i, hi, q⟩
 ·exact .inl (.inl q)
 ·exact .inl (.inr (.inl q))
 ·by_cases e : i = s
  ·subst e
   rw [updV_self, updV_self] at q
   rcases q with q | q
   ·rcases ha g q with q | q
    ·exact .inl (.inr (.inr ⟨i, hi, .inl q⟩))
    ·exact .inr q
   ·exact .inl (.inr (.inr ⟨i, hi, .inr q⟩))
  ·rw [updV_ne _ _ e, updV_ne _ _ e] at q
   exact .inl (.inr (.inr ⟨i, hi, q⟩))
set_option maxRecDepth 100000 in
set_option maxHeartbeats 8000000 in
theorem rwrite_none (h : RmAt w m vv sw sr x) (f : Few x) (s : Nat) (hs : s < 8) (o : OpI) (hk : o.kind ≠ 2) (ha : seesI x.v (x.s s).id (x.s s).start o.key = none) (z : MoI) (hz : (if o.key ∈ (x.s s).wrote then x else x.keepR s ⟨o.key, o.key, false, false⟩) = z) :
  Calls Try.prog 65 #[.pointer (some ⟨m, 0, none⟩), .int .i64 s, opV o] w (DidR w m vv sw sr ⟨11, 0, [], 0, 0⟩ z) := by
 obtain ⟨W1, eW1, ob, kW1⟩ := op_box w o
 obtain ⟨W, eW, rb, kW2⟩ := res_box W1
 have kW := kW1.trans kW2
 have fM : ¬ FootR m vv sw sr w.heap.size := fun q => by have := h.lt _ q; omega
 have fN : ¬ FootR m vv sw sr W1.heap.size := fun q => by have := h.lt _ q; have := kW1.size; omega
 have hmw := h.mlt
 have H := Lib.hid (h.same kW)
 have s0 := H.out.s0 s hs
 have s1 := H.out.s1 s hs
 have s2 := H.out.s2 s hs
 have s3 := H.out.s3 s hs
 have s4 := H.out.s4 s hs
 have s5 := H.out.s5 s hs
 obtain ⟨A4, c4, e4⟩ := own_n _ _ _ (H.out.ow s hs)
 obtain ⟨A5, c5, e5⟩ := own_r _ _ _ (H.out.or' s hs)
 obtain ⟨t, et⟩ : ∃ t, x.s s = t := ⟨_, rfl⟩
 have OW := Lib.hid (H.out.ow s hs)
 have OR5 := Lib.hid (H.out.or' s hs)
 have FW := Lib.hid (f.w s hs)
 have FRS := Lib.hid (f.r s hs).1
 rw [et] at s0 s1 s2 s3 e4 e5 OW OR5 FW
 have ET := Lib.hid et
 obtain ⟨n4, en4⟩ : ∃ n, t.wrote.length = n := ⟨_, rfl⟩
 obtain ⟨n5, en5⟩ : ∃ n, t.reads.length = n := ⟨_, rfl⟩
 rw [en4] at e4
 rw [en5] at e5
 rw [e4] at s4
 rw [e5] at s5
 have E4 := Lib.hid e4
 have E5 := Lib.hid e5
 have EN4 := Lib.hid en4
 have EN5 := Lib.hid en5
 obtain ⟨M, eM⟩ : ∃ M, w.heap.size = M := ⟨_, rfl⟩
 obtain ⟨N, eN⟩ : ∃ N, W1.heap.size = N := ⟨_, rfl⟩
 have hMN : N = M + 1 := by rw [← eN, ← eW1, World.size_alloc, eM]
 have HMN := Lib.hid hMN
 have EM := Lib.hid eM
 have ES := Lib.hid eN
 have hNW : N < W.heap.size := by rw [← eW, World.size_alloc, eN]; exact Nat.lt_succ_self _
 rw [eM] at ob fM hmw
 rw [eN] at rb fN
 have OB := Lib.hid (ob.keep kW2 (fun e => e))
 have RB := Lib.hid rb
 have FM := Lib.hid fM
 have FN := Lib.hid fN
 have KW := Lib.hid kW
 have FV := Lib.hid f.v
 obtain ⟨o0, o1, o2, o3⟩ := OB.out
 obtain ⟨at', eat⟩ : ∃ at', seesI x.v t.id t.start o.key = at' := ⟨_, rfl⟩
 obtain ⟨mine, emi⟩ : ∃ b, decide (o.key ∈ t.wrote) = b := ⟨_, rfl⟩
 have EAT := Lib.hid eat
 have EMI := Lib.hid emi
 have HS := Lib.hid (fun (wx : World) (k : Keep (fun _ => False) W wx) => rsees_any (H.out.same k) (Nat.le_trans FV.out (by omega)) t (sw s) (sr s) o.key)
 have HW := Lib.hid (fun (wx : World) (k : Keep (fun _ => False) W wx) => rhas_any (OwnN.keep OW.out k (by simp)) (Nat.le_trans FW.out (by omega)) o.key mine EMI.out)
 rw [EAT.out, E4.out, E5.out] at HS
 rw [E4.out] at HW
 unfold txV at HS
 obtain ⟨ok, okey, ohi, oval⟩ := o
 obtain rfl : none = at' := by rw [← EAT.out, ← ET.out]; exact ha.symm
 have d1 : (ok == 2) = false := by simpa using hk
 have d2 : (ok != 2) = true := by simpa using hk
 have HZ := Lib.hid hz
 clear hk ha hz
 clear hMN h ob rb fM fN f et e4 e5 en4 en5 eat emi kW kW1 kW2
 unfold DidR opV
 go_enter Try.func65, Try.ntmps65
 go_wp2_with fail
 refine wp_region_held_drew (S := fun w' => w'.cell? ⟨m, 3 + s * 6, none⟩ = some (.int .i64 t.id) ∧ w'.cell? ⟨m, 3 + s * 6 + 1, none⟩ = some (.int .i64 t.level) ∧ w'.cell? ⟨m, 3 + s * 6 + 2, none⟩ = some (.int .i64 t.ops) ∧ w'.cell? ⟨m, 3 + s * 6 + 3, none⟩ = some (.int .u64 t.start) ∧ w'.cell? ⟨m, 3 + s * 6 + 4, none⟩ = some (.slice A4 n4 c4) ∧ w'.cell? ⟨m, 3 + s * 6 + 5, none⟩ = some (.slice A5 n5 c5) ∧ w'.cell? ⟨M, 1, none⟩ = some (.int .i64 okey)) (by kernel_rfl) ⟨s0, s1, s2, s3, s4, s5, o1⟩ (fun hHeld => ?_)
 refine tk 0 (v := ?qvu335) ?qyu335 ?qru335; case qyu335 => ((intro w hSw; (try dsimp only at hSw); go_simp); try (with_reducible rfl))
 (try simp only [tA, tS, tZ, Act.put, uA, uS, uZ])
 refine tk 1 (v := ?qvu336) ?qyu336 ?qru336; case qyu336 => ((intro w hSw; (try dsimp only at hSw); go_simp); try (with_reducible rfl))
 (try simp only [tA, tS, tZ, Act.put, uA, uS, uZ])
 refine tk 2 (v := ?qvu337) ?qyu337 ?qru337; case qyu337 => ((intro w hSw; (try dsimp only at hSw); go_simp); try (with_reducible rfl))
 (try simp only [tA, tS, tZ, Act.put, uA, uS, uZ])
 refine tk 3 (v := ?qvu338) ?qyu338 ?qru338; case qyu338 => ((intro w hSw; (try dsimp only at hSw); go_simp); try (with_reducible rfl))
 (try simp only [tA, tS, tZ, Act.put, uA, uS, uZ])
 refine tk 4 (v := ?qvu339) ?qyu339 ?qru339; case qyu339 => ((intro w hSw; (try dsimp only at hSw); go_simp); try (with_reducible rfl))
 (try simp only [tA, tS, tZ, Act.put, uA, uS, uZ])
 refine tk 5 (v := ?qvu340) ?qyu340 ?qru340; case qyu340 => ((intro w hSw; (try dsimp only at hSw); go_simp); try (with_reducible rfl))
 (try simp only [tA, tS, tZ, Act.put, uA, uS, uZ])
 refine wpAnyH_ready (rs := [6]) (by kernel_rfl) (by simp) ?_
 refine AllReadyH.cons rfl (fun K hK => ?_) AllReadyH.nil
 go_simp
 refine (HS.out _ ((Keep.refl _ W).drew)).mono ?_
 rintro e w3 ⟨rfl, k3⟩
 refine hK.out _ _ ⟨k3.cell hHeld.1 id, k3.cell hHeld.2.1 id, k3.cell hHeld.2.2.1 id, k3.cell hHeld.2.2.2.1 id, k3.cell hHeld.2.2.2.2.1 id, k3.cell hHeld.2.2.2.2.2.1 id, k3.cell hHeld.2.2.2.2.2.2 id⟩ (fun hHeld => ?_)
 clear hK K
 (try simp only [tA, tS, tZ, Act.put, uA, uS, uZ])
 refine tk 7 (v := ?qvu341) ?qyu341 ?qru341; case qyu341 => ((intro w hSw; (try dsimp only at hSw); go_simp); try (with_reducible rfl))
 (try simp only [tA, tS, tZ, Act.put, uA, uS, uZ])
 refine wpAnyH_done (by kernel_rfl) ?_ _
 have K3 : Keep (fun _ => False) W w3 := ((Keep.refl _ W).drew).trans k3
 clear hHeld
 go_wp2_with fail
 refine wp_region_held_drew (S := fun w' => w'.cell? ⟨m, 3 + s * 6 + 4, none⟩ = some (.slice A4 n4 c4) ∧ w'.cell? ⟨M, 1, none⟩ = some (.int .i64 okey)) (by kernel_rfl) ⟨K3.cell s4 id, K3.cell o1 id⟩ (fun hHeld => ?_)
 refine tk 0 (v := ?qvu342) ?qyu342 ?qru342; case qyu342 => ((intro w hSw; (try dsimp only at hSw); go_simp); try (with_reducible rfl))
 (try simp only [tA, tS, tZ, Act.put, uA, uS, uZ])
 refine tk 1 (v := ?qvu343) ?qyu343 ?qru343; case qyu343 => ((intro w hSw; (try dsimp only at hSw); go_simp); try (with_reducible rfl))
 (try simp only [tA, tS, tZ, Act.put, uA, uS, uZ])
 refine tk 2 (v := ?qvu344) ?qyu344 ?qru344; case qyu344 => ((intro w hSw; (try dsimp only at hSw); go_simp); try (with_reducible rfl))
 (try simp only [tA, tS, tZ, Act.put, uA, uS, uZ])
 refine tk 3 (v := ?qvu345) ?qyu345 ?qru345; case qyu345 => ((intro w hSw; (try dsimp only at hSw); go_simp); try (with_reducible rfl))
 (try simp only [tA, tS, tZ, Act.put, uA, uS, uZ])
 refine tk 4 (v := ?qvu346) ?qyu346 ?qru346; case qyu346 => ((intro w hSw; (try dsimp only at hSw); go_simp); try (with_reducible rfl))
 (try simp only [tA, tS, tZ, Act.put, uA, uS, uZ])
 refine tk 5 (v := ?qvu347) ?qyu347 ?qru347; case qyu347 => ((intro w hSw; (try dsimp only at hSw); go_simp); try (with_reducible rfl))
 (try simp only [tA, tS, tZ, Act.put, uA, uS, uZ])
 refine wpAnyH_ready (rs := [6]) (by kernel_rfl) (by simp) ?_
 refine AllReadyH.cons rfl (fun K hK => ?_) AllReadyH.nil
 go_simp
 refine (HW.out _ (K3.drew)).mono ?_
 rintro e w4 ⟨rfl, rfl⟩
 refine hK.out _ _ hHeld (fun hHeld => ?_)
 clear hK K
 (try simp only [tA, tS, tZ, Act.put, uA, uS, uZ])
 refine tk 7 (v := ?qvu348) ?qyu348 ?qru348; case qyu348 => ((intro w hSw; (try dsimp only at hSw); go_simp); try (with_reducible rfl))
 (try simp only [tA, tS, tZ, Act.put, uA, uS, uZ])
 refine wpAnyH_done (by kernel_rfl) ?_ _
 have K4 : Keep (fun _ => False) W w3.drew := K3.drew
 clear hHeld
 obtain ⟨wq, ewq⟩ : ∃ wq, w3.drew = wq := ⟨_, rfl⟩
 rw [ewq] at K4 ⊢
 clear ewq K3 k3
 obtain ⟨p0, p1, p2, p3⟩ := OB.out.keep K4 id
 have H4 := Lib.hid (H.out.same K4)
 have R4 := Lib.hid (RB.out.keep K4 id)
 have d3 : idxV none = -1 := rfl
 cases mine
 ·have fin : (if okey ∈ (x.s s).wrote then x else x.keepR s ⟨okey, okey, false, false⟩) = x.keepR s ⟨okey, okey, false, false⟩ := if_neg (by rw [ET.out]; exact of_decide_eq_false EMI.out)
  have FI := Lib.hid (HZ.out.symm.trans fin)
  have kdd := (Keep.refl (fun _ => False) wq).drew
  have H5 := Lib.hid (H4.out.same kdd)
  have OR6 := Lib.hid ((OR5.out.keep K4 (by simp)).keep kdd (by simp))
  rw [E5.out] at OR6
  have nn5 : n5 ≤ 1000 := by rw [← EN5.out, ← ET.out]; exact FRS.out
  have s5' := H5.out.s5 s hs
  rw [E5.out] at s5'
  have fz5 := H5.out.fz (3 + s * 6 + 5)
  have nm5 := Lib.hid (show ¬ (Value.slice A5 n5 c5).ownBlock = some m by have := H5.out.rm s hs; rwa [E5.out] at this)
  have ml5 := Lib.hid H5.out.mlt
  have nmM := Lib.hid (show ¬ (Value.slice A5 n5 c5).ownBlock = some M from fun q => FM.out (.inr (.inr ⟨s, hs, .inr (by rw [E5.out]; exact q)⟩)))
  have hHd : wq.drew.cell? ⟨M, 1, none⟩ = some (.int .i64 okey) := p1
  have ha : (wq.drew.alloc (.cells #[.int .i64 okey, .int .i64 okey, .bool false, .bool false] 125)).cell? ⟨M, 1, none⟩ = some (.int .i64 okey) := ((Keep.refl (fun _ => False) wq.drew).alloc _).cell hHd id
  have s5q : wq.cell? ⟨m, 3 + s * 6 + 5, none⟩ = some (.slice A5 n5 c5) := s5'
  have mlq : m < wq.heap.size := H4.out.mlt
  have s5a : (wq.drew.alloc (.cells #[.int .i64 okey, .int .i64 okey, .bool false, .bool false] 125)).cell? ⟨m, 3 + s * 6 + 5, none⟩ = some (.slice A5 n5 c5) := by rw [World.cell?_alloc_past _ _ _ (by exact mlq)]; exact s5'
  clear fin
  go_wp2_with fail
  refine wp_region_held_drew (S := fun w' => w'.cell? ⟨M, 1, none⟩ = some (.int .i64 okey)) (by kernel_rfl) p1 (fun hHeld => ?_)
  refine tk 0 (v := ?qvu349) ?qyu349 ?qru349; case qyu349 => ((intro w hSw; (try dsimp only at hSw); go_simp); try (with_reducible rfl))
  (try simp only [tA, tS, tZ, Act.put, uA, uS, uZ])
  refine tk 1 (v := ?qvu350) ?qyu350 ?qru350; case qyu350 => ((intro w hSw; (try dsimp only at hSw); go_simp); try (with_reducible rfl))
  (try simp only [tA, tS, tZ, Act.put, uA, uS, uZ])
  refine tk 2 (v := ?qvu351) ?qyu351 ?qru351; case qyu351 => ((intro w hSw; (try dsimp only at hSw); go_simp); try (with_reducible rfl))
  (try simp only [tA, tS, tZ, Act.put, uA, uS, uZ])
  refine tk 3 (v := ?qvu352) ?qyu352 ?qru352; case qyu352 => ((intro w hSw; (try dsimp only at hSw); go_simp); try (with_reducible rfl))
  (try simp only [tA, tS, tZ, Act.put, uA, uS, uZ])
  refine tk 5 (v := ?qvu353) ?qyu353 ?qru353; case qyu353 => ((intro w hSw; (try dsimp only at hSw); go_simp); try (with_reducible rfl))
  (try simp only [tA, tS, tZ, Act.put, uA, uS, uZ])
  refine tk 6 (v := ?qvu354) ?qyu354 ?qru354; case qyu354 => ((intro w hSw; (try dsimp only at hSw); go_simp); try (with_reducible rfl))
  (try simp only [tA, tS, tZ, Act.put, uA, uS, uZ])
  refine tk 7 (v := ?qvu355) ?qyu355 ?qru355; case qyu355 => ((intro w hSw; (try dsimp only at hSw); go_simp); try (with_reducible rfl))
  (try simp only [tA, tS, tZ, Act.put, uA, uS, uZ])
  refine tk 8 (v := ?qvu356) ?qyu356 ?qru356; case qyu356 => ((intro w hSw; (try dsimp only at hSw); go_simp); try (with_reducible rfl))
  (try simp only [tA, tS, tZ, Act.put, uA, uS, uZ])
  refine tk 9 (v := ?qvu357) ?qyu357 ?qru357; case qyu357 => ((intro w hSw; (try dsimp only at hSw); go_simp); try (with_reducible rfl))
  (try simp only [tA, tS, tZ, Act.put, uA, uS, uZ])
  refine wpAnyH_ready (rs := [4, 10]) (by kernel_rfl) (by simp) ?_
  refine AllReadyH.cons rfl (fun K hK => ?_) (AllReadyH.cons rfl (fun K hK => ?_) AllReadyH.nil)
  ·go_simp
   refine hK.out _ _ hHeld (fun hHeld => ?_)
   clear hK K
   (try simp only [tA, tS, tZ, Act.put, uA, uS, uZ])
   refine wpAnyH_ready (rs := [10]) (by kernel_rfl) (by simp) ?_
   refine AllReadyH.cons rfl (fun K hK => ?_) AllReadyH.nil
   go_simp
   refine hK.out _ _ (((Keep.refl (fun _ => False) _).alloc _).cell hHeld id) (fun hHeld => ?_)
   clear hK K
   (try simp only [tA, tS, tZ, Act.put, uA, uS, uZ])
   refine wpAnyH_ready (rs := [11]) (by kernel_rfl) (by simp) ?_
   refine AllReadyH.cons rfl (fun K hK => ?_) AllReadyH.nil
   refine step_pushM Try.underlying77 info_rr rfl (by decide) (by decide) rrC_len rr_one rfl (.tmp 52) (.tmp 58) rfl _ t.reads (by rfl) OR6.out ⟨okey, okey, false, false⟩ rfl (by rw [EN5.out]; omega) ?_
   rintro g6 c6 y6 o6 k6 hg6
   have z5 := k6.cell s5' nm5.out
   have zf := (k6.frozen (a := ⟨m, 3 + s * 6 + 5, none⟩) ml5.out nm5.out).trans fz5
   refine hK.out _ _ (k6.cell hHd nmM.out) (fun hHeld => ?_)
   clear hK K
   (try simp only [tA, tS, tZ, Act.put, uA, uS, uZ])
   refine tk 12 (v := ?qvu358) ?qyu358 ?qru358; case qyu358 => ((intro w hSw; (try dsimp only at hSw); go_simp); try (with_reducible rfl))
   (try simp only [tA, tS, tZ, Act.put, uA, uS, uZ])
   refine tk 13 (v := ?qvu359) ?qyu359 ?qru359; case qyu359 => ((intro w hSw; (try dsimp only at hSw); go_simp); try (with_reducible rfl))
   (try simp only [tA, tS, tZ, Act.put, uA, uS, uZ])
   refine wpAnyH_ready (rs := [14]) (by kernel_rfl) (by simp) ?_
   refine AllReadyH.cons rfl (fun K hK => ?_) AllReadyH.nil
   go_simp
   refine hK.out _ _ ((keep_one y6 ⟨m, 3 + s * 6 + 5, none⟩ _).cell hHeld (fun e => by have e : M = m := e; omega)) (fun hHeld => ?_)
   clear hK K
   (try simp only [tA, tS, tZ, Act.put, uA, uS, uZ])
   refine wpAnyH_done (by kernel_rfl) ?_ _
   have AR := H5.out.addR hs ⟨okey, okey, false, false⟩ (b := .slice (some ⟨g6, 0, none⟩) (t.reads.length + 1) c6) (y4 := y6) (by rw [E5.out]; exact k6) (by rw [ET.out]; exact o6) (by rw [E5.out]; intro g e; cases e; exact hg6)
   obtain ⟨wz, ez⟩ : ∃ wz, y6.setCell ⟨m, 3 + s * 6 + 5, none⟩ (.slice (some ⟨g6, 0, none⟩) (t.reads.length + 1) c6) = wz := ⟨_, rfl⟩
   rw [ez] at AR ⊢
   have R6 := Lib.hid ((R4.out.keep kdd id).keep AR.keeps FN.out)
   obtain ⟨q0, q1, q2, q3, q4, q5⟩ := R6.out
   have ARH := Lib.hid AR
   have KK := Lib.hid (K4.trans kdd)
   clear AR ez k6 o6 hg6 z5 zf
   go_wp2
   (obtain ⟨W7, eW7⟩ : ∃ W7, (((((wz.setCell ⟨N, 0, none⟩ (.int .i64 11)).setCell ⟨N, 1, none⟩ (.int .i64 0)).setCell ⟨N, 2, none⟩ (.slice none 0 0)).setCell ⟨N, 3, none⟩ (.int .i64 0)).setCell ⟨N, 4, none⟩ (.int .i64 0)) = W7 := ⟨_, rfl⟩; obtain ⟨⟨v0, v1, v2, v3, v4, _⟩, k7⟩ := res_set R6.out _ _ _ _ _ eW7; rw [eW7]; refine bodyPost_ret (v := .agg #[.int .i64 11, .int .i64 0, .slice none 0 0, .int .i64 0, .int .i64 0]) (by simp [results, Try.results65, go_sem, v0, v1, v2, v3, v4]) rfl ⟨rfl, ?_⟩)
   rw [FI.out]
   exact (ARH.out.front KK.out).fin KW.out (by have := EM.out; have := HMN.out; omega) hNW FN.out k7
  ·go_simp
   refine hK.out _ _ ha (fun hHeld => ?_)
   clear hK K
   (try simp only [tA, tS, tZ, Act.put, uA, uS, uZ])
   refine wpAnyH_ready (rs := [4]) (by kernel_rfl) (by simp) ?_
   refine AllReadyH.cons rfl (fun K hK => ?_) AllReadyH.nil
   go_simp
   refine hK.out _ _ ha (fun hHeld => ?_)
   clear hK K
   (try simp only [tA, tS, tZ, Act.put, uA, uS, uZ])
   refine wpAnyH_ready (rs := [11]) (by kernel_rfl) (by simp) ?_
   refine AllReadyH.cons rfl (fun K hK => ?_) AllReadyH.nil
   refine step_pushM Try.underlying77 info_rr rfl (by decide) (by decide) rrC_len rr_one rfl (.tmp 52) (.tmp 58) rfl _ t.reads (by rfl) OR6.out ⟨okey, okey, false, false⟩ rfl (by rw [EN5.out]; omega) ?_
   rintro g6 c6 y6 o6 k6 hg6
   have z5 := k6.cell s5' nm5.out
   have zf := (k6.frozen (a := ⟨m, 3 + s * 6 + 5, none⟩) ml5.out nm5.out).trans fz5
   refine hK.out _ _ (k6.cell hHd nmM.out) (fun hHeld => ?_)
   clear hK K
   (try simp only [tA, tS, tZ, Act.put, uA, uS, uZ])
   refine tk 12 (v := ?qvu360) ?qyu360 ?qru360; case qyu360 => ((intro w hSw; (try dsimp only at hSw); go_simp); try (with_reducible rfl))
   (try simp only [tA, tS, tZ, Act.put, uA, uS, uZ])
   refine tk 13 (v := ?qvu361) ?qyu361 ?qru361; case qyu361 => ((intro w hSw; (try dsimp only at hSw); go_simp); try (with_reducible rfl))
   (try simp only [tA, tS, tZ, Act.put, uA, uS, uZ])
   refine wpAnyH_ready (rs := [14]) (by kernel_rfl) (by simp) ?_
   refine AllReadyH.cons rfl (fun K hK => ?_) AllReadyH.nil
   go_simp
   refine hK.out _ _ ((keep_one y6 ⟨m, 3 + s * 6 + 5, none⟩ _).cell hHeld (fun e => by have e : M = m := e; omega)) (fun hHeld => ?_)
   clear hK K
   (try simp only [tA, tS, tZ, Act.put, uA, uS, uZ])
   refine wpAnyH_done (by kernel_rfl) ?_ _
   have AR := H5.out.addR hs ⟨okey, okey, false, false⟩ (b := .slice (some ⟨g6, 0, none⟩) (t.reads.length + 1) c6) (y4 := y6) (by rw [E5.out]; exact k6) (by rw [ET.out]; exact o6) (by rw [E5.out]; intro g e; cases e; exact hg6)
   obtain ⟨wz, ez⟩ : ∃ wz, y6.setCell ⟨m, 3 + s * 6 + 5, none⟩ (.slice (some ⟨g6, 0, none⟩) (t.reads.length + 1) c6) = wz := ⟨_, rfl⟩
   rw [ez] at AR ⊢
   have R6 := Lib.hid ((R4.out.keep kdd id).keep AR.keeps FN.out)
   obtain ⟨q0, q1, q2, q3, q4, q5⟩ := R6.out
   have ARH := Lib.hid AR
   have KK := Lib.hid (K4.trans kdd)
   clear AR ez k6 o6 hg6 z5 zf
   go_wp2
   (obtain ⟨W7, eW7⟩ : ∃ W7, (((((wz.setCell ⟨N, 0, none⟩ (.int .i64 11)).setCell ⟨N, 1, none⟩ (.int .i64 0)).setCell ⟨N, 2, none⟩ (.slice none 0 0)).setCell ⟨N, 3, none⟩ (.int .i64 0)).setCell ⟨N, 4, none⟩ (.int .i64 0)) = W7 := ⟨_, rfl⟩; obtain ⟨⟨v0, v1, v2, v3, v4, _⟩, k7⟩ := res_set R6.out _ _ _ _ _ eW7; rw [eW7]; refine bodyPost_ret (v := .agg #[.int .i64 11, .int .i64 0, .slice none 0 0, .int .i64 0, .int .i64 0]) (by simp [results, Try.results65, go_sem, v0, v1, v2, v3, v4]) rfl ⟨rfl, ?_⟩)
   rw [FI.out]
   exact (ARH.out.front KK.out).fin KW.out (by have := EM.out; have := HMN.out; omega) hNW FN.out k7
 ·obtain ⟨q0, q1, q2, q3, q4, q5⟩ := R4.out
  have R6 := R4
  have KK := Lib.hid K4
  have fin : (if okey ∈ (x.s s).wrote then x else x.keepR s ⟨okey, okey, false, false⟩) = x := if_pos (by rw [ET.out]; exact of_decide_eq_true EMI.out)
  have FI := Lib.hid (HZ.out.symm.trans fin)
  clear fin
  go_wp2
  (obtain ⟨W7, eW7⟩ : ∃ W7, (((((wq.setCell ⟨N, 0, none⟩ (.int .i64 11)).setCell ⟨N, 1, none⟩ (.int .i64 0)).setCell ⟨N, 2, none⟩ (.slice none 0 0)).setCell ⟨N, 3, none⟩ (.int .i64 0)).setCell ⟨N, 4, none⟩ (.int .i64 0)) = W7 := ⟨_, rfl⟩; obtain ⟨⟨v0, v1, v2, v3, v4, _⟩, k7⟩ := res_set R6.out _ _ _ _ _ eW7; rw [eW7]; refine bodyPost_ret (v := .agg #[.int .i64 11, .int .i64 0, .slice none 0 0, .int .i64 0, .int .i64 0]) (by simp [results, Try.results65, go_sem, v0, v1, v2, v3, v4]) rfl ⟨rfl, ?_⟩)
  rw [FI.out]
  exact (RmTo.same H4.out (KK.out.mono (fun _ e => e.elim))).fin KW.out (by have := EM.out; have := HMN.out; omega) hNW FN.out k7
set_option maxRecDepth 100000 in
set_option maxHeartbeats 8000000 in
theorem rwrite_some (h : RmAt w m vv sw sr x) (f : Few x) (s : Nat) (hs : s < 8) (o : OpI) (hk : o.kind = 2) (i : Nat) (ha : seesI x.v (x.s s).id (x.s s).start o.key = some i) (z : MoI) (hz : (if o.key ∈ (x.s s).wrote then x else x.keepR s ⟨o.key, o.key, false, false⟩) = z) :
  Calls Try.prog 65 #[.pointer (some ⟨m, 0, none⟩), .int .i64 s, opV o] w (DidR w m vv sw sr ⟨12, 0, [], 0, 0⟩ z) := by
 obtain ⟨W1, eW1, ob, kW1⟩ := op_box w o
 obtain ⟨W, eW, rb, kW2⟩ := res_box W1
 have kW := kW1.trans kW2
 have fM : ¬ FootR m vv sw sr w.heap.size := fun q => by have := h.lt _ q; omega
 have fN : ¬ FootR m vv sw sr W1.heap.size := fun q => by have := h.lt _ q; have := kW1.size; omega
 have hmw := h.mlt
 have H := Lib.hid (h.same kW)
 have s0 := H.out.s0 s hs
 have s1 := H.out.s1 s hs
 have s2 := H.out.s2 s hs
 have s3 := H.out.s3 s hs
 have s4 := H.out.s4 s hs
 have s5 := H.out.s5 s hs
 obtain ⟨A4, c4, e4⟩ := own_n _ _ _ (H.out.ow s hs)
 obtain ⟨A5, c5, e5⟩ := own_r _ _ _ (H.out.or' s hs)
 obtain ⟨t, et⟩ : ∃ t, x.s s = t := ⟨_, rfl⟩
 have OW := Lib.hid (H.out.ow s hs)
 have OR5 := Lib.hid (H.out.or' s hs)
 have FW := Lib.hid (f.w s hs)
 have FRS := Lib.hid (f.r s hs).1
 rw [et] at s0 s1 s2 s3 e4 e5 OW OR5 FW
 have ET := Lib.hid et
 obtain ⟨n4, en4⟩ : ∃ n, t.wrote.length = n := ⟨_, rfl⟩
 obtain ⟨n5, en5⟩ : ∃ n, t.reads.length = n := ⟨_, rfl⟩
 rw [en4] at e4
 rw [en5] at e5
 rw [e4] at s4
 rw [e5] at s5
 have E4 := Lib.hid e4
 have E5 := Lib.hid e5
 have EN4 := Lib.hid en4
 have EN5 := Lib.hid en5
 obtain ⟨M, eM⟩ : ∃ M, w.heap.size = M := ⟨_, rfl⟩
 obtain ⟨N, eN⟩ : ∃ N, W1.heap.size = N := ⟨_, rfl⟩
 have hMN : N = M + 1 := by rw [← eN, ← eW1, World.size_alloc, eM]
 have HMN := Lib.hid hMN
 have EM := Lib.hid eM
 have ES := Lib.hid eN
 have hNW : N < W.heap.size := by rw [← eW, World.size_alloc, eN]; exact Nat.lt_succ_self _
 rw [eM] at ob fM hmw
 rw [eN] at rb fN
 have OB := Lib.hid (ob.keep kW2 (fun e => e))
 have RB := Lib.hid rb
 have FM := Lib.hid fM
 have FN := Lib.hid fN
 have KW := Lib.hid kW
 have FV := Lib.hid f.v
 obtain ⟨o0, o1, o2, o3⟩ := OB.out
 obtain ⟨at', eat⟩ : ∃ at', seesI x.v t.id t.start o.key = at' := ⟨_, rfl⟩
 obtain ⟨mine, emi⟩ : ∃ b, decide (o.key ∈ t.wrote) = b := ⟨_, rfl⟩
 have EAT := Lib.hid eat
 have EMI := Lib.hid emi
 have HS := Lib.hid (fun (wx : World) (k : Keep (fun _ => False) W wx) => rsees_any (H.out.same k) (Nat.le_trans FV.out (by omega)) t (sw s) (sr s) o.key)
 have HW := Lib.hid (fun (wx : World) (k : Keep (fun _ => False) W wx) => rhas_any (OwnN.keep OW.out k (by simp)) (Nat.le_trans FW.out (by omega)) o.key mine EMI.out)
 rw [EAT.out, E4.out, E5.out] at HS
 rw [E4.out] at HW
 unfold txV at HS
 obtain ⟨ok, okey, ohi, oval⟩ := o
 obtain rfl : some i = at' := by rw [← EAT.out, ← ET.out]; exact ha.symm
 have d1 : (ok == 2) = true := by simpa using hk
 have d2 : (ok != 2) = false := by simpa using hk
 have HZ := Lib.hid hz
 clear hk ha hz
 clear hMN h ob rb fM fN f et e4 e5 en4 en5 eat emi kW kW1 kW2
 unfold DidR opV
 go_enter Try.func65, Try.ntmps65
 go_wp2_with fail
 refine wp_region_held_drew (S := fun w' => w'.cell? ⟨m, 3 + s * 6, none⟩ = some (.int .i64 t.id) ∧ w'.cell? ⟨m, 3 + s * 6 + 1, none⟩ = some (.int .i64 t.level) ∧ w'.cell? ⟨m, 3 + s * 6 + 2, none⟩ = some (.int .i64 t.ops) ∧ w'.cell? ⟨m, 3 + s * 6 + 3, none⟩ = some (.int .u64 t.start) ∧ w'.cell? ⟨m, 3 + s * 6 + 4, none⟩ = some (.slice A4 n4 c4) ∧ w'.cell? ⟨m, 3 + s * 6 + 5, none⟩ = some (.slice A5 n5 c5) ∧ w'.cell? ⟨M, 1, none⟩ = some (.int .i64 okey)) (by kernel_rfl) ⟨s0, s1, s2, s3, s4, s5, o1⟩ (fun hHeld => ?_)
 refine tk 0 (v := ?qvu362) ?qyu362 ?qru362; case qyu362 => ((intro w hSw; (try dsimp only at hSw); go_simp); try (with_reducible rfl))
 (try simp only [tA, tS, tZ, Act.put, uA, uS, uZ])
 refine tk 1 (v := ?qvu363) ?qyu363 ?qru363; case qyu363 => ((intro w hSw; (try dsimp only at hSw); go_simp); try (with_reducible rfl))
 (try simp only [tA, tS, tZ, Act.put, uA, uS, uZ])
 refine tk 2 (v := ?qvu364) ?qyu364 ?qru364; case qyu364 => ((intro w hSw; (try dsimp only at hSw); go_simp); try (with_reducible rfl))
 (try simp only [tA, tS, tZ, Act.put, uA, uS, uZ])
 refine tk 3 (v := ?qvu365) ?qyu365 ?qru365; case qyu365 => ((intro w hSw; (try dsimp only at hSw); go_simp); try (with_reducible rfl))
 (try simp only [tA, tS, tZ, Act.put, uA, uS, uZ])
 refine tk 4 (v := ?qvu366) ?qyu366 ?qru366; case qyu366 => ((intro w hSw; (try dsimp only at hSw); go_simp); try (with_reducible rfl))
 (try simp only [tA, tS, tZ, Act.put, uA, uS, uZ])
 refine tk 5 (v := ?qvu367) ?qyu367 ?qru367; case qyu367 => ((intro w hSw; (try dsimp only at hSw); go_simp); try (with_reducible rfl))
 (try simp only [tA, tS, tZ, Act.put, uA, uS, uZ])
 refine wpAnyH_ready (rs := [6]) (by kernel_rfl) (by simp) ?_
 refine AllReadyH.cons rfl (fun K hK => ?_) AllReadyH.nil
 go_simp
 refine (HS.out _ ((Keep.refl _ W).drew)).mono ?_
 rintro e w3 ⟨rfl, k3⟩
 refine hK.out _ _ ⟨k3.cell hHeld.1 id, k3.cell hHeld.2.1 id, k3.cell hHeld.2.2.1 id, k3.cell hHeld.2.2.2.1 id, k3.cell hHeld.2.2.2.2.1 id, k3.cell hHeld.2.2.2.2.2.1 id, k3.cell hHeld.2.2.2.2.2.2 id⟩ (fun hHeld => ?_)
 clear hK K
 (try simp only [tA, tS, tZ, Act.put, uA, uS, uZ])
 refine tk 7 (v := ?qvu368) ?qyu368 ?qru368; case qyu368 => ((intro w hSw; (try dsimp only at hSw); go_simp); try (with_reducible rfl))
 (try simp only [tA, tS, tZ, Act.put, uA, uS, uZ])
 refine wpAnyH_done (by kernel_rfl) ?_ _
 have K3 : Keep (fun _ => False) W w3 := ((Keep.refl _ W).drew).trans k3
 clear hHeld
 go_wp2_with fail
 refine wp_region_held_drew (S := fun w' => w'.cell? ⟨m, 3 + s * 6 + 4, none⟩ = some (.slice A4 n4 c4) ∧ w'.cell? ⟨M, 1, none⟩ = some (.int .i64 okey)) (by kernel_rfl) ⟨K3.cell s4 id, K3.cell o1 id⟩ (fun hHeld => ?_)
 refine tk 0 (v := ?qvu369) ?qyu369 ?qru369; case qyu369 => ((intro w hSw; (try dsimp only at hSw); go_simp); try (with_reducible rfl))
 (try simp only [tA, tS, tZ, Act.put, uA, uS, uZ])
 refine tk 1 (v := ?qvu370) ?qyu370 ?qru370; case qyu370 => ((intro w hSw; (try dsimp only at hSw); go_simp); try (with_reducible rfl))
 (try simp only [tA, tS, tZ, Act.put, uA, uS, uZ])
 refine tk 2 (v := ?qvu371) ?qyu371 ?qru371; case qyu371 => ((intro w hSw; (try dsimp only at hSw); go_simp); try (with_reducible rfl))
 (try simp only [tA, tS, tZ, Act.put, uA, uS, uZ])
 refine tk 3 (v := ?qvu372) ?qyu372 ?qru372; case qyu372 => ((intro w hSw; (try dsimp only at hSw); go_simp); try (with_reducible rfl))
 (try simp only [tA, tS, tZ, Act.put, uA, uS, uZ])
 refine tk 4 (v := ?qvu373) ?qyu373 ?qru373; case qyu373 => ((intro w hSw; (try dsimp only at hSw); go_simp); try (with_reducible rfl))
 (try simp only [tA, tS, tZ, Act.put, uA, uS, uZ])
 refine tk 5 (v := ?qvu374) ?qyu374 ?qru374; case qyu374 => ((intro w hSw; (try dsimp only at hSw); go_simp); try (with_reducible rfl))
 (try simp only [tA, tS, tZ, Act.put, uA, uS, uZ])
 refine wpAnyH_ready (rs := [6]) (by kernel_rfl) (by simp) ?_
 refine AllReadyH.cons rfl (fun K hK => ?_) AllReadyH.nil
 go_simp
 refine (HW.out _ (K3.drew)).mono ?_
 rintro e w4 ⟨rfl, rfl⟩
 refine hK.out _ _ hHeld (fun hHeld => ?_)
 clear hK K
 (try simp only [tA, tS, tZ, Act.put, uA, uS, uZ])
 refine tk 7 (v := ?qvu375) ?qyu375 ?qru375; case qyu375 => ((intro w hSw; (try dsimp only at hSw); go_simp); try (with_reducible rfl))
 (try simp only [tA, tS, tZ, Act.put, uA, uS, uZ])
 refine wpAnyH_done (by kernel_rfl) ?_ _
 have K4 : Keep (fun _ => False) W w3.drew := K3.drew
 clear hHeld
 obtain ⟨wq, ewq⟩ : ∃ wq, w3.drew = wq := ⟨_, rfl⟩
 rw [ewq] at K4 ⊢
 clear ewq K3 k3
 obtain ⟨p0, p1, p2, p3⟩ := OB.out.keep K4 id
 have H4 := Lib.hid (H.out.same K4)
 have R4 := Lib.hid (RB.out.keep K4 id)
 have d3 : idxV (some i) = (i : Int) := rfl
 have d4 : (0 : Int) ≤ (i : Int) := by omega
 have d5 : decide ((0 : Int) ≤ (i : Int)) = true := decide_eq_true d4
 cases mine
 ·have fin : (if okey ∈ (x.s s).wrote then x else x.keepR s ⟨okey, okey, false, false⟩) = x.keepR s ⟨okey, okey, false, false⟩ := if_neg (by rw [ET.out]; exact of_decide_eq_false EMI.out)
  have FI := Lib.hid (HZ.out.symm.trans fin)
  have kdd := (Keep.refl (fun _ => False) wq).drew
  have H5 := Lib.hid (H4.out.same kdd)
  have OR6 := Lib.hid ((OR5.out.keep K4 (by simp)).keep kdd (by simp))
  rw [E5.out] at OR6
  have nn5 : n5 ≤ 1000 := by rw [← EN5.out, ← ET.out]; exact FRS.out
  have s5' := H5.out.s5 s hs
  rw [E5.out] at s5'
  have fz5 := H5.out.fz (3 + s * 6 + 5)
  have nm5 := Lib.hid (show ¬ (Value.slice A5 n5 c5).ownBlock = some m by have := H5.out.rm s hs; rwa [E5.out] at this)
  have ml5 := Lib.hid H5.out.mlt
  have nmM := Lib.hid (show ¬ (Value.slice A5 n5 c5).ownBlock = some M from fun q => FM.out (.inr (.inr ⟨s, hs, .inr (by rw [E5.out]; exact q)⟩)))
  have hHd : wq.drew.cell? ⟨M, 1, none⟩ = some (.int .i64 okey) := p1
  have ha : (wq.drew.alloc (.cells #[.int .i64 okey, .int .i64 okey, .bool false, .bool false] 125)).cell? ⟨M, 1, none⟩ = some (.int .i64 okey) := ((Keep.refl (fun _ => False) wq.drew).alloc _).cell hHd id
  have s5q : wq.cell? ⟨m, 3 + s * 6 + 5, none⟩ = some (.slice A5 n5 c5) := s5'
  have mlq : m < wq.heap.size := H4.out.mlt
  have s5a : (wq.drew.alloc (.cells #[.int .i64 okey, .int .i64 okey, .bool false, .bool false] 125)).cell? ⟨m, 3 + s * 6 + 5, none⟩ = some (.slice A5 n5 c5) := by rw [World.cell?_alloc_past _ _ _ (by exact mlq)]; exact s5'
  clear fin
  go_wp2_with fail
  refine wp_region_held_drew (S := fun w' => w'.cell? ⟨M, 1, none⟩ = some (.int .i64 okey)) (by kernel_rfl) p1 (fun hHeld => ?_)
  refine tk 0 (v := ?qvu376) ?qyu376 ?qru376; case qyu376 => ((intro w hSw; (try dsimp only at hSw); go_simp); try (with_reducible rfl))
  (try simp only [tA, tS, tZ, Act.put, uA, uS, uZ])
  refine tk 1 (v := ?qvu377) ?qyu377 ?qru377; case qyu377 => ((intro w hSw; (try dsimp only at hSw); go_simp); try (with_reducible rfl))
  (try simp only [tA, tS, tZ, Act.put, uA, uS, uZ])
  refine tk 2 (v := ?qvu378) ?qyu378 ?qru378; case qyu378 => ((intro w hSw; (try dsimp only at hSw); go_simp); try (with_reducible rfl))
  (try simp only [tA, tS, tZ, Act.put, uA, uS, uZ])
  refine tk 3 (v := ?qvu379) ?qyu379 ?qru379; case qyu379 => ((intro w hSw; (try dsimp only at hSw); go_simp); try (with_reducible rfl))
  (try simp only [tA, tS, tZ, Act.put, uA, uS, uZ])
  refine tk 5 (v := ?qvu380) ?qyu380 ?qru380; case qyu380 => ((intro w hSw; (try dsimp only at hSw); go_simp); try (with_reducible rfl))
  (try simp only [tA, tS, tZ, Act.put, uA, uS, uZ])
  refine tk 6 (v := ?qvu381) ?qyu381 ?qru381; case qyu381 => ((intro w hSw; (try dsimp only at hSw); go_simp); try (with_reducible rfl))
  (try simp only [tA, tS, tZ, Act.put, uA, uS, uZ])
  refine tk 7 (v := ?qvu382) ?qyu382 ?qru382; case qyu382 => ((intro w hSw; (try dsimp only at hSw); go_simp); try (with_reducible rfl))
  (try simp only [tA, tS, tZ, Act.put, uA, uS, uZ])
  refine tk 8 (v := ?qvu383) ?qyu383 ?qru383; case qyu383 => ((intro w hSw; (try dsimp only at hSw); go_simp); try (with_reducible rfl))
  (try simp only [tA, tS, tZ, Act.put, uA, uS, uZ])
  refine tk 9 (v := ?qvu384) ?qyu384 ?qru384; case qyu384 => ((intro w hSw; (try dsimp only at hSw); go_simp); try (with_reducible rfl))
  (try simp only [tA, tS, tZ, Act.put, uA, uS, uZ])
  refine wpAnyH_ready (rs := [4, 10]) (by kernel_rfl) (by simp) ?_
  refine AllReadyH.cons rfl (fun K hK => ?_) (AllReadyH.cons rfl (fun K hK => ?_) AllReadyH.nil)
  ·go_simp
   refine hK.out _ _ hHeld (fun hHeld => ?_)
   clear hK K
   (try simp only [tA, tS, tZ, Act.put, uA, uS, uZ])
   refine wpAnyH_ready (rs := [10]) (by kernel_rfl) (by simp) ?_
   refine AllReadyH.cons rfl (fun K hK => ?_) AllReadyH.nil
   go_simp
   refine hK.out _ _ (((Keep.refl (fun _ => False) _).alloc _).cell hHeld id) (fun hHeld => ?_)
   clear hK K
   (try simp only [tA, tS, tZ, Act.put, uA, uS, uZ])
   refine wpAnyH_ready (rs := [11]) (by kernel_rfl) (by simp) ?_
   refine AllReadyH.cons rfl (fun K hK => ?_) AllReadyH.nil
   refine step_pushM Try.underlying77 info_rr rfl (by decide) (by decide) rrC_len rr_one rfl (.tmp 52) (.tmp 58) rfl _ t.reads (by rfl) OR6.out ⟨okey, okey, false, false⟩ rfl (by rw [EN5.out]; omega) ?_
   rintro g6 c6 y6 o6 k6 hg6
   have z5 := k6.cell s5' nm5.out
   have zf := (k6.frozen (a := ⟨m, 3 + s * 6 + 5, none⟩) ml5.out nm5.out).trans fz5
   refine hK.out _ _ (k6.cell hHd nmM.out) (fun hHeld => ?_)
   clear hK K
   (try simp only [tA, tS, tZ, Act.put, uA, uS, uZ])
   refine tk 12 (v := ?qvu385) ?qyu385 ?qru385; case qyu385 => ((intro w hSw; (try dsimp only at hSw); go_simp); try (with_reducible rfl))
   (try simp only [tA, tS, tZ, Act.put, uA, uS, uZ])
   refine tk 13 (v := ?qvu386) ?qyu386 ?qru386; case qyu386 => ((intro w hSw; (try dsimp only at hSw); go_simp); try (with_reducible rfl))
   (try simp only [tA, tS, tZ, Act.put, uA, uS, uZ])
   refine wpAnyH_ready (rs := [14]) (by kernel_rfl) (by simp) ?_
   refine AllReadyH.cons rfl (fun K hK => ?_) AllReadyH.nil
   go_simp
   refine hK.out _ _ ((keep_one y6 ⟨m, 3 + s * 6 + 5, none⟩ _).cell hHeld (fun e => by have e : M = m := e; omega)) (fun hHeld => ?_)
   clear hK K
   (try simp only [tA, tS, tZ, Act.put, uA, uS, uZ])
   refine wpAnyH_done (by kernel_rfl) ?_ _
   have AR := H5.out.addR hs ⟨okey, okey, false, false⟩ (b := .slice (some ⟨g6, 0, none⟩) (t.reads.length + 1) c6) (y4 := y6) (by rw [E5.out]; exact k6) (by rw [ET.out]; exact o6) (by rw [E5.out]; intro g e; cases e; exact hg6)
   obtain ⟨wz, ez⟩ : ∃ wz, y6.setCell ⟨m, 3 + s * 6 + 5, none⟩ (.slice (some ⟨g6, 0, none⟩) (t.reads.length + 1) c6) = wz := ⟨_, rfl⟩
   rw [ez] at AR ⊢
   have R6 := Lib.hid ((R4.out.keep kdd id).keep AR.keeps FN.out)
   obtain ⟨q0, q1, q2, q3, q4, q5⟩ := R6.out
   have ARH := Lib.hid AR
   have KK := Lib.hid (K4.trans kdd)
   clear AR ez k6 o6 hg6 z5 zf
   go_wp2
   (obtain ⟨W7, eW7⟩ : ∃ W7, (((((wz.setCell ⟨N, 0, none⟩ (.int .i64 12)).setCell ⟨N, 1, none⟩ (.int .i64 0)).setCell ⟨N, 2, none⟩ (.slice none 0 0)).setCell ⟨N, 3, none⟩ (.int .i64 0)).setCell ⟨N, 4, none⟩ (.int .i64 0)) = W7 := ⟨_, rfl⟩; obtain ⟨⟨v0, v1, v2, v3, v4, _⟩, k7⟩ := res_set R6.out _ _ _ _ _ eW7; rw [eW7]; refine bodyPost_ret (v := .agg #[.int .i64 12, .int .i64 0, .slice none 0 0, .int .i64 0, .int .i64 0]) (by simp [results, Try.results65, go_sem, v0, v1, v2, v3, v4]) rfl ⟨rfl, ?_⟩)
   rw [FI.out]
   exact (ARH.out.front KK.out).fin KW.out (by have := EM.out; have := HMN.out; omega) hNW FN.out k7
  ·go_simp
   refine hK.out _ _ ha (fun hHeld => ?_)
   clear hK K
   (try simp only [tA, tS, tZ, Act.put, uA, uS, uZ])
   refine wpAnyH_ready (rs := [4]) (by kernel_rfl) (by simp) ?_
   refine AllReadyH.cons rfl (fun K hK => ?_) AllReadyH.nil
   go_simp
   refine hK.out _ _ ha (fun hHeld => ?_)
   clear hK K
   (try simp only [tA, tS, tZ, Act.put, uA, uS, uZ])
   refine wpAnyH_ready (rs := [11]) (by kernel_rfl) (by simp) ?_
   refine AllReadyH.cons rfl (fun K hK => ?_) AllReadyH.nil
   refine step_pushM Try.underlying77 info_rr rfl (by decide) (by decide) rrC_len rr_one rfl (.tmp 52) (.tmp 58) rfl _ t.reads (by rfl) OR6.out ⟨okey, okey, false, false⟩ rfl (by rw [EN5.out]; omega) ?_
   rintro g6 c6 y6 o6 k6 hg6
   have z5 := k6.cell s5' nm5.out
   have zf := (k6.frozen (a := ⟨m, 3 + s * 6 + 5, none⟩) ml5.out nm5.out).trans fz5
   refine hK.out _ _ (k6.cell hHd nmM.out) (fun hHeld => ?_)
   clear hK K
   (try simp only [tA, tS, tZ, Act.put, uA, uS, uZ])
   refine tk 12 (v := ?qvu387) ?qyu387 ?qru387; case qyu387 => ((intro w hSw; (try dsimp only at hSw); go_simp); try (with_reducible rfl))
   (try simp only [tA, tS, tZ, Act.put, uA, uS, uZ])
   refine tk 13 (v := ?qvu388) ?qyu388 ?qru388; case qyu388 => ((intro w hSw; (try dsimp only at hSw); go_simp); try (with_reducible rfl))
   (try simp only [tA, tS, tZ, Act.put, uA, uS, uZ])
   refine wpAnyH_ready (rs := [14]) (by kernel_rfl) (by simp) ?_
   refine AllReadyH.cons rfl (fun K hK => ?_) AllReadyH.nil
   go_simp
   refine hK.out _ _ ((keep_one y6 ⟨m, 3 + s * 6 + 5, none⟩ _).cell hHeld (fun e => by have e : M = m := e; omega)) (fun hHeld => ?_)
   clear hK K
   (try simp only [tA, tS, tZ, Act.put, uA, uS, uZ])
   refine wpAnyH_done (by kernel_rfl) ?_ _
   have AR := H5.out.addR hs ⟨okey, okey, false, false⟩ (b := .slice (some ⟨g6, 0, none⟩) (t.reads.length + 1) c6) (y4 := y6) (by rw [E5.out]; exact k6) (by rw [ET.out]; exact o6) (by rw [E5.out]; intro g e; cases e; exact hg6)
   obtain ⟨wz, ez⟩ : ∃ wz, y6.setCell ⟨m, 3 + s * 6 + 5, none⟩ (.slice (some ⟨g6, 0, none⟩) (t.reads.length + 1) c6) = wz := ⟨_, rfl⟩
   rw [ez] at AR ⊢
   have R6 := Lib.hid ((R4.out.keep kdd id).keep AR.keeps FN.out)
   obtain ⟨q0, q1, q2, q3, q4, q5⟩ := R6.out
   have ARH := Lib.hid AR
   have KK := Lib.hid (K4.trans kdd)
   clear AR ez k6 o6 hg6 z5 zf
   go_wp2
   (obtain ⟨W7, eW7⟩ : ∃ W7, (((((wz.setCell ⟨N, 0, none⟩ (.int .i64 12)).setCell ⟨N, 1, none⟩ (.int .i64 0)).setCell ⟨N, 2, none⟩ (.slice none 0 0)).setCell ⟨N, 3, none⟩ (.int .i64 0)).setCell ⟨N, 4, none⟩ (.int .i64 0)) = W7 := ⟨_, rfl⟩; obtain ⟨⟨v0, v1, v2, v3, v4, _⟩, k7⟩ := res_set R6.out _ _ _ _ _ eW7; rw [eW7]; refine bodyPost_ret (v := .agg #[.int .i64 12, .int .i64 0, .slice none 0 0, .int .i64 0, .int .i64 0]) (by simp [results, Try.results65, go_sem, v0, v1, v2, v3, v4]) rfl ⟨rfl, ?_⟩)
   rw [FI.out]
   exact (ARH.out.front KK.out).fin KW.out (by have := EM.out; have := HMN.out; omega) hNW FN.out k7
 ·obtain ⟨q0, q1, q2, q3, q4, q5⟩ := R4.out
  have R6 := R4
  have KK := Lib.hid K4
  have fin : (if okey ∈ (x.s s).wrote then x else x.keepR s ⟨okey, okey, false, false⟩) = x := if_pos (by rw [ET.out]; exact of_decide_eq_true EMI.out)
  have FI := Lib.hid (HZ.out.symm.trans fin)
  clear fin
  go_wp2
  (obtain ⟨W7, eW7⟩ : ∃ W7, (((((wq.setCell ⟨N, 0, none⟩ (.int .i64 12)).setCell ⟨N, 1, none⟩ (.int .i64 0)).setCell ⟨N, 2, none⟩ (.slice none 0 0)).setCell ⟨N, 3, none⟩ (.int .i64 0)).setCell ⟨N, 4, none⟩ (.int .i64 0)) = W7 := ⟨_, rfl⟩; obtain ⟨⟨v0, v1, v2, v3, v4, _⟩, k7⟩ := res_set R6.out _ _ _ _ _ eW7; rw [eW7]; refine bodyPost_ret (v := .agg #[.int .i64 12, .int .i64 0, .slice none 0 0, .int .i64 0, .int .i64 0]) (by simp [results, Try.results65, go_sem, v0, v1, v2, v3, v4]) rfl ⟨rfl, ?_⟩)
  rw [FI.out]
  exact (RmTo.same H4.out (KK.out.mono (fun _ e => e.elim))).fin KW.out (by have := EM.out; have := HMN.out; omega) hNW FN.out k7
set_option maxRecDepth 100000 in
set_option maxHeartbeats 8000000 in
theorem rwrite_con (h : RmAt w m vv sw sr x) (f : Few x) (s : Nat) (hs : s < 8) (o : OpI) (hnr : ¬ ((o.kind = 2 ∧ seesI x.v (x.s s).id (x.s s).start o.key ≠ none) ∨ (o.kind ≠ 2 ∧ seesI x.v (x.s s).id (x.s s).start o.key = none))) (hmi : o.key ∉ (x.s s).wrote) (htk : x.taken (x.s s).id (x.s s).start o.key = true) :
  Calls Try.prog 65 #[.pointer (some ⟨m, 0, none⟩), .int .i64 s, opV o] w (DidR w m vv sw sr (MoI.bad 2) (x.over s)) := by
 obtain ⟨W1, eW1, ob, kW1⟩ := op_box w o
 obtain ⟨W, eW, rb, kW2⟩ := res_box W1
 have kW := kW1.trans kW2
 have fM : ¬ FootR m vv sw sr w.heap.size := fun q => by have := h.lt _ q; omega
 have fN : ¬ FootR m vv sw sr W1.heap.size := fun q => by have := h.lt _ q; have := kW1.size; omega
 have hmw := h.mlt
 have H := Lib.hid (h.same kW)
 have s0 := H.out.s0 s hs
 have s1 := H.out.s1 s hs
 have s2 := H.out.s2 s hs
 have s3 := H.out.s3 s hs
 have s4 := H.out.s4 s hs
 have s5 := H.out.s5 s hs
 obtain ⟨A4, c4, e4⟩ := own_n _ _ _ (H.out.ow s hs)
 obtain ⟨A5, c5, e5⟩ := own_r _ _ _ (H.out.or' s hs)
 obtain ⟨t, et⟩ : ∃ t, x.s s = t := ⟨_, rfl⟩
 have OW := Lib.hid (H.out.ow s hs)
 have OR5 := Lib.hid (H.out.or' s hs)
 have FW := Lib.hid (f.w s hs)
 have FRS := Lib.hid (f.r s hs).1
 rw [et] at s0 s1 s2 s3 e4 e5 OW OR5 FW
 have ET := Lib.hid et
 obtain ⟨n4, en4⟩ : ∃ n, t.wrote.length = n := ⟨_, rfl⟩
 obtain ⟨n5, en5⟩ : ∃ n, t.reads.length = n := ⟨_, rfl⟩
 rw [en4] at e4
 rw [en5] at e5
 rw [e4] at s4
 rw [e5] at s5
 have E4 := Lib.hid e4
 have E5 := Lib.hid e5
 have EN4 := Lib.hid en4
 have EN5 := Lib.hid en5
 obtain ⟨M, eM⟩ : ∃ M, w.heap.size = M := ⟨_, rfl⟩
 obtain ⟨N, eN⟩ : ∃ N, W1.heap.size = N := ⟨_, rfl⟩
 have hMN : N = M + 1 := by rw [← eN, ← eW1, World.size_alloc, eM]
 have HMN := Lib.hid hMN
 have EM := Lib.hid eM
 have ES := Lib.hid eN
 have hNW : N < W.heap.size := by rw [← eW, World.size_alloc, eN]; exact Nat.lt_succ_self _
 rw [eM] at ob fM hmw
 rw [eN] at rb fN
 have OB := Lib.hid (ob.keep kW2 (fun e => e))
 have RB := Lib.hid rb
 have FM := Lib.hid fM
 have FN := Lib.hid fN
 have KW := Lib.hid kW
 have FV := Lib.hid f.v
 obtain ⟨o0, o1, o2, o3⟩ := OB.out
 obtain ⟨at', eat⟩ : ∃ at', seesI x.v t.id t.start o.key = at' := ⟨_, rfl⟩
 obtain ⟨mine, emi⟩ : ∃ b, decide (o.key ∈ t.wrote) = b := ⟨_, rfl⟩
 have EAT := Lib.hid eat
 have EMI := Lib.hid emi
 have HS := Lib.hid (fun (wx : World) (k : Keep (fun _ => False) W wx) => rsees_any (H.out.same k) (Nat.le_trans FV.out (by omega)) t (sw s) (sr s) o.key)
 have HW := Lib.hid (fun (wx : World) (k : Keep (fun _ => False) W wx) => rhas_any (OwnN.keep OW.out k (by simp)) (Nat.le_trans FW.out (by omega)) o.key mine EMI.out)
 rw [EAT.out, E4.out, E5.out] at HS
 rw [E4.out] at HW
 unfold txV at HS
 have HT := Lib.hid (fun (wx : World) (k : Keep (fun _ => False) W wx) => rtaken_any (H.out.same k) (Nat.le_trans FV.out (by omega)) (fun i hi => Nat.le_trans (f.w i hi) (by omega)) t (sw s) (sr s) o.key)
 rw [E4.out, E5.out] at HT
 unfold txV at HT
 obtain ⟨ok, okey, ohi, oval⟩ := o
 obtain rfl : mine = false := by rw [← EMI.out, ← ET.out]; exact decide_eq_false hmi
 rw [ET.out] at htk
 rw [htk] at HT
 obtain ⟨b1, eb1⟩ : ∃ b, (ok == 2) = b := ⟨_, rfl⟩
 obtain ⟨b2, eb2⟩ : ∃ b, decide (0 ≤ idxV at') = b := ⟨_, rfl⟩
 have hb : (b1 = true ∧ b2 = false) ∨ (b1 = false ∧ b2 = true) := by
  rw [← eb1, ← eb2]
  cases at' with
  | none => left; have := hnr; rw [ET.out, EAT.out] at this; simp [idxV] at this ⊢; exact this
  | some i => right; have := hnr; rw [ET.out, EAT.out] at this; simp [idxV] at this ⊢; exact this
 have eb3 : (ok != 2) = !b1 := by rw [← eb1]; rfl
 have eb4 : decide (idxV at' < 0) = !b2 := by rw [← eb2]; by_cases e : 0 ≤ idxV at' <;> simp [e] <;> omega
 obtain ⟨av, eav⟩ : ∃ av, idxV at' = av := ⟨_, rfl⟩
 have EAV := Lib.hid eav
 rw [eav] at eb2 eb4 HS
 clear eav hnr
 have HO := Lib.hid (fun (wx : World) (k : Keep (fun _ => False) W wx) => rover_any (H.out.same k) (Nat.le_trans FV.out (by omega)) s hs 14 2)
 clear hmi htk
 clear hMN h ob rb fM fN f et e4 e5 en4 en5 eat emi kW kW1 kW2
 unfold DidR opV
 go_enter Try.func65, Try.ntmps65
 go_wp2_with fail
 refine wp_region_held_drew (S := fun w' => w'.cell? ⟨m, 3 + s * 6, none⟩ = some (.int .i64 t.id) ∧ w'.cell? ⟨m, 3 + s * 6 + 1, none⟩ = some (.int .i64 t.level) ∧ w'.cell? ⟨m, 3 + s * 6 + 2, none⟩ = some (.int .i64 t.ops) ∧ w'.cell? ⟨m, 3 + s * 6 + 3, none⟩ = some (.int .u64 t.start) ∧ w'.cell? ⟨m, 3 + s * 6 + 4, none⟩ = some (.slice A4 n4 c4) ∧ w'.cell? ⟨m, 3 + s * 6 + 5, none⟩ = some (.slice A5 n5 c5) ∧ w'.cell? ⟨M, 1, none⟩ = some (.int .i64 okey)) (by kernel_rfl) ⟨s0, s1, s2, s3, s4, s5, o1⟩ (fun hHeld => ?_)
 refine tk 0 (v := ?qvu389) ?qyu389 ?qru389; case qyu389 => ((intro w hSw; (try dsimp only at hSw); go_simp); try (with_reducible rfl))
 (try simp only [tA, tS, tZ, Act.put, uA, uS, uZ])
 refine tk 1 (v := ?qvu390) ?qyu390 ?qru390; case qyu390 => ((intro w hSw; (try dsimp only at hSw); go_simp); try (with_reducible rfl))
 (try simp only [tA, tS, tZ, Act.put, uA, uS, uZ])
 refine tk 2 (v := ?qvu391) ?qyu391 ?qru391; case qyu391 => ((intro w hSw; (try dsimp only at hSw); go_simp); try (with_reducible rfl))
 (try simp only [tA, tS, tZ, Act.put, uA, uS, uZ])
 refine tk 3 (v := ?qvu392) ?qyu392 ?qru392; case qyu392 => ((intro w hSw; (try dsimp only at hSw); go_simp); try (with_reducible rfl))
 (try simp only [tA, tS, tZ, Act.put, uA, uS, uZ])
 refine tk 4 (v := ?qvu393) ?qyu393 ?qru393; case qyu393 => ((intro w hSw; (try dsimp only at hSw); go_simp); try (with_reducible rfl))
 (try simp only [tA, tS, tZ, Act.put, uA, uS, uZ])
 refine tk 5 (v := ?qvu394) ?qyu394 ?qru394; case qyu394 => ((intro w hSw; (try dsimp only at hSw); go_simp); try (with_reducible rfl))
 (try simp only [tA, tS, tZ, Act.put, uA, uS, uZ])
 refine wpAnyH_ready (rs := [6]) (by kernel_rfl) (by simp) ?_
 refine AllReadyH.cons rfl (fun K hK => ?_) AllReadyH.nil
 go_simp
 refine (HS.out _ ((Keep.refl _ W).drew)).mono ?_
 rintro e w3 ⟨rfl, k3⟩
 refine hK.out _ _ ⟨k3.cell hHeld.1 id, k3.cell hHeld.2.1 id, k3.cell hHeld.2.2.1 id, k3.cell hHeld.2.2.2.1 id, k3.cell hHeld.2.2.2.2.1 id, k3.cell hHeld.2.2.2.2.2.1 id, k3.cell hHeld.2.2.2.2.2.2 id⟩ (fun hHeld => ?_)
 clear hK K
 (try simp only [tA, tS, tZ, Act.put, uA, uS, uZ])
 refine tk 7 (v := ?qvu395) ?qyu395 ?qru395; case qyu395 => ((intro w hSw; (try dsimp only at hSw); go_simp); try (with_reducible rfl))
 (try simp only [tA, tS, tZ, Act.put, uA, uS, uZ])
 refine wpAnyH_done (by kernel_rfl) ?_ _
 have K3 : Keep (fun _ => False) W w3 := ((Keep.refl _ W).drew).trans k3
 clear hHeld
 go_wp2_with fail
 refine wp_region_held_drew (S := fun w' => w'.cell? ⟨m, 3 + s * 6 + 4, none⟩ = some (.slice A4 n4 c4) ∧ w'.cell? ⟨M, 1, none⟩ = some (.int .i64 okey)) (by kernel_rfl) ⟨K3.cell s4 id, K3.cell o1 id⟩ (fun hHeld => ?_)
 refine tk 0 (v := ?qvu396) ?qyu396 ?qru396; case qyu396 => ((intro w hSw; (try dsimp only at hSw); go_simp); try (with_reducible rfl))
 (try simp only [tA, tS, tZ, Act.put, uA, uS, uZ])
 refine tk 1 (v := ?qvu397) ?qyu397 ?qru397; case qyu397 => ((intro w hSw; (try dsimp only at hSw); go_simp); try (with_reducible rfl))
 (try simp only [tA, tS, tZ, Act.put, uA, uS, uZ])
 refine tk 2 (v := ?qvu398) ?qyu398 ?qru398; case qyu398 => ((intro w hSw; (try dsimp only at hSw); go_simp); try (with_reducible rfl))
 (try simp only [tA, tS, tZ, Act.put, uA, uS, uZ])
 refine tk 3 (v := ?qvu399) ?qyu399 ?qru399; case qyu399 => ((intro w hSw; (try dsimp only at hSw); go_simp); try (with_reducible rfl))
 (try simp only [tA, tS, tZ, Act.put, uA, uS, uZ])
 refine tk 4 (v := ?qvu400) ?qyu400 ?qru400; case qyu400 => ((intro w hSw; (try dsimp only at hSw); go_simp); try (with_reducible rfl))
 (try simp only [tA, tS, tZ, Act.put, uA, uS, uZ])
 refine tk 5 (v := ?qvu401) ?qyu401 ?qru401; case qyu401 => ((intro w hSw; (try dsimp only at hSw); go_simp); try (with_reducible rfl))
 (try simp only [tA, tS, tZ, Act.put, uA, uS, uZ])
 refine wpAnyH_ready (rs := [6]) (by kernel_rfl) (by simp) ?_
 refine AllReadyH.cons rfl (fun K hK => ?_) AllReadyH.nil
 go_simp
 refine (HW.out _ (K3.drew)).mono ?_
 rintro e w4 ⟨rfl, rfl⟩
 refine hK.out _ _ hHeld (fun hHeld => ?_)
 clear hK K
 (try simp only [tA, tS, tZ, Act.put, uA, uS, uZ])
 refine tk 7 (v := ?qvu402) ?qyu402 ?qru402; case qyu402 => ((intro w hSw; (try dsimp only at hSw); go_simp); try (with_reducible rfl))
 (try simp only [tA, tS, tZ, Act.put, uA, uS, uZ])
 refine wpAnyH_done (by kernel_rfl) ?_ _
 have K4 : Keep (fun _ => False) W w3.drew := K3.drew
 clear hHeld
 obtain ⟨wq, ewq⟩ : ∃ wq, w3.drew = wq := ⟨_, rfl⟩
 rw [ewq] at K4 ⊢
 clear ewq K3 k3
 obtain ⟨p0, p1, p2, p3⟩ := OB.out.keep K4 id
 have H4 := Lib.hid (H.out.same K4)
 have R4 := Lib.hid (RB.out.keep K4 id)
 have s0 := H4.out.s0 s hs
 have s1 := H4.out.s1 s hs
 have s2 := H4.out.s2 s hs
 have s3 := H4.out.s3 s hs
 have s4 := H4.out.s4 s hs
 have s5 := H4.out.s5 s hs
 rw [ET.out] at s0 s1 s2 s3
 rw [E4.out] at s4
 rw [E5.out] at s5
 rcases hb with ⟨rfl, rfl⟩ | ⟨rfl, rfl⟩
 ·go_wp2_with fail
  refine wp_region_held_drew (S := fun w' => w'.cell? ⟨m, 3 + s * 6, none⟩ = some (.int .i64 t.id) ∧ w'.cell? ⟨m, 3 + s * 6 + 1, none⟩ = some (.int .i64 t.level) ∧ w'.cell? ⟨m, 3 + s * 6 + 2, none⟩ = some (.int .i64 t.ops) ∧ w'.cell? ⟨m, 3 + s * 6 + 3, none⟩ = some (.int .u64 t.start) ∧ w'.cell? ⟨m, 3 + s * 6 + 4, none⟩ = some (.slice A4 n4 c4) ∧ w'.cell? ⟨m, 3 + s * 6 + 5, none⟩ = some (.slice A5 n5 c5) ∧ w'.cell? ⟨M, 1, none⟩ = some (.int .i64 okey)) (by kernel_rfl) ⟨s0, s1, s2, s3, s4, s5, p1⟩ (fun hHeld => ?_)
  refine tk 0 (v := ?qvu403) ?qyu403 ?qru403; case qyu403 => ((intro w hSw; (try dsimp only at hSw); go_simp); try (with_reducible rfl))
  (try simp only [tA, tS, tZ, Act.put, uA, uS, uZ])
  refine tk 1 (v := ?qvu404) ?qyu404 ?qru404; case qyu404 => ((intro w hSw; (try dsimp only at hSw); go_simp); try (with_reducible rfl))
  (try simp only [tA, tS, tZ, Act.put, uA, uS, uZ])
  refine tk 2 (v := ?qvu405) ?qyu405 ?qru405; case qyu405 => ((intro w hSw; (try dsimp only at hSw); go_simp); try (with_reducible rfl))
  (try simp only [tA, tS, tZ, Act.put, uA, uS, uZ])
  refine tk 3 (v := ?qvu406) ?qyu406 ?qru406; case qyu406 => ((intro w hSw; (try dsimp only at hSw); go_simp); try (with_reducible rfl))
  (try simp only [tA, tS, tZ, Act.put, uA, uS, uZ])
  refine tk 4 (v := ?qvu407) ?qyu407 ?qru407; case qyu407 => ((intro w hSw; (try dsimp only at hSw); go_simp); try (with_reducible rfl))
  (try simp only [tA, tS, tZ, Act.put, uA, uS, uZ])
  refine tk 5 (v := ?qvu408) ?qyu408 ?qru408; case qyu408 => ((intro w hSw; (try dsimp only at hSw); go_simp); try (with_reducible rfl))
  (try simp only [tA, tS, tZ, Act.put, uA, uS, uZ])
  refine tk 6 (v := ?qvu409) ?qyu409 ?qru409; case qyu409 => ((intro w hSw; (try dsimp only at hSw); go_simp); try (with_reducible rfl))
  (try simp only [tA, tS, tZ, Act.put, uA, uS, uZ])
  refine tk 7 (v := ?qvu410) ?qyu410 ?qru410; case qyu410 => ((intro w hSw; (try dsimp only at hSw); go_simp); try (with_reducible rfl))
  (try simp only [tA, tS, tZ, Act.put, uA, uS, uZ])
  refine tk 8 (v := ?qvu411) ?qyu411 ?qru411; case qyu411 => ((intro w hSw; (try dsimp only at hSw); go_simp); try (with_reducible rfl))
  (try simp only [tA, tS, tZ, Act.put, uA, uS, uZ])
  refine wpAnyH_ready (rs := [9]) (by kernel_rfl) (by simp) ?_
  refine AllReadyH.cons rfl (fun K hK => ?_) AllReadyH.nil
  go_simp
  refine (HT.out _ (K4.drew)).mono ?_
  rintro e w5 ⟨rfl, k5⟩
  refine hK.out _ _ ⟨k5.cell hHeld.1 id, k5.cell hHeld.2.1 id, k5.cell hHeld.2.2.1 id, k5.cell hHeld.2.2.2.1 id, k5.cell hHeld.2.2.2.2.1 id, k5.cell hHeld.2.2.2.2.2.1 id, k5.cell hHeld.2.2.2.2.2.2 id⟩ (fun hHeld => ?_)
  clear hK K
  (try simp only [tA, tS, tZ, Act.put, uA, uS, uZ])
  refine tk 10 (v := ?qvu412) ?qyu412 ?qru412; case qyu412 => ((intro w hSw; (try dsimp only at hSw); go_simp); try (with_reducible rfl))
  (try simp only [tA, tS, tZ, Act.put, uA, uS, uZ])
  refine wpAnyH_done (by kernel_rfl) ?_ _
  have K5 := (K4.drew).trans k5
  clear hHeld
  go_wp2_with fail
  refine (HO.out w5 K5).mono ?_
  rintro e wa ⟨rfl, hto⟩
  have R6 := Lib.hid ((RB.out.keep K5 id).keep hto.keeps FN.out)
  obtain ⟨q0, q1, q2, q3, q4, q5⟩ := R6.out
  have TO := Lib.hid hto
  have KK := Lib.hid K5
  unfold reV
  clear hto HO K4 K5
  go_wp2
  (obtain ⟨W7, eW7⟩ : ∃ W7, (((((wa.setCell ⟨N, 0, none⟩ (.int .i64 14)).setCell ⟨N, 1, none⟩ (.int .i64 0)).setCell ⟨N, 2, none⟩ (.slice none 0 0)).setCell ⟨N, 3, none⟩ (.int .i64 4)).setCell ⟨N, 4, none⟩ (.int .i64 2)) = W7 := ⟨_, rfl⟩; obtain ⟨⟨v0, v1, v2, v3, v4, _⟩, k7⟩ := res_set R6.out _ _ _ _ _ eW7; rw [eW7]; refine bodyPost_ret (v := .agg #[.int .i64 14, .int .i64 0, .slice none 0 0, .int .i64 4, .int .i64 2]) (by simp [results, Try.results65, go_sem, v0, v1, v2, v3, v4]) rfl ⟨rfl, ?_⟩)
  exact (TO.out.front KK.out).fin KW.out (by have := EM.out; have := HMN.out; omega) hNW FN.out k7

 ·go_wp2_with fail
  refine wp_region_held_drew (S := fun w' => w'.cell? ⟨m, 3 + s * 6, none⟩ = some (.int .i64 t.id) ∧ w'.cell? ⟨m, 3 + s * 6 + 1, none⟩ = some (.int .i64 t.level) ∧ w'.cell? ⟨m, 3 + s * 6 + 2, none⟩ = some (.int .i64 t.ops) ∧ w'.cell? ⟨m, 3 + s * 6 + 3, none⟩ = some (.int .u64 t.start) ∧ w'.cell? ⟨m, 3 + s * 6 + 4, none⟩ = some (.slice A4 n4 c4) ∧ w'.cell? ⟨m, 3 + s * 6 + 5, none⟩ = some (.slice A5 n5 c5) ∧ w'.cell? ⟨M, 1, none⟩ = some (.int .i64 okey)) (by kernel_rfl) ⟨s0, s1, s2, s3, s4, s5, p1⟩ (fun hHeld => ?_)
  refine tk 0 (v := ?qvu413) ?qyu413 ?qru413; case qyu413 => ((intro w hSw; (try dsimp only at hSw); go_simp); try (with_reducible rfl))
  (try simp only [tA, tS, tZ, Act.put, uA, uS, uZ])
  refine tk 1 (v := ?qvu414) ?qyu414 ?qru414; case qyu414 => ((intro w hSw; (try dsimp only at hSw); go_simp); try (with_reducible rfl))
  (try simp only [tA, tS, tZ, Act.put, uA, uS, uZ])
  refine tk 2 (v := ?qvu415) ?qyu415 ?qru415; case qyu415 => ((intro w hSw; (try dsimp only at hSw); go_simp); try (with_reducible rfl))
  (try simp only [tA, tS, tZ, Act.put, uA, uS, uZ])
  refine tk 3 (v := ?qvu416) ?qyu416 ?qru416; case qyu416 => ((intro w hSw; (try dsimp only at hSw); go_simp); try (with_reducible rfl))
  (try simp only [tA, tS, tZ, Act.put, uA, uS, uZ])
  refine tk 4 (v := ?qvu417) ?qyu417 ?qru417; case qyu417 => ((intro w hSw; (try dsimp only at hSw); go_simp); try (with_reducible rfl))
  (try simp only [tA, tS, tZ, Act.put, uA, uS, uZ])
  refine tk 5 (v := ?qvu418) ?qyu418 ?qru418; case qyu418 => ((intro w hSw; (try dsimp only at hSw); go_simp); try (with_reducible rfl))
  (try simp only [tA, tS, tZ, Act.put, uA, uS, uZ])
  refine tk 6 (v := ?qvu419) ?qyu419 ?qru419; case qyu419 => ((intro w hSw; (try dsimp only at hSw); go_simp); try (with_reducible rfl))
  (try simp only [tA, tS, tZ, Act.put, uA, uS, uZ])
  refine tk 7 (v := ?qvu420) ?qyu420 ?qru420; case qyu420 => ((intro w hSw; (try dsimp only at hSw); go_simp); try (with_reducible rfl))
  (try simp only [tA, tS, tZ, Act.put, uA, uS, uZ])
  refine tk 8 (v := ?qvu421) ?qyu421 ?qru421; case qyu421 => ((intro w hSw; (try dsimp only at hSw); go_simp); try (with_reducible rfl))
  (try simp only [tA, tS, tZ, Act.put, uA, uS, uZ])
  refine wpAnyH_ready (rs := [9]) (by kernel_rfl) (by simp) ?_
  refine AllReadyH.cons rfl (fun K hK => ?_) AllReadyH.nil
  go_simp
  refine (HT.out _ (K4.drew)).mono ?_
  rintro e w5 ⟨rfl, k5⟩
  refine hK.out _ _ ⟨k5.cell hHeld.1 id, k5.cell hHeld.2.1 id, k5.cell hHeld.2.2.1 id, k5.cell hHeld.2.2.2.1 id, k5.cell hHeld.2.2.2.2.1 id, k5.cell hHeld.2.2.2.2.2.1 id, k5.cell hHeld.2.2.2.2.2.2 id⟩ (fun hHeld => ?_)
  clear hK K
  (try simp only [tA, tS, tZ, Act.put, uA, uS, uZ])
  refine tk 10 (v := ?qvu422) ?qyu422 ?qru422; case qyu422 => ((intro w hSw; (try dsimp only at hSw); go_simp); try (with_reducible rfl))
  (try simp only [tA, tS, tZ, Act.put, uA, uS, uZ])
  refine wpAnyH_done (by kernel_rfl) ?_ _
  have K5 := (K4.drew).trans k5
  clear hHeld
  go_wp2_with fail
  refine (HO.out w5 K5).mono ?_
  rintro e wa ⟨rfl, hto⟩
  have R6 := Lib.hid ((RB.out.keep K5 id).keep hto.keeps FN.out)
  obtain ⟨q0, q1, q2, q3, q4, q5⟩ := R6.out
  have TO := Lib.hid hto
  have KK := Lib.hid K5
  unfold reV
  clear hto HO K4 K5
  go_wp2
  (obtain ⟨W7, eW7⟩ : ∃ W7, (((((wa.setCell ⟨N, 0, none⟩ (.int .i64 14)).setCell ⟨N, 1, none⟩ (.int .i64 0)).setCell ⟨N, 2, none⟩ (.slice none 0 0)).setCell ⟨N, 3, none⟩ (.int .i64 4)).setCell ⟨N, 4, none⟩ (.int .i64 2)) = W7 := ⟨_, rfl⟩; obtain ⟨⟨v0, v1, v2, v3, v4, _⟩, k7⟩ := res_set R6.out _ _ _ _ _ eW7; rw [eW7]; refine bodyPost_ret (v := .agg #[.int .i64 14, .int .i64 0, .slice none 0 0, .int .i64 4, .int .i64 2]) (by simp [results, Try.results65, go_sem, v0, v1, v2, v3, v4]) rfl ⟨rfl, ?_⟩)
  exact (TO.out.front KK.out).fin KW.out (by have := EM.out; have := HMN.out; omega) hNW FN.out k7
end
end Go.Proofs.Ytkkjofefjepodaa
/- The document's own Model, ninth part: which calls may be; New, Live, Status. -/
namespace Go.Proofs.Ytkkjofefjepodaa
open Go.ChangeShapes Go.WideShapes Go.ChangeAt Go.RowKit
set_option linter.unusedVariables false
set_option linter.unusedSimpArgs false

section
variable {w w' W : World} {m : Nat} {vv vv' : Value} {sw sr sw' sr' : Nat → Value} {x y : MoI} {T : Nat → Prop}
set_option maxRecDepth 100000 in
set_option maxHeartbeats 4000000 in
theorem ropok_any (o : OpI) (r : Bool) (hr : okI o = r) (w : World) : Calls Try.prog 46 #[opV o] w fun e w' => e = .returned (.bool r) ∧ Keep (fun _ => False) w w' := by
 obtain ⟨W, eW, ob, kW⟩ := op_box w o
 obtain ⟨M, eM⟩ : ∃ M, w.heap.size = M := ⟨_, rfl⟩
 rw [eM] at ob
 obtain ⟨kind, key, hi, val⟩ := o
 obtain ⟨o0, o1, o2, o3⟩ := ob
 have HR := Lib.hid hr
 obtain ⟨kb, ekb⟩ : ∃ kb, decide (0 ≤ key ∧ key ≤ 63) = kb := ⟨_, rfl⟩
 obtain ⟨vb, evb⟩ : ∃ vb, decide (0 ≤ val ∧ val ≤ 65535) = vb := ⟨_, rfl⟩
 have EKB := Lib.hid ekb
 have EVB := Lib.hid evb
 clear hr ekb evb
 unfold opV
 go_enter Try.func46, Try.ntmps46
 go_upto_region 1 with fail
 go_cut [3] from 5 to 12 (fun v wx => v = .bool kb ∧ W = wx)
 case first =>
  by_cases h1 : 0 ≤ key
  ·have d1 : decide (0 ≤ key) = true := decide_eq_true h1
   by_cases h2 : key ≤ 63
   ·have d2 : decide (key ≤ 63) = true := decide_eq_true h2
    obtain rfl : kb = true := by rw [← EKB.out]; exact decide_eq_true ⟨h1, h2⟩
    go_wp2_with fail
    go_meet
    exact ⟨rfl, rfl⟩
   ·have d2 : decide (key ≤ 63) = false := decide_eq_false h2
    obtain rfl : kb = false := by rw [← EKB.out]; exact decide_eq_false (fun q => h2 q.2)
    go_wp2_with fail
    go_meet
    exact ⟨rfl, rfl⟩
  ·have d1 : decide (0 ≤ key) = false := decide_eq_false h1
   obtain rfl : kb = false := by rw [← EKB.out]; exact decide_eq_false (fun q => h1 q.1)
   go_wp2_with fail
   go_meet
   exact ⟨rfl, rfl⟩
 case rest =>
  obtain ⟨rfl, rfl⟩ := hcut
  go_upto_region 2 with fail
  go_cut [4] from 13 to 20 (fun v wx => v = .bool vb ∧ W = wx)
  case first =>
   by_cases h1 : 0 ≤ val
   ·have d1 : decide (0 ≤ val) = true := decide_eq_true h1
    by_cases h2 : val ≤ 65535
    ·have d2 : decide (val ≤ 65535) = true := decide_eq_true h2
     obtain rfl : vb = true := by rw [← EVB.out]; exact decide_eq_true ⟨h1, h2⟩
     go_wp2_with fail
     go_meet
     exact ⟨rfl, rfl⟩
    ·have d2 : decide (val ≤ 65535) = false := decide_eq_false h2
     obtain rfl : vb = false := by rw [← EVB.out]; exact decide_eq_false (fun q => h2 q.2)
     go_wp2_with fail
     go_meet
     exact ⟨rfl, rfl⟩
   ·have d1 : decide (0 ≤ val) = false := decide_eq_false h1
    obtain rfl : vb = false := by rw [← EVB.out]; exact decide_eq_false (fun q => h1 q.1)
    go_wp2_with fail
    go_meet
    exact ⟨rfl, rfl⟩
  case rest =>
   obtain ⟨rfl, rfl⟩ := hcut
   by_cases k1 : kind = 1
   ·subst k1
    cases kb
    ·have hq := of_decide_eq_false EKB.out
     obtain rfl : r = false := by rw [← HR.out]; show okI ⟨1, key, hi, val⟩ = false; simp only [okI]; simp; omega
     go_wp2
     go_ret
     exact ⟨rfl, kW⟩
    ·have hkb := of_decide_eq_true EKB.out
     by_cases h2 : hi = 0
     ·have dh2 : (hi == 0) = true := by simpa using h2
      by_cases h1 : val = 0
      ·have dh1 : (val == 0) = true := by simpa using h1
       obtain rfl : r = true := by rw [← HR.out]; show okI ⟨1, key, hi, val⟩ = true; simp only [okI]; simp; omega
       go_wp2
       go_ret
       exact ⟨rfl, kW⟩
      ·have dh1 : (val == 0) = false := by simpa using h1
       obtain rfl : r = false := by rw [← HR.out]; show okI ⟨1, key, hi, val⟩ = false; simp only [okI]; simp; omega
       go_wp2
       go_ret
       exact ⟨rfl, kW⟩
     ·have dh2 : (hi == 0) = false := by simpa using h2
      obtain rfl : r = false := by rw [← HR.out]; show okI ⟨1, key, hi, val⟩ = false; simp only [okI]; simp; omega
      go_wp2
      go_ret
      exact ⟨rfl, kW⟩
   by_cases k4 : kind = 4
   ·subst k4
    cases kb
    ·have hq := of_decide_eq_false EKB.out
     obtain rfl : r = false := by rw [← HR.out]; show okI ⟨4, key, hi, val⟩ = false; simp only [okI]; simp; omega
     go_wp2
     go_ret
     exact ⟨rfl, kW⟩
    ·have hkb := of_decide_eq_true EKB.out
     by_cases h2 : hi = 0
     ·have dh2 : (hi == 0) = true := by simpa using h2
      by_cases h1 : val = 0
      ·have dh1 : (val == 0) = true := by simpa using h1
       obtain rfl : r = true := by rw [← HR.out]; show okI ⟨4, key, hi, val⟩ = true; simp only [okI]; simp; omega
       go_wp2
       go_ret
       exact ⟨rfl, kW⟩
      ·have dh1 : (val == 0) = false := by simpa using h1
       obtain rfl : r = false := by rw [← HR.out]; show okI ⟨4, key, hi, val⟩ = false; simp only [okI]; simp; omega
       go_wp2
       go_ret
       exact ⟨rfl, kW⟩
     ·have dh2 : (hi == 0) = false := by simpa using h2
      obtain rfl : r = false := by rw [← HR.out]; show okI ⟨4, key, hi, val⟩ = false; simp only [okI]; simp; omega
      go_wp2
      go_ret
      exact ⟨rfl, kW⟩
   by_cases k2 : kind = 2
   ·subst k2
    cases kb
    ·have hq := of_decide_eq_false EKB.out
     obtain rfl : r = false := by rw [← HR.out]; show okI ⟨2, key, hi, val⟩ = false; simp only [okI]; simp; omega
     go_wp2
     go_ret
     exact ⟨rfl, kW⟩
    ·have hkb := of_decide_eq_true EKB.out
     cases vb
     ·have hq := of_decide_eq_false EVB.out
      obtain rfl : r = false := by rw [← HR.out]; show okI ⟨2, key, hi, val⟩ = false; simp only [okI]; simp; omega
      go_wp2
      go_ret
      exact ⟨rfl, kW⟩
     ·have hvb := of_decide_eq_true EVB.out
      by_cases h1 : hi = 0
      ·have dh1 : (hi == 0) = true := by simpa using h1
       obtain rfl : r = true := by rw [← HR.out]; show okI ⟨2, key, hi, val⟩ = true; simp only [okI]; simp; omega
       go_wp2
       go_ret
       exact ⟨rfl, kW⟩
      ·have dh1 : (hi == 0) = false := by simpa using h1
       obtain rfl : r = false := by rw [← HR.out]; show okI ⟨2, key, hi, val⟩ = false; simp only [okI]; simp; omega
       go_wp2
       go_ret
       exact ⟨rfl, kW⟩
   by_cases k3 : kind = 3
   ·subst k3
    cases kb
    ·have hq := of_decide_eq_false EKB.out
     obtain rfl : r = false := by rw [← HR.out]; show okI ⟨3, key, hi, val⟩ = false; simp only [okI]; simp; omega
     go_wp2
     go_ret
     exact ⟨rfl, kW⟩
    ·have hkb := of_decide_eq_true EKB.out
     cases vb
     ·have hq := of_decide_eq_false EVB.out
      obtain rfl : r = false := by rw [← HR.out]; show okI ⟨3, key, hi, val⟩ = false; simp only [okI]; simp; omega
      go_wp2
      go_ret
      exact ⟨rfl, kW⟩
     ·have hvb := of_decide_eq_true EVB.out
      by_cases h1 : hi = 0
      ·have dh1 : (hi == 0) = true := by simpa using h1
       obtain rfl : r = true := by rw [← HR.out]; show okI ⟨3, key, hi, val⟩ = true; simp only [okI]; simp; omega
       go_wp2
       go_ret
       exact ⟨rfl, kW⟩
      ·have dh1 : (hi == 0) = false := by simpa using h1
       obtain rfl : r = false := by rw [← HR.out]; show okI ⟨3, key, hi, val⟩ = false; simp only [okI]; simp; omega
       go_wp2
       go_ret
       exact ⟨rfl, kW⟩
   by_cases k5 : kind = 5
   ·subst k5
    cases kb
    ·have hq := of_decide_eq_false EKB.out
     obtain rfl : r = false := by rw [← HR.out]; show okI ⟨5, key, hi, val⟩ = false; simp only [okI]; simp; omega
     go_wp2
     go_ret
     exact ⟨rfl, kW⟩
    ·have hkb := of_decide_eq_true EKB.out
     by_cases h3 : key ≤ hi
     ·have dh3 : decide (key ≤ hi) = true := by simpa using h3
      by_cases h2 : hi ≤ 63
      ·have dh2 : decide (hi ≤ 63) = true := by simpa using h2
       by_cases h1 : val = 0
       ·have dh1 : (val == 0) = true := by simpa using h1
        obtain rfl : r = true := by rw [← HR.out]; show okI ⟨5, key, hi, val⟩ = true; simp only [okI]; simp; omega
        go_wp2
        go_ret
        exact ⟨rfl, kW⟩
       ·have dh1 : (val == 0) = false := by simpa using h1
        obtain rfl : r = false := by rw [← HR.out]; show okI ⟨5, key, hi, val⟩ = false; simp only [okI]; simp; omega
        go_wp2
        go_ret
        exact ⟨rfl, kW⟩
      ·have dh2 : decide (hi ≤ 63) = false := by simpa using h2
       obtain rfl : r = false := by rw [← HR.out]; show okI ⟨5, key, hi, val⟩ = false; simp only [okI]; simp; omega
       go_wp2
       go_ret
       exact ⟨rfl, kW⟩
     ·have dh3 : decide (key ≤ hi) = false := by simpa using h3
      obtain rfl : r = false := by rw [← HR.out]; show okI ⟨5, key, hi, val⟩ = false; simp only [okI]; simp; omega
      go_wp2
      go_ret
      exact ⟨rfl, kW⟩
   have f1 : (kind == 1) = false := by simpa using k1
   have f2 : (kind == 2) = false := by simpa using k2
   have f3 : (kind == 3) = false := by simpa using k3
   have f4 : (kind == 4) = false := by simpa using k4
   have f5 : (kind == 5) = false := by simpa using k5
   by_cases k67 : kind = 6 ∨ kind = 7
   ·rcases k67 with rfl | rfl
    ·by_cases hk : key = 0
     ·subst hk
      by_cases hh : hi = 0
      ·subst hh
       by_cases hv : val = 0
       ·subst hv
        obtain rfl : r = true := by rw [← HR.out]; rfl
        go_wp2
        go_ret
        exact ⟨rfl, kW⟩
       ·have e1 : (val == 0) = false := by simpa using hv
        obtain rfl : r = false := by rw [← HR.out]; simp [okI, hv]
        go_wp2
        go_ret
        exact ⟨rfl, kW⟩
      ·have e1 : (hi == 0) = false := by simpa using hh
       obtain rfl : r = false := by rw [← HR.out]; simp [okI, hh]
       go_wp2
       go_ret
       exact ⟨rfl, kW⟩
     ·have e1 : (key == 0) = false := by simpa using hk
      obtain rfl : r = false := by rw [← HR.out]; simp [okI, hk]
      go_wp2
      go_ret
      exact ⟨rfl, kW⟩
    ·by_cases hk : key = 0
     ·subst hk
      by_cases hh : hi = 0
      ·subst hh
       by_cases hv : val = 0
       ·subst hv
        obtain rfl : r = true := by rw [← HR.out]; rfl
        go_wp2
        go_ret
        exact ⟨rfl, kW⟩
       ·have e1 : (val == 0) = false := by simpa using hv
        obtain rfl : r = false := by rw [← HR.out]; simp [okI, hv]
        go_wp2
        go_ret
        exact ⟨rfl, kW⟩
      ·have e1 : (hi == 0) = false := by simpa using hh
       obtain rfl : r = false := by rw [← HR.out]; simp [okI, hh]
       go_wp2
       go_ret
       exact ⟨rfl, kW⟩
     ·have e1 : (key == 0) = false := by simpa using hk
      obtain rfl : r = false := by rw [← HR.out]; simp [okI, hk]
      go_wp2
      go_ret
      exact ⟨rfl, kW⟩
   ·have f6 : (kind == 6) = false := by simp; omega
    have f7 : (kind == 7) = false := by simp; omega
    obtain rfl : r = false := by rw [← HR.out]; unfold okI; simp [k1, k2, k3, k4, k5]; omega
    go_wp2
    go_ret
    exact ⟨rfl, kW⟩
end
end Go.Proofs.Ytkkjofefjepodaa
/- The document's own Model, Do: what answers at once, an abort, a commit. -/
namespace Go.Proofs.Ytkkjofefjepodaa
open Go.ChangeShapes Go.WideShapes Go.ChangeAt Go.RowKit
set_option linter.unusedVariables false
set_option linter.unusedSimpArgs false
section
variable {w w' W : World} {m : Nat} {vv vv' : Value} {sw sr sw' sr' : Nat → Value} {x y : MoI} {T : Nat → Prop}
/-- What Do answers, where no pairs come. -/
def DidD (w : World) (m : Nat) (vv : Value) (sw sr : Nat → Value) (r : ReI) (e0 : Int) (y : MoI) (e : Ending) (w' : World) : Prop := e = .returned (.tuple #[reV r (.slice none 0 0), .int .i64 e0]) ∧ RmTo w m vv sw sr y w'
theorem rcommit_any (h : RmAt w m vv sw sr x) (f : Few x) (s : Nat) (hs : s < 8) :
  Calls Try.prog 61 #[.pointer (some ⟨m, 0, none⟩), .int .i64 s] w (DidR w m vv sw sr (x.commit s).1 (x.commit s).2) := by
 by_cases hl : x.limit ≤ x.time
 ·have e : x.commit s = (MoI.bad 6, x.over s) := by unfold MoI.commit; rw [if_pos hl]
  rw [e]
  exact rcommit_late h f s hs hl
 ·by_cases hb : (x.s s).level ≠ 1 ∧ ({ x with time := x.time + 1 } : MoI).holds (x.s s) = false
  ·have e : x.commit s = (MoI.bad 3, ({ x with time := x.time + 1 } : MoI).over s) := by unfold MoI.commit; rw [if_neg hl]; simp only; rw [if_pos hb]
   rw [e]
   exact rcommit_bad h f s hs hl hb.1 hb.2
  ·have e : x.commit s = (⟨0, 0, [], 3, 0⟩, { x with time := x.time + 1, v := x.v.map (doneV (x.s s).id (x.time + 1)), s := putS x.s s tx0 }) := by unfold MoI.commit; rw [if_neg hl]; simp only; rw [if_neg hb]
   rw [e]
   refine rcommit_good h f s hs hl ?_
   by_cases h1 : (x.s s).level = 1
   ·exact .inl h1
   ·right
    cases hh : ({ x with time := x.time + 1 } : MoI).holds (x.s s) with
    | true => rfl
    | false => exact absurd ⟨h1, hh⟩ hb
set_option maxRecDepth 100000 in
set_option maxHeartbeats 4000000 in
theorem rdo_arg (h : RmAt w m vv sw sr x) (s : Int) (hb : s < 0 ∨ 7 < s) (o : OpI) :
  Calls Try.prog 37 #[.pointer (some ⟨m, 0, none⟩), .int .i64 s, opV o] w (DidD w m vv sw sr re0 1 x) := by
 obtain ⟨W1, eW1, ob, kW1⟩ := op_box w o
 obtain ⟨W, eW, rb, kW2⟩ := res_box W1
 have kW := kW1.trans kW2
 have fM : ¬ FootR m vv sw sr w.heap.size := fun q => by have := h.lt _ q; omega
 have fN : ¬ FootR m vv sw sr W1.heap.size := fun q => by have := h.lt _ q; have := kW1.size; omega
 obtain ⟨M, eM⟩ : ∃ M, w.heap.size = M := ⟨_, rfl⟩
 obtain ⟨N, eN⟩ : ∃ N, W1.heap.size = N := ⟨_, rfl⟩
 have hMN : N = M + 1 := by rw [← eN, ← eW1, World.size_alloc, eM]
 have hMw : w.heap.size ≤ N := by omega
 have MW := Lib.hid hMw
 have hNW : N < W.heap.size := by rw [← eW, World.size_alloc, eN]; exact Nat.lt_succ_self _
 have HMN := Lib.hid hMN
 have EM := Lib.hid eM
 have ES := Lib.hid eN
 rw [eM] at ob fM
 rw [eN] at rb fN
 have H := Lib.hid (h.same kW)
 have OB := Lib.hid (ob.keep kW2 (fun e => e))
 have RB := Lib.hid rb
 have FM := Lib.hid fM
 have FN := Lib.hid fN
 have KW := Lib.hid kW
 obtain ⟨o0, o1, o2, o3⟩ := OB.out
 clear hMN hMw h ob rb fM fN kW kW1 kW2
 obtain ⟨ok, okey, ohi, oval⟩ := o
 unfold DidD opV
 by_cases h1 : s < 0
 ·have d1 : decide (s < 0) = true := decide_eq_true h1
  clear hb
  go_enter Try.func37, Try.ntmps37
  have R6 := Lib.hid (RB.out)
  obtain ⟨q0, q1, q2, q3, q4, q5⟩ := R6.out
  go_wp2
  (obtain ⟨W7, eW7⟩ : ∃ W7, (((((W.setCell ⟨N, 0, none⟩ (.int .i64 0)).setCell ⟨N, 1, none⟩ (.int .i64 0)).setCell ⟨N, 2, none⟩ (.slice none 0 0)).setCell ⟨N, 3, none⟩ (.int .i64 0)).setCell ⟨N, 4, none⟩ (.int .i64 0)) = W7 := ⟨_, rfl⟩; obtain ⟨⟨v0, v1, v2, v3, v4, _⟩, k7⟩ := res_set R6.out _ _ _ _ _ eW7; rw [eW7]; refine bodyPost_ret (v := .tuple #[.agg #[.int .i64 0, .int .i64 0, .slice none 0 0, .int .i64 0, .int .i64 0], .int .i64 1]) (by simp [results, Try.results37, go_sem, v0, v1, v2, v3, v4]) rfl ⟨rfl, ?_⟩)
  exact RmTo.fin (RmTo.same H.out (Keep.refl _ W)) (KW.out) MW.out (hNW) FN.out k7
 ·have d1 : decide (s < 0) = false := decide_eq_false h1
  have h2 : 7 < s := by omega
  have d2 : decide (7 < s) = true := decide_eq_true h2
  clear hb
  go_enter Try.func37, Try.ntmps37
  have R6 := Lib.hid (RB.out)
  obtain ⟨q0, q1, q2, q3, q4, q5⟩ := R6.out
  go_wp2
  (obtain ⟨W7, eW7⟩ : ∃ W7, (((((W.setCell ⟨N, 0, none⟩ (.int .i64 0)).setCell ⟨N, 1, none⟩ (.int .i64 0)).setCell ⟨N, 2, none⟩ (.slice none 0 0)).setCell ⟨N, 3, none⟩ (.int .i64 0)).setCell ⟨N, 4, none⟩ (.int .i64 0)) = W7 := ⟨_, rfl⟩; obtain ⟨⟨v0, v1, v2, v3, v4, _⟩, k7⟩ := res_set R6.out _ _ _ _ _ eW7; rw [eW7]; refine bodyPost_ret (v := .tuple #[.agg #[.int .i64 0, .int .i64 0, .slice none 0 0, .int .i64 0, .int .i64 0], .int .i64 1]) (by simp [results, Try.results37, go_sem, v0, v1, v2, v3, v4]) rfl ⟨rfl, ?_⟩)
  exact RmTo.fin (RmTo.same H.out (Keep.refl _ W)) (KW.out) MW.out (hNW) FN.out k7
set_option maxRecDepth 100000 in
set_option maxHeartbeats 4000000 in
theorem rdo_bad (h : RmAt w m vv sw sr x) (s : Nat) (hs : s < 8) (o : OpI) (hb : (x.s s).id = 0 ∨ okI o = false) :
  Calls Try.prog 37 #[.pointer (some ⟨m, 0, none⟩), .int .i64 s, opV o] w (DidD w m vv sw sr re0 9 x) := by
 obtain ⟨W1, eW1, ob, kW1⟩ := op_box w o
 obtain ⟨W, eW, rb, kW2⟩ := res_box W1
 have kW := kW1.trans kW2
 have fM : ¬ FootR m vv sw sr w.heap.size := fun q => by have := h.lt _ q; omega
 have fN : ¬ FootR m vv sw sr W1.heap.size := fun q => by have := h.lt _ q; have := kW1.size; omega
 obtain ⟨M, eM⟩ : ∃ M, w.heap.size = M := ⟨_, rfl⟩
 obtain ⟨N, eN⟩ : ∃ N, W1.heap.size = N := ⟨_, rfl⟩
 have hMN : N = M + 1 := by rw [← eN, ← eW1, World.size_alloc, eM]
 have hMw : w.heap.size ≤ N := by omega
 have MW := Lib.hid hMw
 have hNW : N < W.heap.size := by rw [← eW, World.size_alloc, eN]; exact Nat.lt_succ_self _
 have HMN := Lib.hid hMN
 have EM := Lib.hid eM
 have ES := Lib.hid eN
 rw [eM] at ob fM
 rw [eN] at rb fN
 have H := Lib.hid (h.same kW)
 have OB := Lib.hid (ob.keep kW2 (fun e => e))
 have RB := Lib.hid rb
 have FM := Lib.hid fM
 have FN := Lib.hid fN
 have KW := Lib.hid kW
 obtain ⟨o0, o1, o2, o3⟩ := OB.out
 have d1 : decide ((s : Int) < 0) = false := decide_eq_false (by omega)
 have d2 : decide ((7 : Int) < (s : Int)) = false := decide_eq_false (by omega)
 have g1 : ¬ (s : Int) < 0 := by omega
 have g2 : ¬ (7 : Int) < (s : Int) := by omega
 have hs2 : (s : Int) < 8 := by omega
 obtain ⟨t, et⟩ : ∃ t, x.s s = t := ⟨_, rfl⟩
 have s0 := H.out.s0 s hs
 rw [et] at s0
 have ET := Lib.hid et
 by_cases hid : t.id = 0
 ·have d3 : (t.id == 0) = true := by simpa using hid
  clear hb et hid hMN hMw h ob rb fM fN kW kW1 kW2
  obtain ⟨ok, okey, ohi, oval⟩ := o
  unfold DidD opV
  go_enter Try.func37, Try.ntmps37
  have R6 := Lib.hid (RB.out)
  obtain ⟨q0, q1, q2, q3, q4, q5⟩ := R6.out
  go_wp2
  (obtain ⟨W7, eW7⟩ : ∃ W7, (((((W.setCell ⟨N, 0, none⟩ (.int .i64 0)).setCell ⟨N, 1, none⟩ (.int .i64 0)).setCell ⟨N, 2, none⟩ (.slice none 0 0)).setCell ⟨N, 3, none⟩ (.int .i64 0)).setCell ⟨N, 4, none⟩ (.int .i64 0)) = W7 := ⟨_, rfl⟩; obtain ⟨⟨v0, v1, v2, v3, v4, _⟩, k7⟩ := res_set R6.out _ _ _ _ _ eW7; rw [eW7]; refine bodyPost_ret (v := .tuple #[.agg #[.int .i64 0, .int .i64 0, .slice none 0 0, .int .i64 0, .int .i64 0], .int .i64 9]) (by simp [results, Try.results37, go_sem, v0, v1, v2, v3, v4]) rfl ⟨rfl, ?_⟩)
  exact RmTo.fin (RmTo.same H.out (Keep.refl _ W)) (KW.out) MW.out (hNW) FN.out k7
 ·have d3 : (t.id == 0) = false := by simpa using hid
  have OKI := Lib.hid (hb.resolve_left (by rw [et]; exact hid))
  clear hb et hid hMN hMw h ob rb fM fN kW kW1 kW2
  obtain ⟨ok, okey, ohi, oval⟩ := o
  unfold DidD opV
  go_enter Try.func37, Try.ntmps37
  go_wp2_with fail
  refine (ropok_any ⟨ok, okey, ohi, oval⟩ false OKI.out _).mono ?_
  rintro e w1 ⟨rfl, k1⟩
  have R6 := Lib.hid (RB.out.keep k1 id)
  obtain ⟨q0, q1, q2, q3, q4, q5⟩ := R6.out
  go_wp2
  (obtain ⟨W7, eW7⟩ : ∃ W7, (((((w1.setCell ⟨N, 0, none⟩ (.int .i64 0)).setCell ⟨N, 1, none⟩ (.int .i64 0)).setCell ⟨N, 2, none⟩ (.slice none 0 0)).setCell ⟨N, 3, none⟩ (.int .i64 0)).setCell ⟨N, 4, none⟩ (.int .i64 0)) = W7 := ⟨_, rfl⟩; obtain ⟨⟨v0, v1, v2, v3, v4, _⟩, k7⟩ := res_set R6.out _ _ _ _ _ eW7; rw [eW7]; refine bodyPost_ret (v := .tuple #[.agg #[.int .i64 0, .int .i64 0, .slice none 0 0, .int .i64 0, .int .i64 0], .int .i64 9]) (by simp [results, Try.results37, go_sem, v0, v1, v2, v3, v4]) rfl ⟨rfl, ?_⟩)
  exact RmTo.fin (RmTo.same (H.out.same k1) (Keep.refl _ w1)) (KW.out.trans k1) MW.out (by have := hNW; have := k1.size; omega) FN.out k7
set_option maxRecDepth 100000 in
set_option maxHeartbeats 4000000 in
theorem rdo_over (h : RmAt w m vv sw sr x) (f : Few x) (s : Nat) (hs : s < 8) (o : OpI) (hid : (x.s s).id ≠ 0) (hok : okI o = true) (hk : o.kind = 7) :
  Calls Try.prog 37 #[.pointer (some ⟨m, 0, none⟩), .int .i64 s, opV o] w (DidD w m vv sw sr ⟨0, 0, [], 4, 1⟩ 0 (x.over s)) := by
 obtain ⟨W1, eW1, ob, kW1⟩ := op_box w o
 obtain ⟨W, eW, rb, kW2⟩ := res_box W1
 have kW := kW1.trans kW2
 have fM : ¬ FootR m vv sw sr w.heap.size := fun q => by have := h.lt _ q; omega
 have fN : ¬ FootR m vv sw sr W1.heap.size := fun q => by have := h.lt _ q; have := kW1.size; omega
 obtain ⟨M, eM⟩ : ∃ M, w.heap.size = M := ⟨_, rfl⟩
 obtain ⟨N, eN⟩ : ∃ N, W1.heap.size = N := ⟨_, rfl⟩
 have hMN : N = M + 1 := by rw [← eN, ← eW1, World.size_alloc, eM]
 have hMw : w.heap.size ≤ N := by omega
 have MW := Lib.hid hMw
 have hNW : N < W.heap.size := by rw [← eW, World.size_alloc, eN]; exact Nat.lt_succ_self _
 have HMN := Lib.hid hMN
 have EM := Lib.hid eM
 have ES := Lib.hid eN
 rw [eM] at ob fM
 rw [eN] at rb fN
 have H := Lib.hid (h.same kW)
 have OB := Lib.hid (ob.keep kW2 (fun e => e))
 have RB := Lib.hid rb
 have FM := Lib.hid fM
 have FN := Lib.hid fN
 have KW := Lib.hid kW
 obtain ⟨o0, o1, o2, o3⟩ := OB.out
 have d1 : decide ((s : Int) < 0) = false := decide_eq_false (by omega)
 have d2 : decide ((7 : Int) < (s : Int)) = false := decide_eq_false (by omega)
 have g1 : ¬ (s : Int) < 0 := by omega
 have g2 : ¬ (7 : Int) < (s : Int) := by omega
 have hs2 : (s : Int) < 8 := by omega
 obtain ⟨t, et⟩ : ∃ t, x.s s = t := ⟨_, rfl⟩
 have s0 := H.out.s0 s hs
 rw [et] at s0
 have ET := Lib.hid et
 have d3 : (t.id == 0) = false := by rw [← et]; simpa using hid
 have OKI := Lib.hid hok
 have FV := Lib.hid f.v
 clear et hid hok f hMN hMw h ob rb fM fN kW kW1 kW2
 obtain ⟨ok, okey, ohi, oval⟩ := o
 obtain rfl : ok = 7 := hk
 unfold DidD opV
 go_enter Try.func37, Try.ntmps37
 go_wp2_with fail
 refine (ropok_any ⟨7, okey, ohi, oval⟩ true OKI.out _).mono ?_
 rintro e w1 ⟨rfl, k1⟩
 obtain ⟨p0, p1, p2, p3⟩ := OB.out.keep k1 id
 have hN1 : N < w1.heap.size := Nat.lt_of_lt_of_le hNW k1.size
 have H1 := Lib.hid (H.out.same k1)
 have R1 := Lib.hid (RB.out.keep k1 id)
 have K1 := Lib.hid (KW.out.trans k1)
 go_wp2_with fail
 refine (rover_any H1.out (Nat.le_trans FV.out (by omega)) s hs 0 1).mono ?_
 rintro e wa ⟨rfl, hto⟩
 have R6 := Lib.hid (R1.out.keep hto.keeps FN.out)
 obtain ⟨q0, q1, q2, q3, q4, q5⟩ := R6.out
 have TO := Lib.hid hto
 unfold reV
 clear hto
 go_wp2
 (obtain ⟨W7, eW7⟩ : ∃ W7, (((((wa.setCell ⟨N, 0, none⟩ (.int .i64 0)).setCell ⟨N, 1, none⟩ (.int .i64 0)).setCell ⟨N, 2, none⟩ (.slice none 0 0)).setCell ⟨N, 3, none⟩ (.int .i64 4)).setCell ⟨N, 4, none⟩ (.int .i64 1)) = W7 := ⟨_, rfl⟩; obtain ⟨⟨v0, v1, v2, v3, v4, _⟩, k7⟩ := res_set R6.out _ _ _ _ _ eW7; rw [eW7]; refine bodyPost_ret (v := .tuple #[.agg #[.int .i64 0, .int .i64 0, .slice none 0 0, .int .i64 4, .int .i64 1], .int .i64 0]) (by simp [results, Try.results37, go_sem, v0, v1, v2, v3, v4]) rfl ⟨rfl, ?_⟩)
 exact TO.out.fin K1.out MW.out hN1 FN.out k7
set_option maxRecDepth 100000 in
set_option maxHeartbeats 4000000 in
theorem rdo_commit (h : RmAt w m vv sw sr x) (f : Few x) (s : Nat) (hs : s < 8) (o : OpI) (hid : (x.s s).id ≠ 0) (hok : okI o = true) (hk : o.kind = 6) :
  Calls Try.prog 37 #[.pointer (some ⟨m, 0, none⟩), .int .i64 s, opV o] w (DidD w m vv sw sr (x.commit s).1 0 (x.commit s).2) := by
 obtain ⟨W1, eW1, ob, kW1⟩ := op_box w o
 obtain ⟨W, eW, rb, kW2⟩ := res_box W1
 have kW := kW1.trans kW2
 have fM : ¬ FootR m vv sw sr w.heap.size := fun q => by have := h.lt _ q; omega
 have fN : ¬ FootR m vv sw sr W1.heap.size := fun q => by have := h.lt _ q; have := kW1.size; omega
 obtain ⟨M, eM⟩ : ∃ M, w.heap.size = M := ⟨_, rfl⟩
 obtain ⟨N, eN⟩ : ∃ N, W1.heap.size = N := ⟨_, rfl⟩
 have hMN : N = M + 1 := by rw [← eN, ← eW1, World.size_alloc, eM]
 have hMw : w.heap.size ≤ N := by omega
 have MW := Lib.hid hMw
 have hNW : N < W.heap.size := by rw [← eW, World.size_alloc, eN]; exact Nat.lt_succ_self _
 have HMN := Lib.hid hMN
 have EM := Lib.hid eM
 have ES := Lib.hid eN
 rw [eM] at ob fM
 rw [eN] at rb fN
 have H := Lib.hid (h.same kW)
 have OB := Lib.hid (ob.keep kW2 (fun e => e))
 have RB := Lib.hid rb
 have FM := Lib.hid fM
 have FN := Lib.hid fN
 have KW := Lib.hid kW
 obtain ⟨o0, o1, o2, o3⟩ := OB.out
 have d1 : decide ((s : Int) < 0) = false := decide_eq_false (by omega)
 have d2 : decide ((7 : Int) < (s : Int)) = false := decide_eq_false (by omega)
 have g1 : ¬ (s : Int) < 0 := by omega
 have g2 : ¬ (7 : Int) < (s : Int) := by omega
 have hs2 : (s : Int) < 8 := by omega
 obtain ⟨t, et⟩ : ∃ t, x.s s = t := ⟨_, rfl⟩
 have s0 := H.out.s0 s hs
 rw [et] at s0
 have ET := Lib.hid et
 have d3 : (t.id == 0) = false := by rw [← et]; simpa using hid
 have OKI := Lib.hid hok
 have FF := Lib.hid f
 clear et hid hok f hMN hMw h ob rb fM fN kW kW1 kW2
 obtain ⟨ok, okey, ohi, oval⟩ := o
 obtain rfl : ok = 6 := hk
 obtain ⟨r, er⟩ : ∃ r, (x.commit s).1 = r := ⟨_, rfl⟩
 obtain ⟨z, ez⟩ : ∃ z, (x.commit s).2 = z := ⟨_, rfl⟩
 rw [er, ez]
 have ER := Lib.hid er
 have EZ := Lib.hid ez
 clear er ez
 unfold DidD opV
 go_enter Try.func37, Try.ntmps37
 go_wp2_with fail
 refine (ropok_any ⟨6, okey, ohi, oval⟩ true OKI.out _).mono ?_
 rintro e w1 ⟨rfl, k1⟩
 obtain ⟨p0, p1, p2, p3⟩ := OB.out.keep k1 id
 have hN1 : N < w1.heap.size := Nat.lt_of_lt_of_le hNW k1.size
 have H1 := Lib.hid (H.out.same k1)
 have R1 := Lib.hid (RB.out.keep k1 id)
 have K1 := Lib.hid (KW.out.trans k1)
 go_wp2_with fail
 refine (rcommit_any H1.out FF.out s hs).mono ?_
 rw [ER.out, EZ.out]
 rintro e wa ⟨rfl, hto⟩
 have R6 := Lib.hid (R1.out.keep hto.keeps FN.out)
 obtain ⟨q0, q1, q2, q3, q4, q5⟩ := R6.out
 have TO := Lib.hid hto
 unfold reV
 clear hto
 go_wp2
 (obtain ⟨W7, eW7⟩ : ∃ W7, (((((wa.setCell ⟨N, 0, none⟩ (.int .i64 r.e)).setCell ⟨N, 1, none⟩ (.int .i64 r.val)).setCell ⟨N, 2, none⟩ (.slice none 0 0)).setCell ⟨N, 3, none⟩ (.int .i64 r.over)).setCell ⟨N, 4, none⟩ (.int .i64 r.reason)) = W7 := ⟨_, rfl⟩; obtain ⟨⟨v0, v1, v2, v3, v4, _⟩, k7⟩ := res_set R6.out _ _ _ _ _ eW7; rw [eW7]; refine bodyPost_ret (v := .tuple #[.agg #[.int .i64 r.e, .int .i64 r.val, .slice none 0 0, .int .i64 r.over, .int .i64 r.reason], .int .i64 0]) (by simp [results, Try.results37, go_sem, v0, v1, v2, v3, v4]) rfl ⟨rfl, ?_⟩)
 exact TO.out.fin K1.out MW.out hN1 FN.out k7
set_option maxRecDepth 100000 in
set_option maxHeartbeats 4000000 in
theorem rdo_many (h : RmAt w m vv sw sr x) (s : Nat) (hs : s < 8) (o : OpI) (hid : (x.s s).id ≠ 0) (hok : okI o = true) (k7 : o.kind ≠ 7) (k6 : o.kind ≠ 6) (hm : 12 ≤ (x.s s).ops) :
  Calls Try.prog 37 #[.pointer (some ⟨m, 0, none⟩), .int .i64 s, opV o] w (DidD w m vv sw sr re0 65 x) := by
 obtain ⟨W1, eW1, ob, kW1⟩ := op_box w o
 obtain ⟨W, eW, rb, kW2⟩ := res_box W1
 have kW := kW1.trans kW2
 have fM : ¬ FootR m vv sw sr w.heap.size := fun q => by have := h.lt _ q; omega
 have fN : ¬ FootR m vv sw sr W1.heap.size := fun q => by have := h.lt _ q; have := kW1.size; omega
 obtain ⟨M, eM⟩ : ∃ M, w.heap.size = M := ⟨_, rfl⟩
 obtain ⟨N, eN⟩ : ∃ N, W1.heap.size = N := ⟨_, rfl⟩
 have hMN : N = M + 1 := by rw [← eN, ← eW1, World.size_alloc, eM]
 have hMw : w.heap.size ≤ N := by omega
 have MW := Lib.hid hMw
 have hNW : N < W.heap.size := by rw [← eW, World.size_alloc, eN]; exact Nat.lt_succ_self _
 have HMN := Lib.hid hMN
 have EM := Lib.hid eM
 have ES := Lib.hid eN
 rw [eM] at ob fM
 rw [eN] at rb fN
 have H := Lib.hid (h.same kW)
 have OB := Lib.hid (ob.keep kW2 (fun e => e))
 have RB := Lib.hid rb
 have FM := Lib.hid fM
 have FN := Lib.hid fN
 have KW := Lib.hid kW
 obtain ⟨o0, o1, o2, o3⟩ := OB.out
 have d1 : decide ((s : Int) < 0) = false := decide_eq_false (by omega)
 have d2 : decide ((7 : Int) < (s : Int)) = false := decide_eq_false (by omega)
 have g1 : ¬ (s : Int) < 0 := by omega
 have g2 : ¬ (7 : Int) < (s : Int) := by omega
 have hs2 : (s : Int) < 8 := by omega
 obtain ⟨t, et⟩ : ∃ t, x.s s = t := ⟨_, rfl⟩
 have s0 := H.out.s0 s hs
 rw [et] at s0
 have ET := Lib.hid et
 have d3 : (t.id == 0) = false := by rw [← et]; simpa using hid
 have OKI := Lib.hid hok
 have d4 : decide (12 ≤ t.ops) = true := by rw [← et]; exact decide_eq_true hm
 obtain ⟨ok, okey, ohi, oval⟩ := o
 have d7 : (ok == 7) = false := by simpa using k7
 have d6 : (ok == 6) = false := by simpa using k6
 clear et hid hok hm k7 k6 hMN hMw h ob rb fM fN kW kW1 kW2
 unfold DidD opV
 go_enter Try.func37, Try.ntmps37
 go_wp2_with fail
 refine (ropok_any ⟨ok, okey, ohi, oval⟩ true OKI.out _).mono ?_
 rintro e w1 ⟨rfl, k1⟩
 obtain ⟨p0, p1, p2, p3⟩ := OB.out.keep k1 id
 have hN1 : N < w1.heap.size := Nat.lt_of_lt_of_le hNW k1.size
 have H1 := Lib.hid (H.out.same k1)
 have R1 := Lib.hid (RB.out.keep k1 id)
 have K1 := Lib.hid (KW.out.trans k1)
 have z2 := H1.out.s2 s hs
 rw [ET.out] at z2
 have R6 := R1
 obtain ⟨q0, q1, q2, q3, q4, q5⟩ := R6.out
 go_wp2
 (obtain ⟨W7, eW7⟩ : ∃ W7, (((((w1.setCell ⟨N, 0, none⟩ (.int .i64 0)).setCell ⟨N, 1, none⟩ (.int .i64 0)).setCell ⟨N, 2, none⟩ (.slice none 0 0)).setCell ⟨N, 3, none⟩ (.int .i64 0)).setCell ⟨N, 4, none⟩ (.int .i64 0)) = W7 := ⟨_, rfl⟩; obtain ⟨⟨v0, v1, v2, v3, v4, _⟩, k7⟩ := res_set R6.out _ _ _ _ _ eW7; rw [eW7]; refine bodyPost_ret (v := .tuple #[.agg #[.int .i64 0, .int .i64 0, .slice none 0 0, .int .i64 0, .int .i64 0], .int .i64 65]) (by simp [results, Try.results37, go_sem, v0, v1, v2, v3, v4]) rfl ⟨rfl, ?_⟩)
 exact RmTo.fin (RmTo.same H1.out (Keep.refl _ w1)) K1.out MW.out hN1 FN.out k7
end
end Go.Proofs.Ytkkjofefjepodaa
