/- Several texts, one behind the other: LdD, LdG, LdX, LdY, LdB. -/
import Derived.Test.YtkkjofefjepodaaModelBaseZah
import Derived.Test.YtkkjofefjepodaaModelBaseZai
import Derived.Test.YtkkjofefjepodaaModelBaseZae
import Derived.Test.YtkkjofefjepodaaModelBaseZac
/- Package model as landed, in memory: a key's slice becomes another one; Collect. Condition: at most 100,000 versions. -/
namespace Go.Proofs.Ytkkjofefjepodaa
open Go.ChangeShapes Go.WideShapes Go.ChangeAt Go.RowKit
set_option linter.unusedVariables false
set_option linter.unusedSimpArgs false
section
variable {w w' w2 : World} {m g n c : Nat} {K : Nat → Value} {o : Nat → Nat} {z : LdI} {T : Nat → Prop} {F : Nat → FtI} {P : VeI → Bool} {t : TtI} {fv : Value} {l : List VeI}
def relab (o : Nat → Nat) (v : Value) (j : Nat) : Nat → Nat := fun g => if v.ownBlock = some g then 2 + j else o g
theorem LdAt.rekey (h : LdAt w m K o z) {j : Nat} (hj : j < 64) {v' : Value} {l' : List VeI} (k2 : Keep (fun b => (K j).ownBlock = some b) w w2) (o2 : OwnV w2 v' l') (hb : ∀ g, v'.ownBlock = some g → (K j).ownBlock = some g ∨ w.heap.size ≤ g)
  (hl : ∀ x ∈ l', VeAt w x ∧ o x.b = 80 ∧ o x.mr = 81 ∧ ∀ e, x.en = some e → o e = 81) (nd : ∀ k1 k2 u v, k1 < 64 → k2 < 64 → u ∈ putK z.k j l' k1 → v ∈ putK z.k j l' k2 → u.b = v.b → k1 = k2 ∧ u = v) :
  LdAt (w2.setCell ⟨m, 12 + j, none⟩ v') m (putV K j v') (relab o v' j) { z with k := putK z.k j l' } := by
 have ks := keep_one w2 ⟨m, 12 + j, none⟩ v'
 have old : ∀ g, g < w.heap.size → relab o v' j g = o g := fun g hg => by
  unfold relab
  by_cases e : v'.ownBlock = some g
  ·rw [if_pos e]
   rcases hb g e with q | q
   ·exact (h.oK j g hj q).symm
   ·omega
  ·rw [if_neg e]
 have lab : ∀ g x, o g = x → x ≠ 0 → relab o v' j g = x := fun g x e hx => by rw [old g (h.lt g (by rw [e]; exact hx))]; exact e
 have far : ∀ g, o g ≠ 0 → o g ≠ 2 + j → ¬ (K j).ownBlock = some g := fun g h0 hn e => hn (h.oK j g hj e)
 have nm : ∀ g, o g ≠ 0 → o g ≠ 1 → ¬ g = m := fun g _ hg e => hg (by rw [e]; exact h.om)
 have am := (h.a.keep k2 (far m (by rw [h.om]; omega) (by rw [h.om]; omega))).key hj v'
 have gm : ∀ g, v'.ownBlock = some g → ¬ g = m := fun g hg e => by
  subst e
  rcases hb g hg with q | q
  ·have := h.oK j g hj q; rw [h.om] at this; omega
  ·have := h.a.lt; omega
 refine ⟨⟨am.c0, am.c1, am.c2, am.c3, am.cs, am.ck, am.fz⟩, fun k hk => ?_, fun i t hi ht => ?_, fun k x hk hx => ?_, fun g hg => ?_, lab _ _ h.om (by decide), fun k g hk hg => ?_, fun i t hi ht => ⟨lab _ _ (h.oT i t hi ht).1 (by omega), lab _ _ (h.oT i t hi ht).2 (by decide)⟩, fun k x hk hx => ?_, nd, fun g hg => ?_⟩
 ·show OwnV _ (putV K j v' k) (putK z.k j l' k)
  unfold putV
  by_cases e : k = j
  ·subst e
   rw [if_pos rfl, putK_self]
   exact o2.keep ks gm
  ·rw [if_neg e, putK_ne _ _ e]
   refine ((h.r k hk).keep k2 fun g hg => ?_).keep ks fun g hg => ?_
   ·exact far g (by rw [h.oK k g hk hg]; omega) (by rw [h.oK k g hk hg]; omega)
   ·exact nm g (by rw [h.oK k g hk hg]; omega) (by rw [h.oK k g hk hg]; omega)
 ·have ol := (h.oT i t hi ht).1
  exact ((h.t i t hi ht).keep k2 (far _ (by rw [ol]; omega) (by rw [ol]; omega))).keep ks (nm _ (by rw [ol]; omega) (by rw [ol]; omega))
 ·have q : VeAt w x ∧ o x.b = 80 := by
   have hx : x ∈ putK z.k j l' k := hx
   by_cases e : k = j
   ·subst e; rw [putK_self] at hx; exact ⟨(hl x hx).1, (hl x hx).2.1⟩
   ·rw [putK_ne _ _ e] at hx; exact ⟨h.v k x hk hx, (h.oV k x hk hx).1⟩
  exact (q.1.keep k2 (far _ (by rw [q.2]; omega) (by rw [q.2]; omega))).keep ks (nm _ (by rw [q.2]; omega) (by rw [q.2]; omega))
 ·have q : o g = 81 := by
   by_cases e : v'.ownBlock = some g
   ·have hg : relab o v' j g = 81 := hg
    unfold relab at hg
    rw [if_pos e] at hg
    omega
   ·have hg : relab o v' j g = 81 := hg
    unfold relab at hg
    rw [if_neg e] at hg
    exact hg
  exact ((h.f g q).keep k2 (far _ (by rw [q]; omega) (by rw [q]; omega))).keep ks (nm _ (by rw [q]; omega) (by rw [q]; omega))
 ·have hg : (putV K j v' k).ownBlock = some g := hg
  unfold putV at hg
  by_cases e : k = j
  ·subst e
   rw [if_pos rfl] at hg
   unfold relab; rw [if_pos hg]
  ·rw [if_neg e] at hg
   exact lab _ _ (h.oK k g hk hg) (by omega)
 ·have hx : x ∈ putK z.k j l' k := hx
  have q : o x.b = 80 ∧ o x.mr = 81 ∧ ∀ e, x.en = some e → o e = 81 := by
   by_cases e : k = j
   ·subst e; rw [putK_self] at hx; exact (hl x hx).2
   ·rw [putK_ne _ _ e] at hx; exact h.oV k x hk hx
  exact ⟨lab _ _ q.1 (by decide), lab _ _ q.2.1 (by decide), fun e he => lab _ _ (q.2.2 e he) (by decide)⟩
 ·have hg : relab o v' j g ≠ 0 := hg
  unfold relab at hg
  by_cases e : v'.ownBlock = some g
  ·exact Nat.lt_of_lt_of_le (o2.lt e) ks.size
  ·rw [if_neg e] at hg
   exact Nat.lt_of_lt_of_le (h.lt g hg) (Nat.le_trans k2.size ks.size)
theorem relab_same (h : LdAt w m K o z) {j : Nat} (hj : j < 64) {v' : Value} (hb : v'.ownBlock = (K j).ownBlock) : relab o v' j = o := by
 funext g
 unfold relab
 by_cases e : v'.ownBlock = some g
 ·rw [if_pos e]; exact (h.oK j g hj (by rw [← hb]; exact e)).symm
 ·rw [if_neg e]
/-- The first keys are swept. -/
def sweptL (z : LdI) (low : Int) (j : Nat) : LdI := { z with k := fun k => if k < j then (z.k k).filter fun v => !garbV z.F low v else z.k k }
theorem swept_next (z : LdI) (low : Int) (j : Nat) : ({ sweptL z low j with k := putK (sweptL z low j).k j (((sweptL z low j).k j).filter fun v => !garbV z.F low v) } : LdI) = sweptL z low (j + 1) := by
 unfold sweptL
 simp only [LdI.mk.injEq, true_and, and_true]
 funext k
 by_cases e : k = j
 ·subst e
  rw [putK_self, if_neg (by omega), if_pos (by omega)]
 ·rw [putK_ne _ _ e]
  by_cases q : k < j
  ·rw [if_pos q, if_pos (by omega)]
  ·rw [if_neg q, if_neg (by omega)]
theorem LdAt.del (h : LdAt w m K o z) {j : Nat} (hj : j < 64) {v' : Value} (P : VeI → Bool) (k2 : Keep (fun b => (K j).ownBlock = some b) w w2) (o2 : OwnV w2 v' ((z.k j).filter P)) (hb : v'.ownBlock = (K j).ownBlock) :
  LdAt (w2.setCell ⟨m, 12 + j, none⟩ v') m (putV K j v') o { z with k := putK z.k j ((z.k j).filter P) } := by
 have sub : ∀ k x, x ∈ putK z.k j ((z.k j).filter P) k → x ∈ z.k k := fun k x hx => by
  by_cases e : k = j
  ·subst e; rw [putK_self] at hx; exact (List.mem_filter.1 hx).1
  ·rw [putK_ne _ _ e] at hx; exact hx
 have := h.rekey hj k2 o2 (fun g hg => .inl (by rw [← hb]; exact hg)) (fun x hx => ⟨h.v j x hj (List.mem_filter.1 hx).1, h.oV j x hj (List.mem_filter.1 hx).1⟩) (fun k1 k2 u v h1 h2 hu hv e => h.nd k1 k2 u v h1 h2 (sub _ _ hu) (sub _ _ hv) e)
 rw [relab_same h hj hb] at this
 exact this
structure RCol (w : World) (m p : Nat) (o : Nat → Nat) (K0 : Nat → Value) (z : LdI) (low : Int) (q : Value) (wr : World) (K : Nat → Value) (j : Nat) : Prop where
 jn : j ≤ 64
 q : q = .int .i64 j
 h : LdAt wr m K o (sweptL z low j)
 kk : ∀ k, j ≤ k → K k = K0 k
 cp : wr.cell? ⟨p, 0, none⟩ = some (.int .u64 low)
 k : Keep (fun g => o g ≠ 0) w wr
theorem swept_ge (z : LdI) (low : Int) (j : Nat) : (sweptL z low j).k j = z.k j := if_neg (Nat.lt_irrefl j)
theorem swept_all (z : LdI) (low : Int) : (sweptL z low 0) = z := by unfold sweptL; simp
theorem RCol.next {p : Nat} {K0 K : Nat → Value} {low : Int} {q : Value} {wr : World} {j : Nat} (h : RCol w m p o K0 z low q wr K j) (hj : j < 64) (hp : o p = 0) {v' : Value} (k2 : Keep (fun b => (K j).ownBlock = some b) wr w2) (o2 : OwnV w2 v' ((z.k j).filter fun v => !garbV z.F low v)) (hb : v'.ownBlock = (K j).ownBlock) :
  RCol w m p o K0 z low (.int .i64 ((j : Int) + 1)) (w2.setCell ⟨m, 12 + j, none⟩ v') (putV K j v') (j + 1) := by
 have hm := h.h.om
 have a := h.h.del hj (fun v => !garbV z.F low v) k2 (by rw [swept_ge]; exact o2) hb
 rw [swept_next] at a
 refine ⟨by omega, by go_num, a, fun k hk => ?_, ?_, (h.k.trans (k2.mono fun g e => by rw [h.h.oK j g hj e]; omega)).setCell (p := ⟨m, 12 + j, none⟩) (by show o m ≠ 0; rw [hm]; decide) _⟩
 ·unfold putV; rw [if_neg (by omega)]; exact h.kk k (by omega)
 ·rw [World.cell?_setCell_other _ _ _ _ (fun e => by have : m = p := congrArg Addr.block e; rw [this, hp] at hm; cases hm)]
  exact k2.cell h.cp (fun e => by have := h.h.oK j p hj e; omega)
theorem OwnV.shape3 {v : Value} (ow : OwnV w v l) : ∃ A n c, v = .slice A n c := by obtain ⟨A, c, e, _⟩ := ow.shape; exact ⟨A, _, c, e⟩
theorem used_swept (z : LdI) (low : Int) (n j : Nat) : usedL (sweptL z low j) n ≤ usedL z n := by
  induction n with
  | zero => exact Nat.le_refl _
  | succ n ih =>
    rw [usedL_succ, usedL_succ]
    have : ((sweptL z low j).k n).length ≤ (z.k n).length := by
      show (if n < j then (z.k n).filter _ else z.k n).length ≤ _
      split
      · exact List.length_filter_le _ _
      · exact Nat.le_refl _
    omega
theorem RCol.next' {p : Nat} {K0 K : Nat → Value} {low : Int} {q : Value} {wr : World} {j : Nat} (h : RCol w m p o K0 z low q wr K j) (hj : j < 64) (hp : o p = 0) {v' : Value} (k2 : Keep (fun b => (K0 j).ownBlock = some b) wr.drew w2) (o2 : OwnV w2 v' ((z.k j).filter fun v => !garbV z.F low v)) (hb : v'.ownBlock = (K0 j).ownBlock) :
  RCol w m p o K0 z low (.int .i64 ((j : Int) + 1)) (w2.setCell ⟨m, 12 + j, none⟩ v') (putV K j v') (j + 1) := by
 have e := h.kk j (Nat.le_refl j)
 exact h.next hj hp (by rw [e]; exact ((Keep.refl (fun b => (K0 j).ownBlock = some b) wr).drew).trans k2) o2 (by rw [e]; exact hb)
set_option maxRecDepth 100000 in
set_option maxHeartbeats 4000000 in
theorem collect_any (h : LdAt w m K o z) (hu : usedL z 64 ≤ 100000) (hb : ∀ i t, i < 8 → z.s i = some t → U64 t.start) :
  Calls Try.prog 21 #[.pointer (some ⟨m, 0, none⟩)] w fun e w' => e = .returned (.int .i64 ((usedL z 64 : Int) - (usedL (sweptL z (lowN z 8) 64) 64 : Int))) ∧ ∃ K', LdAt w' m K' o (sweptL z (lowN z 8) 64) ∧ Keep (fun g => o g ≠ 0) w w' := by
 have U := used_any h hu
 have HB := Lib.hid hb
 have H := Lib.hid h
 obtain ⟨low, el⟩ : ∃ low, lowN z 8 = low := ⟨_, rfl⟩
 have EL := Lib.hid el
 rw [el]
 have hu2 := used_swept z low 64 64
 obtain ⟨u, eu⟩ : ∃ u, usedL z 64 = u := ⟨_, rfl⟩
 obtain ⟨u2, eu2⟩ : ∃ u2, usedL (sweptL z low 64) 64 = u2 := ⟨_, rfl⟩
 have EU2 := Lib.hid eu2
 have EU := Lib.hid eu
 rw [eu, eu2] at hu2 ⊢
 rw [eu] at U hu
 clear h hb el eu eu2
 go_enter Try.func21, Try.ntmps21
 go_wp2_with fail
 refine U.mono ?_
 rintro e w1 ⟨rfl, k1⟩
 clear U
 have OL := oldest_any (H.out.quiet k1) HB.out
 rw [EL.out] at OL
 have K1 := Lib.hid k1
 clear k1
 go_wp2_with fail
 refine OL.mono ?_
 rintro e w2 ⟨rfl, k2⟩
 clear OL
 have K2 := Lib.hid (K1.out.trans k2)
 obtain ⟨w3, e3⟩ : ∃ w3, (w2.alloc (.cells #[.int .u64 0] 46)).setCell ⟨w2.heap.size, 0, none⟩ (.int .u64 low) = w3 := ⟨_, rfl⟩
 have k3 : Keep (fun _ => False) w2 w3 := by
  rw [← e3]
  exact ((Keep.refl (fun _ => False) w2).alloc _).older (keep_one _ ⟨w2.heap.size, 0, none⟩ _) (fun j e => by have e : j = w2.heap.size := e; omega)
 have cp : w3.cell? ⟨w2.heap.size, 0, none⟩ = some (.int .u64 low) := by
  rw [← e3]
  exact World.cell?_setCell_same _ _ _ (u := .int .u64 0) (by simp)
 have op : o w2.heap.size = 0 := by
  cases q : o w2.heap.size with
  | zero => rfl
  | succ n => have := H.out.lt w2.heap.size (by rw [q]; omega); have := K2.out.size; omega
 have OP := Lib.hid op
 have K3 := Lib.hid (K2.out.trans k3)
 have H3 := H.out.quiet K3.out
 have ST : RCol w m w2.heap.size o K z low (.int .i64 0) w3 K 0 := ⟨by decide, rfl, by rw [swept_all]; exact H3, fun _ _ => rfl, cp, K3.out.mono fun _ e => e.elim⟩
 have S0 := Lib.hid ST
 have HC := Lib.hid (keyC_cell H3)
 clear k2 k3 cp op H3 ST K1
 go_wp2_with (refine wpList_load_mid rfl 95 _ rfl ⟨m, 12, none⟩ rfl (keyC K) _ HC.out Try.underlying95 rfl (by kernel_rfl) ?_)
 clear e3
 go_loopw [5, 6, 15] (fun _ _ q wr => ∃ (K' : Nat → Value) (j : Nat), RCol w m w2.heap.size o K z low q wr K' j) (fun _ _ q _ => 64 - (intOf q).toNat)
 case atStart => exact ⟨K, 0, S0.out⟩
 case round =>
  obtain ⟨K', j, hR⟩ := hrel
  have RC := Lib.hid hR
  obtain ⟨hj, rfl, hh, hkk, hcp, hk⟩ := hR
  have wj : IntKind.i64.wrap ((j : Int) + 1) = (j : Int) + 1 := IntWalk.i64_in _ (by omega)
  by_cases hlt : j < 64
  ·have ix := fun w => run_index_arr (P := Try.prog) (keyC K) Try.underlying95 Try.underlying94 rfl (by kernel_rfl) hlt (keyC_at K hlt) w
   have kd : Keep (fun _ => False) wr wr.drew := (Keep.refl _ _).drew
   have hd := hh.quiet kd
   have ej := hkk j (Nat.le_refl j)
   have ob : ∀ g, (K j).ownBlock = some g → o g = 2 + j := fun g hg => hh.oK j g hlt (by rw [ej]; exact hg)
   have ow : OwnV wr.drew (K j) (z.k j) := by
    have := hd.r j hlt
    rw [ej, swept_ge] at this
    exact this
   have hvm : ∀ x ∈ z.k j, x ∈ (sweptL z low j).k j := fun x hx => by rw [swept_ge]; exact hx
   have D := delete_any (F := z.F) (P := garbV z.F low) (p := w2.heap.size) (f := 53) ow (by rw [← swept_ge z low j]; exact Nat.le_trans (by rw [swept_ge]; have := usedL_le z (show j + 1 ≤ 64 from hlt); rw [usedL_succ, EU.out] at this; omega) hu) (fun x hx w' k => by
    have ob2 : ∀ {g : Nat}, (K j).ownBlock = some g → o g = 2 + j := fun h => ob _ h
    have l := hh.oV j x hlt (hvm x hx)
    have v := hd.ver hlt (hvm x hx)
    exact ⟨v.a.keep k (fun e => by have := ob2 e; omega), v.m.keep k (fun e => by have := ob2 e; omega), v.e.keep k (fun g hg e => by have := ob2 e; have := l.2.2 g hg; omega)⟩) (fun w' k => hold_garb (k.cell (kd.cell hcp id) (fun e => by have : o w2.heap.size = 2 + j := ob _ e; have := OP.out; omega)))
   have CM := Lib.hid (show ∀ w', Keep (fun b => (K j).ownBlock = some b) wr.drew w' → (∃ u, w'.cell? ⟨m, 12 + j, none⟩ = some u ∧ w'.frozen? ⟨m, 12 + j, none⟩ = false) from fun w' k =>
    ⟨_, k.cell (hd.a.ck j hlt) (fun e => by have : o m = 2 + j := ob _ e; have := hh.om; omega), (k.frozen (a := ⟨m, 12 + j, none⟩) hd.a.lt (fun e => by have : o m = 2 + j := ob _ e; have := hh.om; omega)).trans (hd.a.fz (12 + j))⟩)
   obtain ⟨A, c, eK, jA, jB, jC⟩ := ow.shape
   clear jA jB jC
   obtain ⟨n, en⟩ : ∃ n, (z.k j).length = n := ⟨_, rfl⟩
   rw [en] at eK
   rw [eK] at ix D CM
   have EK := Lib.hid eK
   clear hh hkk hcp hk kd hd ej ob ow hvm eK en
   have hlt2 : (j : Int) < 64 := by omega
   go_wp2_with fail
   refine wp_region_held_drew (S := fun w' => True) (by kernel_rfl) trivial (fun hHeld => ?_)
   refine wpAnyH_take (i := 0) (v := ?qvu0) rfl (by kernel_rfl) (by kernel_rfl) (by kernel_rfl) (fun _ _ _ h => h) (Or.inl ⟨by rfl, ?qyu0⟩) (by assumption) ?qru0; case qyu0 => ((intro w hSw; (try dsimp only at hSw); go_simp); try (with_reducible rfl))
   ((try simp only [List.getElem_toArray]); (try simp only [List.getElem_cons_succ]); (try simp only [List.getElem_cons_zero]); (try simp only [Act.put]); (try simp only [List.setIfInBounds_toArray]); (try simp only [List.set_cons_succ]); (try simp only [List.set_cons_zero]))
   refine wpAnyH_take (i := 1) (v := ?qvu1) rfl (by kernel_rfl) (by kernel_rfl) (by kernel_rfl) (fun _ _ _ h => h) (Or.inl ⟨by rfl, ?qyu1⟩) (by assumption) ?qru1; case qyu1 => ((intro w hSw; (try dsimp only at hSw); go_simp); try (with_reducible rfl))
   ((try simp only [List.getElem_toArray]); (try simp only [List.getElem_cons_succ]); (try simp only [List.getElem_cons_zero]); (try simp only [Act.put]); (try simp only [List.setIfInBounds_toArray]); (try simp only [List.set_cons_succ]); (try simp only [List.set_cons_zero]))
   refine wpAnyH_take (i := 2) (v := ?qvu2) rfl (by kernel_rfl) (by kernel_rfl) (by kernel_rfl) (fun _ _ _ h => h) (Or.inl ⟨by rfl, ?qyu2⟩) (by assumption) ?qru2; case qyu2 => ((intro w hSw; (try dsimp only at hSw); go_simp); try (with_reducible rfl))
   ((try simp only [List.getElem_toArray]); (try simp only [List.getElem_cons_succ]); (try simp only [List.getElem_cons_zero]); (try simp only [Act.put]); (try simp only [List.setIfInBounds_toArray]); (try simp only [List.set_cons_succ]); (try simp only [List.set_cons_zero]))
   refine wpAnyH_take (i := 3) (v := ?qvu3) rfl (by kernel_rfl) (by kernel_rfl) (by kernel_rfl) (fun _ _ _ h => h) (Or.inl ⟨by rfl, ?qyu3⟩) (by assumption) ?qru3; case qyu3 => ((intro w hSw; (try dsimp only at hSw); go_simp); try (with_reducible rfl))
   ((try simp only [List.getElem_toArray]); (try simp only [List.getElem_cons_succ]); (try simp only [List.getElem_cons_zero]); (try simp only [Act.put]); (try simp only [List.setIfInBounds_toArray]); (try simp only [List.set_cons_succ]); (try simp only [List.set_cons_zero]))
   refine wpAnyH_take (i := 5) (v := ?qvu4) rfl (by kernel_rfl) (by kernel_rfl) (by kernel_rfl) (fun _ _ _ h => h) (Or.inl ⟨by rfl, ?qyu4⟩) (by assumption) ?qru4; case qyu4 => ((intro w hSw; (try dsimp only at hSw); go_simp); try (with_reducible rfl))
   ((try simp only [List.getElem_toArray]); (try simp only [List.getElem_cons_succ]); (try simp only [List.getElem_cons_zero]); (try simp only [Act.put]); (try simp only [List.setIfInBounds_toArray]); (try simp only [List.set_cons_succ]); (try simp only [List.set_cons_zero]))
   refine wpAnyH_take (i := 6) (v := ?qvu5) rfl (by kernel_rfl) (by kernel_rfl) (by kernel_rfl) (fun _ _ _ h => h) (Or.inl ⟨by rfl, ?qyu5⟩) (by assumption) ?qru5; case qyu5 => ((intro w hSw; (try dsimp only at hSw); go_simp); try (with_reducible rfl))
   ((try simp only [List.getElem_toArray]); (try simp only [List.getElem_cons_succ]); (try simp only [List.getElem_cons_zero]); (try simp only [Act.put]); (try simp only [List.setIfInBounds_toArray]); (try simp only [List.set_cons_succ]); (try simp only [List.set_cons_zero]))
   refine wpAnyH_ready (rs := [4]) (by kernel_rfl) (by simp) ?_
   refine AllReadyH.cons rfl (fun K hK => ?_) AllReadyH.nil
   go_simp
   refine D.mono ?_
   rintro e w4 ⟨v', rfl, o4, ob4, k4⟩
   obtain ⟨A4, n4, c4, rfl⟩ := OwnV.shape3 o4
   have NX := Lib.hid (RC.out.next' hlt (OP.out) (by rw [EK.out]; exact k4) o4 (by rw [EK.out]; exact ob4))
   obtain ⟨um, cmj, fmj⟩ := CM.out w4 k4
   clear o4 ob4 k4
   clear D
   refine hK.out _ _ trivial (fun hHeld => ?_)
   clear hK K
   ((try simp only [List.getElem_toArray]); (try simp only [List.getElem_cons_succ]); (try simp only [List.getElem_cons_zero]); (try simp only [Act.put]); (try simp only [List.setIfInBounds_toArray]); (try simp only [List.set_cons_succ]); (try simp only [List.set_cons_zero]))
   refine wpAnyH_take (i := 7) (v := ?qvu6) rfl (by kernel_rfl) (by kernel_rfl) (by kernel_rfl) (fun _ _ _ h => h) (Or.inl ⟨by rfl, ?qyu6⟩) (by assumption) ?qru6; case qyu6 => ((intro w hSw; (try dsimp only at hSw); go_simp); try (with_reducible rfl))
   ((try simp only [List.getElem_toArray]); (try simp only [List.getElem_cons_succ]); (try simp only [List.getElem_cons_zero]); (try simp only [Act.put]); (try simp only [List.setIfInBounds_toArray]); (try simp only [List.set_cons_succ]); (try simp only [List.set_cons_zero]))
   refine wpAnyH_ready (rs := [8]) (by kernel_rfl) (by simp) ?_
   refine AllReadyH.cons rfl (fun K hK => ?_) AllReadyH.nil
   go_simp
   go_simp
   refine hK.out _ _ trivial (fun hHeld => ?_)
   clear hK K
   ((try simp only [List.getElem_toArray]); (try simp only [List.getElem_cons_succ]); (try simp only [List.getElem_cons_zero]); (try simp only [Act.put]); (try simp only [List.setIfInBounds_toArray]); (try simp only [List.set_cons_succ]); (try simp only [List.set_cons_zero]))
   refine wpAnyH_done (by kernel_rfl) ?_ _
   go_wp2
   first | exact ⟨⟨_, j + 1, NX.out⟩, by simp [intOf]; omega⟩ | (refine ⟨?rel2, ?meas2⟩; (case meas2 => (simp [intOf]; omega)); (case rel2 => ((repeat apply Exists.intro); exact ⟨⟨_, j + 1, NX.out⟩, rfl⟩)))
  ·obtain rfl : j = 64 := by omega
   have U2 := used_any hh (by rw [EU2.out]; omega)
   rw [EU2.out] at U2
   have HH := Lib.hid hh
   have HK := Lib.hid hk
   have ws : IntKind.i64.wrap ((u : Int) - (u2 : Int)) = (u : Int) - (u2 : Int) := IntWalk.i64_in _ (by omega)
   clear hh hk hkk hcp
   go_wp2_with fail
   refine U2.mono ?_
   rintro e w5 ⟨rfl, k5⟩
   clear U2
   go_wp2
   go_ret
   exact ⟨rfl, _, HH.out.quiet k5, HK.out.trans (k5.mono fun _ e => e.elim)⟩
end
end Go.Proofs.Ytkkjofefjepodaa
/- Package model as landed, in memory: get. Condition: at most 100,000 versions of a key. -/
namespace Go.Proofs.Ytkkjofefjepodaa
open Go.ChangeShapes Go.WideShapes Go.ChangeAt Go.RowKit
set_option linter.unusedVariables false
set_option linter.unusedSimpArgs false
section
variable {w w' : World} {m : Nat} {K : Nat → Value} {o : Nat → Nat} {z : LdI} {T : Nat → Prop} {F : Nat → FtI} {P : VeI → Bool} {t : TtI} {fv : Value} {l : List VeI}
def setT (z : LdI) (i : Nat) (t : TtI) : LdI := { z with s := putT z.s i (some t) }
def gotL (q : Option VeI) : ReI := match q with | some v => ⟨0, v.val, [], 0, 0⟩ | none => ⟨11, 0, [], 0, 0⟩
def gotT (t : TtI) (q : Option VeI) (k : Nat) : TtI := match q with | some _ => relyT t 2 k k | none => relyT t 3 k k
/-- A call that answers a result without Pairs, and leaves a Model; only blocks of it have turned. -/
def LdRes (w : World) (m : Nat) (K : Nat → Value) (o : Nat → Nat) (r : ReI) (z : LdI) (e : Ending) (w' : World) : Prop := e = .returned (reV r (.slice none 0 0)) ∧ LdAt w' m K o z ∧ Keep (fun g => o g ≠ 0) w w'
set_option maxRecDepth 100000 in
theorem lget_any (h : LdAt w m K o z) {i : Nat} (hi : i < 8) (ht : z.s i = some t) {k : Nat} (hk : k < 64) (hl : (z.k k).length ≤ 100000) :
    Calls Try.prog 75 #[.pointer (some ⟨m, 0, none⟩), .pointer (some ⟨t.b, 0, none⟩), .int .i64 k] w (LdRes w m K o (gotL ((z.k k).find? (seesV z.F t))) (setT z i (gotT t ((z.k k).find? (seesV z.F t)) k))) := by
  obtain ⟨M, eM, rb, kM⟩ := res_box w
  have hM := h.quiet kM
  have C := find_any hM hk hl (hold_sees (hM.t i t hi ht) (hM.tf hi ht))
  have V := fun v (hv : (z.k k).find? (seesV z.F t) = some v) => hM.v k v hk (List.mem_of_find?_eq_some hv)
  have ON := Lib.hid (show ∀ g, o g ≠ 0 → g ≠ w.heap.size from fun g hg e => by have := h.lt g hg; omega)
  have ob := h.oT i t hi ht
  have OV := Lib.hid fun v (hv : (z.k k).find? (seesV z.F t) = some v) => h.oV k v hk (List.mem_of_find?_eq_some hv)
  obtain ⟨N, eN⟩ : ∃ N, w.heap.size = N := ⟨_, rfl⟩
  rw [eN] at rb ON
  obtain ⟨q, eq⟩ : ∃ q, (z.k k).find? (seesV z.F t) = q := ⟨_, rfl⟩
  rw [eq] at C ⊢
  have hbN : ¬ N = t.b := fun e => ON.out t.b (by rw [ob.1]; omega) e.symm
  have VH := Lib.hid V
  have EQ := Lib.hid eq
  have OB := Lib.hid ob
  have KM := Lib.hid kM
  have HM := Lib.hid hM
  have RB := Lib.hid rb
  have EN := Lib.hid eN
  have HT := Lib.hid ht
  clear h V kM hM rb eq ht ob
  cases q with
  | none =>
    dsimp only [Option.map, ptrO] at C
    unfold gotL gotT LdRes reV setT
    dsimp only
    go_enter Try.func75, Try.ntmps75
    go_wp2_with fail
    refine C.mono ?_
    rintro e w1 ⟨rfl, k1⟩
    clear C eM
    have R := relies_any (HM.out.quiet k1) hi HT.out 3 k k (Nat.le_refl _) hk
    have K1 := Lib.hid k1
    clear k1
    go_wp2_with fail
    refine R.mono ?_
    rintro e w2 ⟨rfl, a2, k2⟩
    clear R
    have R6 := Lib.hid ((RB.out.keep K1.out id).keep k2 hbN)
    obtain ⟨q0, q1, q2, q3, q4, q5⟩ := R6.out
    have A2 := Lib.hid a2
    have K2 := Lib.hid k2
    clear a2 k2
    go_wp2
    (obtain ⟨W7, eW7⟩ : ∃ W7, (((((w2.setCell ⟨N, 0, none⟩ (.int .i64 11)).setCell ⟨N, 1, none⟩ (.int .i64 0)).setCell ⟨N, 2, none⟩ (.slice none 0 0)).setCell ⟨N, 3, none⟩ (.int .i64 0)).setCell ⟨N, 4, none⟩ (.int .i64 0)) = W7 := ⟨_, rfl⟩; obtain ⟨⟨v0, v1, v2, v3, v4, _⟩, k7⟩ := res_set R6.out _ _ _ _ _ eW7; rw [eW7]; refine bodyPost_ret (v := .agg #[.int .i64 11, .int .i64 0, .slice none 0 0, .int .i64 0, .int .i64 0]) (by simp [results, Try.results75, go_sem, v0, v1, v2, v3, v4]) rfl ⟨rfl, ?_⟩)
    refine ⟨A2.out.keep k7 (fun g hg e => ON.out g hg e), (((KM.out.trans K1.out).trans' (K2.out.mono fun g e => ?_)).older' k7 (by rw [EN.out]; exact Nat.le_refl _))⟩
    have e : g = t.b := e
    rw [e, OB.out.1]; omega
  | some v =>
    dsimp only [Option.map, ptrO] at C
    have c0 := (VH.out v EQ.out).c0
    have nv : ¬ v.b = t.b := fun e => by have := (OV.out v EQ.out).1; rw [e, OB.out.1] at this; omega
    unfold gotL gotT LdRes reV setT
    dsimp only
    obtain ⟨vv, ev⟩ : ∃ vv, v.val = vv := ⟨_, rfl⟩
    rw [ev] at c0
    simp only [ev]
    clear ev
    go_enter Try.func75, Try.ntmps75
    go_wp2_with fail
    refine C.mono ?_
    rintro e w1 ⟨rfl, k1⟩
    clear C eM
    have c0 := k1.cell c0 id
    have R := relies_any (HM.out.quiet k1) hi HT.out 2 k k (Nat.le_refl _) hk
    have K1 := Lib.hid k1
    clear k1
    go_wp2_with fail
    refine R.mono ?_
    rintro e w2 ⟨rfl, a2, k2⟩
    clear R
    have c0 := k2.cell c0 nv
    have R6 := Lib.hid ((RB.out.keep K1.out id).keep k2 hbN)
    obtain ⟨q0, q1, q2, q3, q4, q5⟩ := R6.out
    have A2 := Lib.hid a2
    have K2 := Lib.hid k2
    clear a2 k2
    go_wp2
    (obtain ⟨W7, eW7⟩ : ∃ W7, (((((w2.setCell ⟨N, 0, none⟩ (.int .i64 0)).setCell ⟨N, 1, none⟩ (.int .i64 vv)).setCell ⟨N, 2, none⟩ (.slice none 0 0)).setCell ⟨N, 3, none⟩ (.int .i64 0)).setCell ⟨N, 4, none⟩ (.int .i64 0)) = W7 := ⟨_, rfl⟩; obtain ⟨⟨v0, v1, v2, v3, v4, _⟩, k7⟩ := res_set R6.out _ _ _ _ _ eW7; rw [eW7]; refine bodyPost_ret (v := .agg #[.int .i64 0, .int .i64 vv, .slice none 0 0, .int .i64 0, .int .i64 0]) (by simp [results, Try.results75, go_sem, v0, v1, v2, v3, v4]) rfl ⟨rfl, ?_⟩)
    refine ⟨A2.out.keep k7 (fun g hg e => ON.out g hg e), (((KM.out.trans K1.out).trans' (K2.out.mono fun g e => ?_)).older' k7 (by rw [EN.out]; exact Nat.le_refl _))⟩
    have e : g = t.b := e
    rw [e, OB.out.1]; omega
end
end Go.Proofs.Ytkkjofefjepodaa
/- Package model as landed, in memory: put, where a transaction has a version of its own, and where there is no slot. Condition: at most 100,000 versions. -/
namespace Go.Proofs.Ytkkjofefjepodaa
open Go.ChangeShapes Go.WideShapes Go.ChangeAt Go.RowKit
set_option linter.unusedVariables false
set_option linter.unusedSimpArgs false
section
variable {w w' w2 : World} {m g n c : Nat} {K : Nat → Value} {o : Nat → Nat} {z : LdI} {T : Nat → Prop} {F : Nat → FtI} {P : VeI → Bool} {t : TtI} {fv : Value} {l : List VeI}
def turnZ (z : LdI) (k b : Nat) (f : VeI → VeI) : LdI := { z with k := putK z.k k (turnB b f (z.k k)) }
def endV (f : Nat) (u : VeI) : VeI := { u with en := some f }
def valV (val : Int) (u : VeI) : VeI := { u with val := val, en := none }
theorem putK_put (k : Nat → List VeI) (i : Nat) (a b : List VeI) : putK (putK k i a) i b = putK k i b := by
 funext j
 unfold putK
 by_cases e : j = i
 ·rw [if_pos e, if_pos e]
 ·rw [if_neg e, if_neg e, if_neg e]
theorem turnB_turn (b : Nat) (f g : VeI → VeI) (hf : ∀ u, (f u).b = u.b) (l : List VeI) : turnB b g (turnB b f l) = turnB b (fun u => g (f u)) l := by
 unfold turnB
 rw [List.map_map]
 refine List.map_congr_left fun u hu => ?_
 show (if (if u.b = b then f u else u).b = b then g (if u.b = b then f u else u) else (if u.b = b then f u else u)) = _
 by_cases e : u.b = b
 ·rw [if_pos e, if_pos (by rw [hf]; exact e), if_pos e]
 ·rw [if_neg e, if_neg e, if_neg e]
/-- A version of the Model is given a value, and nobody has ended it. -/
theorem LdAt.val2 (h : LdAt w m K o z) {k : Nat} {v : VeI} (hk : k < 64) (hv : v ∈ z.k k) (val : Int) : LdAt ((w.setCell ⟨v.b, 0, none⟩ (.int .i64 val)).setCell ⟨v.b, 2, none⟩ (.pointer none)) m K o (turnZ z k v.b (valV val)) := by
 have ob := h.oV k v hk hv
 have a := h.vers hk hv (fun u => { u with val := val }) (fun _ => rfl) rfl (fun e he => ob.2.2 e he) ((h.v k v hk hv).val' val)
 have hv2 : ({ v with val := val } : VeI) ∈ putK z.k k (turnB v.b (fun u => { u with val := val }) (z.k k)) k := by
  rw [putK_self]
  refine List.mem_map.2 ⟨v, hv, ?_⟩
  rw [if_pos rfl]
 have b := a.vers hk hv2 (fun u => { u with en := none }) (fun _ => rfl) rfl (fun e he => by cases he) ((a.v k _ hk hv2).en' none)
 have e : ({ z with k := putK (putK z.k k (turnB v.b (fun u => { u with val := val }) (z.k k))) k (turnB v.b (fun u => { u with en := none }) (putK z.k k (turnB v.b (fun u => { u with val := val }) (z.k k)) k)) } : LdI) = turnZ z k v.b (valV val) := by
  rw [putK_self, turnB_turn v.b (fun u => { u with val := val }) (fun u => { u with en := none }) (fun _ => rfl), putK_put]
  rfl
 rw [← e]
 exact b
theorem LdAt.end2 (h : LdAt w m K o z) {k i : Nat} {v : VeI} (hk : k < 64) (hv : v ∈ z.k k) (hi : i < 8) (ht : z.s i = some t) : LdAt (w.setCell ⟨v.b, 2, none⟩ (.pointer (some ⟨t.f, 0, none⟩))) m K o (turnZ z k v.b (endV t.f)) :=
 h.vers hk hv (endV t.f) (fun _ => rfl) rfl (fun e he => by cases he; exact (h.oT i t hi ht).2) ((h.v k v hk hv).en' (some t.f))
set_option maxRecDepth 100000 in
theorem put_own (h : LdAt w m K o z) {i : Nat} (hi : i < 8) (ht : z.s i = some t) {k : Nat} (hk : k < 64) (hl : ∀ k, k < 64 → (z.k k).length ≤ 100000) {v : VeI} (hq : (z.k k).find? (madeV t) = some v) (val : Int) (se : Value) :
  Calls Try.prog 96 #[.pointer (some ⟨m, 0, none⟩), .pointer (some ⟨t.b, 0, none⟩), .int .i64 k, .int .i64 val, se] w (LdRes w m K o re0 (turnZ z k v.b (valV val))) := by
 obtain ⟨M, eM, rb, kM⟩ := res_box w; have hM := h.quiet kM; have C := find_any hM hk (hl k hk) (hold_made (hM.t i t hi ht) (hM.tf hi ht)); have ON := Lib.hid (show ∀ g, o g ≠ 0 → g ≠ w.heap.size from fun g hg e => by have := h.lt g hg; omega); obtain ⟨N, eN⟩ : ∃ N, w.heap.size = N := ⟨_, rfl⟩; rw [eN] at rb ON; rw [hq] at C; dsimp only [Option.map, ptrO] at C; have KM := Lib.hid kM; have HM := Lib.hid hM; have RB := Lib.hid rb; have EN := Lib.hid eN; have HT := Lib.hid ht; have HQ := Lib.hid hq
 have hv := List.mem_of_find?_eq_some hq
 have ov := (h.oV k v hk hv).1
 have VM := Lib.hid fun w1 (k1 : Keep (fun _ => False) M w1) => (hM.quiet k1).v k v hk hv
 have FIN := Lib.hid fun w1 (k1 : Keep (fun _ => False) M w1) => (hM.quiet k1).val2 hk hv val
 have NV := Lib.hid (show ¬ N = v.b from fun e => ON.out v.b (by rw [ov]; decide) e.symm)
 have OV := Lib.hid ov
 clear h hM kM rb ht hq hl hv ov
 unfold LdRes reV re0
 dsimp only
 go_enter Try.func96, Try.ntmps96
 go_wp2_with fail
 refine C.mono ?_
 rintro e w1 ⟨rfl, k1⟩
 clear C eM
 obtain ⟨c0, c1, c2, cf⟩ := VM.out w1 k1
 have f0 := cf 0
 have f2 := cf 2
 have A := Lib.hid (FIN.out w1 k1)
 have RW := Lib.hid (RB.out.keep k1 id)
 have K1 := Lib.hid k1
 obtain ⟨W2, e2⟩ : ∃ W2, (w1.setCell ⟨v.b, 0, none⟩ (.int .i64 val)).setCell ⟨v.b, 2, none⟩ (.pointer none) = W2 := ⟨_, rfl⟩
 have k2 : Keep (fun g => g = v.b) w1 W2 := by rw [← e2]; exact ((Keep.refl (fun g => g = v.b) w1).setCell (p := ⟨v.b, 0, none⟩) rfl _).setCell (p := ⟨v.b, 2, none⟩) rfl _
 have c2b : (w1.setCell ⟨v.b, 0, none⟩ (.int .i64 val)).cell? ⟨v.b, 2, none⟩ = some (ptrO v.en) := by rw [World.cell?_setCell_other _ _ _ _ (by first | (simp; done) | (simp; omega))]; exact c2
 have f2b : (w1.setCell ⟨v.b, 0, none⟩ (.int .i64 val)).frozen? ⟨v.b, 2, none⟩ = false := by rw [World.frozen?_setCell]; exact f2
 rw [e2] at A
 have R6 := Lib.hid (RW.out.keep k2 NV.out)
 obtain ⟨q0, q1, q2, q3, q4, q5⟩ := R6.out
 have K2 := Lib.hid k2
 clear k1 k2 c1 c2 cf f2
 go_wp2
 (obtain ⟨W7, eW7⟩ : ∃ W7, (((((W2.setCell ⟨N, 0, none⟩ (.int .i64 0)).setCell ⟨N, 1, none⟩ (.int .i64 0)).setCell ⟨N, 2, none⟩ (.slice none 0 0)).setCell ⟨N, 3, none⟩ (.int .i64 0)).setCell ⟨N, 4, none⟩ (.int .i64 0)) = W7 := ⟨_, rfl⟩; obtain ⟨⟨v0, v1, v2, v3, v4, _⟩, k7⟩ := res_set R6.out _ _ _ _ _ eW7; rw [eW7]; refine bodyPost_ret (v := .agg #[.int .i64 0, .int .i64 0, .slice none 0 0, .int .i64 0, .int .i64 0]) (by simp [results, Try.results96, go_sem, v0, v1, v2, v3, v4]) rfl ⟨rfl, ?_⟩)
 refine ⟨A.out.keep k7 (fun g hg e => ON.out g hg e), (((KM.out.trans K1.out).trans' (K2.out.mono fun g e => ?_)).older' k7 (by rw [EN.out]; exact Nat.le_refl _))⟩
 have e : g = v.b := e
 rw [e, OV.out]; decide
set_option maxRecDepth 100000 in
theorem put_full (h : LdAt w m K o z) {i : Nat} (hi : i < 8) (ht : z.s i = some t) (hx : (z.F t.f).st = 1) {k : Nat} (hk : k < 64) (hl : ∀ k, k < 64 → (z.k k).length ≤ 100000) (hq : (z.k k).find? (madeV t) = none) (hu : usedL z 64 ≤ 100000) (hs : (usedL z 64 : Int) = z.slots) (val : Int) (se : Value) :
  Calls Try.prog 96 #[.pointer (some ⟨m, 0, none⟩), .pointer (some ⟨t.b, 0, none⟩), .int .i64 k, .int .i64 val, se] w (LdRes w m K o (MoI.bad 5) { z with F := updF z.F t.f ⟨4, 0⟩ }) := by
 obtain ⟨M, eM, rb, kM⟩ := res_box w; have hM := h.quiet kM; have C := find_any hM hk (hl k hk) (hold_made (hM.t i t hi ht) (hM.tf hi ht)); have ON := Lib.hid (show ∀ g, o g ≠ 0 → g ≠ w.heap.size from fun g hg e => by have := h.lt g hg; omega); obtain ⟨N, eN⟩ : ∃ N, w.heap.size = N := ⟨_, rfl⟩; rw [eN] at rb ON; rw [hq] at C; dsimp only [Option.map, ptrO] at C; have KM := Lib.hid kM; have HM := Lib.hid hM; have RB := Lib.hid rb; have EN := Lib.hid eN; have HT := Lib.hid ht; have HQ := Lib.hid hq
 have US := Lib.hid fun w1 (k1 : Keep (fun _ => False) M w1) (d : Nat) => used_same (hM.quiet (k1.trans (drewN_keep _ w1 d))) hu
 have AB := Lib.hid fun w1 (k1 : Keep (fun _ => False) M w1) => abort_any (hM.quiet k1) hi ht hx 5
 have C0 := Lib.hid fun w1 (k1 : Keep (fun _ => False) M w1) => k1.cell hM.a.c0 id
 obtain ⟨u, eu⟩ : ∃ u : Nat, usedL z 64 = u := ⟨_, rfl⟩
 rw [eu] at hs US
 rw [← hs] at C0
 have d : ((u : Int) == (u : Int)) = true := by simp
 have tf := (h.oT i t hi ht).2
 have NF := Lib.hid (show ¬ N = t.f from fun e => ON.out t.f (by rw [tf]; decide) e.symm)
 have TF := Lib.hid tf
 clear h hM kM rb ht hq hl hs hu eu tf
 unfold LdRes reV MoI.bad
 dsimp only
 go_enter Try.func96, Try.ntmps96
 go_wp2_with fail
 refine C.mono ?_
 rintro e w1 ⟨rfl, k1⟩
 clear C eM
 have U := US.out w1 k1
 have c0 := C0.out w1 k1
 have K1 := Lib.hid k1
 clear k1
 go_wp2_with fail
 go_quiet ((go_at_call 26; exact Calls.quiet_of_same (U _)))
 have kd := drewN_keep (fun _ => False) w1 nq
 have A := AB.out _ (K1.out.trans kd)
 obtain ⟨wd, ed⟩ : ∃ wd, w1.drewN nq = wd := ⟨_, rfl⟩
 rw [ed] at kd A ⊢
 have KD := Lib.hid (K1.out.trans kd)
 clear U c0 kd ed K1
 go_wp2_with fail
 refine A.mono ?_
 rintro e w3 ⟨rfl, a3, k3⟩
 clear A
 have A3 := Lib.hid a3
 have K3 := Lib.hid k3
 have R6 := Lib.hid ((RB.out.keep KD.out id).keep k3 NF.out)
 obtain ⟨q0, q1, q2, q3, q4, q5⟩ := R6.out
 clear a3 k3
 unfold reV MoI.bad
 dsimp only
 go_wp2
 (obtain ⟨W7, eW7⟩ : ∃ W7, (((((w3.setCell ⟨N, 0, none⟩ (.int .i64 14)).setCell ⟨N, 1, none⟩ (.int .i64 0)).setCell ⟨N, 2, none⟩ (.slice none 0 0)).setCell ⟨N, 3, none⟩ (.int .i64 4)).setCell ⟨N, 4, none⟩ (.int .i64 5)) = W7 := ⟨_, rfl⟩; obtain ⟨⟨v0, v1, v2, v3, v4, _⟩, k7⟩ := res_set R6.out _ _ _ _ _ eW7; rw [eW7]; refine bodyPost_ret (v := .agg #[.int .i64 14, .int .i64 0, .slice none 0 0, .int .i64 4, .int .i64 5]) (by simp [results, Try.results96, go_sem, v0, v1, v2, v3, v4]) rfl ⟨rfl, ?_⟩)
 refine ⟨A3.out.keep k7 (fun g hg e => ON.out g hg e), (((KM.out.trans KD.out).trans' (K3.out.mono fun g e => ?_)).older' k7 (by rw [EN.out]; exact Nat.le_refl _))⟩
 have e : g = t.f := e
 rw [e, TF.out]; decide
end
end Go.Proofs.Ytkkjofefjepodaa
/- Package model as landed, in memory: put, where a new version is made. Condition: at most 100,000 versions. WRITTEN by wip/tools/genldy.py. -/
namespace Go.Proofs.Ytkkjofefjepodaa
open Go.ChangeShapes Go.WideShapes Go.ChangeAt Go.RowKit
set_option linter.unusedVariables false
set_option linter.unusedSimpArgs false
section
variable {w w' w2 : World} {m g n c : Nat} {K : Nat → Value} {o : Nat → Nat} {z : LdI} {T : Nat → Prop} {F : Nat → FtI} {P : VeI → Bool} {t : TtI} {fv : Value} {l : List VeI}
/-- A call that answers a result, and leaves a Model that is one of those. -/
def LdEnd (w : World) (m : Nat) (o : Nat → Nat) (r : ReI) (Zs : LdI → Prop) (e : Ending) (w' : World) : Prop :=
 ∃ u z' K' o', e = .returned (reV r u) ∧ Zs z' ∧ OwnPr w' u r.pairs ∧ (∀ g, u.ownBlock = some g → w.heap.size ≤ g ∧ o' g = 0) ∧ LdAt w' m K' o' z' ∧ Keep (fun g => o g ≠ 0) w w' ∧ ∀ g, o' g ≠ 0 → o g ≠ 0 ∨ w.heap.size ≤ g
theorem LdRes.fin {r : ReI} {e : Ending} (hp : r.pairs = []) (h : LdRes w m K o r z e w') : LdEnd w m o r (fun z' => z' = z) e w' :=
 ⟨_, z, K, o, h.1, rfl, by rw [hp]; exact OwnM.nil, (fun g hg => by cases hg), h.2.1, h.2.2, fun g hg => .inl hg⟩
theorem LdEnd.mono {r : ReI} {e : Ending} {Z1 Z2 : LdI → Prop} (h : LdEnd w m o r Z1 e w') (hz : ∀ z, Z1 z → Z2 z) : LdEnd w m o r Z2 e w' := by
 obtain ⟨u, z', K', o', a, b, c⟩ := h
 exact ⟨u, z', K', o', a, hz _ b, c⟩
def newZ (z : LdI) (k : Nat) (v : VeI) : LdI := { z with k := putK z.k k (z.k k ++ [v]) }
theorem info_ve : (Try.prog.info? 103).map (fun i => (i.zero, i.size, i.bytes)) = some (some (.pointer none), 1, 8) := by kernel_rfl
theorem flat1 (zs : List Nat) : zs.flatMap (fun b => [ptrV b]) = zs.map ptrV := by
 induction zs with
 | nil => rfl
 | cons b zs ih => rw [List.flatMap_cons, ih]; rfl
theorem own_m {v : Value} (ow : OwnV w v l) : OwnM 1 (fun b => [ptrV b]) 103 w v (l.map VeI.b) := by
 unfold OwnM
 rw [flat1]
 exact ow
theorem own_v {v : Value} {zs : List Nat} (ow : OwnM 1 (fun b => [ptrV b]) 103 w v zs) (hz : zs = l.map VeI.b) : OwnV w v l := by
 subst hz
 unfold OwnM at ow
 rw [flat1] at ow
 exact ow
/-- A new version in a block of its own. -/
theorem LdAt.box (h : LdAt w m K o z) {i : Nat} (hi : i < 8) (ht : z.s i = some t) {W : World} (eW : w.alloc (.cells #[.int .i64 0, .pointer (some ⟨t.f, 0, none⟩), .pointer none] 150) = W) :
  LdAt W m K (fun g => if g = w.heap.size then 80 else o g) z ∧ VeAt W ⟨w.heap.size, 0, t.f, none⟩ ∧ Keep (fun _ => False) w W ∧ W.heap.size = w.heap.size + 1 := by
 have k : Keep (fun _ => False) w W := by rw [← eW]; exact (Keep.refl _ _).alloc _
 have sz : W.heap.size = w.heap.size + 1 := by rw [← eW]; simp
 refine ⟨h.fresh k _ z.F (fun g hg => if_neg (by omega)) (fun _ _ => rfl) (fun g hg => ?_) (fun g hg e => ?_), ⟨by rw [← eW]; simp, by rw [← eW]; simp, by rw [← eW]; simp [ptrO], fun i => by rw [← eW]; simp⟩, k, sz⟩
 ·by_cases e : g = w.heap.size
  ·omega
  ·have hg : (if g = w.heap.size then 80 else o g) ≠ 0 := hg
   rw [if_neg e] at hg
   have := h.lt g hg
   omega
 ·by_cases e2 : g = w.heap.size
  ·have e : (if g = w.heap.size then 80 else o g) = 81 := e
   rw [if_pos e2] at e; cases e
  ·have e : (if g = w.heap.size then 80 else o g) = 81 := e
   rw [if_neg e2] at e
   have := h.lt g (by rw [e]; decide)
   omega
/-- .. stands last of a key's, and has its value. -/
theorem LdAt.app (h : LdAt w m K o z) {k nb nf : Nat} (hk : k < 64) (ob : o nb = 80) (of : o nf = 81) (hV : VeAt w ⟨nb, 0, nf, none⟩) (hn : ∀ k v, k < 64 → v ∈ z.k k → v.b ≠ nb) {v' : Value} (k2 : Keep (fun b => (K k).ownBlock = some b) w w2) (o2 : OwnV w2 v' (z.k k ++ [⟨nb, 0, nf, none⟩])) (hb : ∀ g, v'.ownBlock = some g → (K k).ownBlock = some g ∨ w.heap.size ≤ g) (val : Int) :
  LdAt (((w2.setCell ⟨m, 12 + k, none⟩ v').setCell ⟨nb, 0, none⟩ (.int .i64 val)).setCell ⟨nb, 2, none⟩ (.pointer none)) m (putV K k v') (relab o v' k) (newZ z k ⟨nb, val, nf, none⟩) := by
 have mem : ∀ j x, x ∈ putK z.k k (z.k k ++ [⟨nb, 0, nf, none⟩]) j → x ∈ z.k j ∨ (j = k ∧ x = ⟨nb, 0, nf, none⟩) := fun j x hx => by
  by_cases e : j = k
  ·subst e
   rw [putK_self] at hx
   rcases List.mem_append.1 hx with q | q
   ·exact .inl q
   ·exact .inr ⟨rfl, List.mem_singleton.1 q⟩
  ·rw [putK_ne _ _ e] at hx; exact .inl hx
 have a := h.rekey hk k2 o2 hb (fun x hx => by
  rcases List.mem_append.1 hx with q | q
  ·exact ⟨h.v k x hk q, h.oV k x hk q⟩
  ·rw [List.mem_singleton.1 q]; exact ⟨hV, ob, of, fun e he => by cases he⟩) (fun k1 k2 u v h1 h2 hu hv e => by
  rcases mem k1 u hu with q | ⟨q, rfl⟩
  ·rcases mem k2 v hv with r | ⟨r, rfl⟩
   ·exact h.nd k1 k2 u v h1 h2 q r e
   ·exact absurd e (hn k1 u h1 q)
  ·rcases mem k2 v hv with r | ⟨r, rfl⟩
   ·exact absurd e.symm (hn k2 v h2 r)
   ·exact ⟨q.trans r.symm, rfl⟩)
 have hm : (⟨nb, 0, nf, none⟩ : VeI) ∈ ({ z with k := putK z.k k (z.k k ++ [⟨nb, 0, nf, none⟩]) } : LdI).k k := by
  show _ ∈ putK z.k k (z.k k ++ [⟨nb, 0, nf, none⟩]) k
  rw [putK_self]; simp
 have b := a.val2 hk hm val
 have e : turnZ { z with k := putK z.k k (z.k k ++ [⟨nb, 0, nf, none⟩]) } k nb (valV val) = newZ z k ⟨nb, val, nf, none⟩ := by
  unfold turnZ newZ
  simp only [putK_put, putK_self]
  congr 2
  unfold turnB
  rw [List.map_append]
  congr 1
  ·refine (List.map_congr_left fun u hu => ?_).trans (List.map_id _)
   rw [if_neg (hn k u hk hu)]; rfl
  ·simp [valV]
 rw [← e]
 exact b

/-- Behind the append: the slice is stored, the version filled in. -/
theorem app_after {wb wd w0 : World} {o1 : Nat → Nat} {nb N k nf : Nat} {A : Option Addr} {q q' : Nat} {Zb : List Nat} {val : Int} (h : LdAt wb m K o1 z) (hk : k < 64) (eK : K k = .slice A q q') (eZ : (z.k k).map VeI.b = Zb) (ob : o1 nb = 80) (of : o1 nf = 81) (hV : VeAt wb ⟨nb, 0, nf, none⟩) (hn : ∀ k v, k < 64 → v ∈ z.k k → v.b ≠ nb)
    (oN : o1 N = 0) (hN : N < wb.heap.size) (R : ResAt wb N (.int .i64 0) (.int .i64 0) (.slice none 0 0) (.int .i64 0) (.int .i64 0)) (K0 : Keep (fun g => o g ≠ 0) w0 wb) (old : ∀ g, o1 g ≠ 0 → o g ≠ 0 ∨ w0.heap.size ≤ g) (new0 : w0.heap.size ≤ nb) (kd : Keep (fun _ => False) wb wd)
    (g4 c4 : Nat) (y4 : World) (o4 : OwnM 1 (fun b => [ptrV b]) 103 y4 (.slice (some ⟨g4, 0, none⟩) (Zb.length + 1) c4) (Zb ++ [nb])) (k4 : Keep (fun j => (Value.slice A q q').ownBlock = some j) wd y4) (hg4 : (Value.slice A q q').ownBlock = some g4 ∨ wd.heap.size ≤ g4) :
    ∃ wg, y4.setCell ⟨m, 12 + k, none⟩ (.slice (some ⟨g4, 0, none⟩) (Zb.length + 1) c4) = wg ∧ (∃ u, y4.cell? ⟨m, 12 + k, none⟩ = some u) ∧ y4.frozen? ⟨m, 12 + k, none⟩ = false ∧ wg.cell? ⟨nb, 0, none⟩ = some (.int .i64 0) ∧ (wg.setCell ⟨nb, 0, none⟩ (.int .i64 val)).cell? ⟨nb, 2, none⟩ = some (.pointer none) ∧ wg.frozen? ⟨nb, 0, none⟩ = false ∧ (wg.setCell ⟨nb, 0, none⟩ (.int .i64 val)).frozen? ⟨nb, 2, none⟩ = false ∧
      ∃ W2, (wg.setCell ⟨nb, 0, none⟩ (.int .i64 val)).setCell ⟨nb, 2, none⟩ (.pointer none) = W2 ∧ ResAt W2 N (.int .i64 0) (.int .i64 0) (.slice none 0 0) (.int .i64 0) (.int .i64 0) ∧ Keep (fun g => o g ≠ 0) w0 W2 ∧ (∃ K' o', LdAt W2 m K' o' (newZ z k ⟨nb, val, nf, none⟩) ∧ (∀ g, o' g ≠ 0 → o g ≠ 0 ∨ w0.heap.size ≤ g) ∧ o' N = 0) := by
  rw [← eK] at k4 hg4
  have k4b : Keep (fun j => (K k).ownBlock = some j) wb y4 := (kd.mono fun _ e => e.elim).trans k4
  have o5 : OwnV y4 (.slice (some ⟨g4, 0, none⟩) (Zb.length + 1) c4) (z.k k ++ [⟨nb, 0, nf, none⟩]) := own_v o4 (by rw [List.map_append, ← eZ]; rfl)
  have lab : ∀ {g : Nat}, (K k).ownBlock = some g → o1 g = 2 + k := fun e => h.oK k _ hk e
  have hb : ∀ g, (Value.slice (some ⟨g4, 0, none⟩) (Zb.length + 1) c4).ownBlock = some g → (K k).ownBlock = some g ∨ wb.heap.size ≤ g := fun g hg => by
    have : g4 = g := by simpa [Value.ownBlock] using hg
    subst this
    exact hg4.imp_right (Nat.le_trans kd.size)
  have nbm : ¬ nb = m := fun e => by rw [e, h.om] at ob; cases ob
  have nNm : ¬ N = m := fun e => by rw [e, h.om] at oN; cases oN
  have nNb : ¬ N = nb := fun e => by rw [e, ob] at oN; cases oN
  have yb0 : y4.cell? ⟨nb, 0, none⟩ = some (.int .i64 0) := k4b.cell hV.c0 (fun e => by have : o1 nb = 2 + k := lab e; omega)
  have yb2 : y4.cell? ⟨nb, 2, none⟩ = some (.pointer none) := k4b.cell hV.c2 (fun e => by have : o1 nb = 2 + k := lab e; omega)
  have yf : ∀ i, y4.frozen? ⟨nb, i, none⟩ = false := fun i => (k4b.frozen (a := ⟨nb, i, none⟩) hV.lt (fun e => by have : o1 nb = 2 + k := lab e; omega)).trans (hV.fz i)
  have fin := h.app hk ob of hV hn k4b o5 hb val
  have kg := keep_one y4 ⟨m, 12 + k, none⟩ (.slice (some ⟨g4, 0, none⟩) (Zb.length + 1) c4)
  have RY : ResAt y4 N _ _ _ _ _ := R.keep k4b (fun e => by have : o1 N = 2 + k := lab e; omega)
  have K4 : Keep (fun g => o g ≠ 0) w0 y4 := ⟨k4b.os.trans K0.os, k4b.tape.trans K0.tape, k4b.output.trans K0.output, Nat.le_trans K0.size k4b.size, fun g hg hn => (k4b.block g (Nat.lt_of_lt_of_le hg K0.size) (fun e => by
    rcases old g (by rw [lab e]; omega) with a | a
    · exact hn a
    · omega)).trans (K0.block g hg hn)⟩
  have om : o m ≠ 0 ∨ w0.heap.size ≤ m := old m (by rw [h.om]; decide)
  obtain ⟨wg, eg⟩ : ∃ wg, y4.setCell ⟨m, 12 + k, none⟩ (.slice (some ⟨g4, 0, none⟩) (Zb.length + 1) c4) = wg := ⟨_, rfl⟩
  rw [eg] at fin kg
  have gb0 := kg.cell yb0 nbm
  have gb2 := kg.cell yb2 nbm
  have gf : ∀ i, wg.frozen? ⟨nb, i, none⟩ = false := fun i => (kg.frozen (a := ⟨nb, i, none⟩) (lt_of_cell (a := ⟨nb, 0, none⟩) yb0) nbm).trans (yf i)
  obtain ⟨W2, e2⟩ : ∃ W2, (wg.setCell ⟨nb, 0, none⟩ (.int .i64 val)).setCell ⟨nb, 2, none⟩ (.pointer none) = W2 := ⟨_, rfl⟩
  have k2 : Keep (fun g => g = nb) wg W2 := by rw [← e2]; exact ((Keep.refl (fun g => g = nb) wg).setCell (p := ⟨nb, 0, none⟩) rfl _).setCell (p := ⟨nb, 2, none⟩) rfl _
  rw [e2] at fin
  refine ⟨wg, eg, ⟨_, k4b.cell (h.a.ck k hk) (fun e => by have : o1 m = 2 + k := lab e; rw [h.om] at this; omega)⟩, (k4b.frozen (a := ⟨m, 12 + k, none⟩) h.a.lt (fun e => by have : o1 m = 2 + k := lab e; rw [h.om] at this; omega)).trans (h.a.fz (12 + k)), gb0, by rw [World.cell?_setCell_other _ _ _ _ (by first | (simp; done) | (simp; omega))]; exact gb2, gf 0, by rw [World.frozen?_setCell]; exact gf 2, W2, e2, (RY.keep kg nNm).keep k2 nNb, ?_, _, _, fin, fun g hg => ?_, ?_⟩
  · refine ⟨k2.os.trans (kg.os.trans K4.os), k2.tape.trans (kg.tape.trans K4.tape), k2.output.trans (kg.output.trans K4.output), Nat.le_trans K4.size (Nat.le_trans kg.size k2.size), fun g hg hn => ?_⟩
    refine (k2.block g (Nat.lt_of_lt_of_le hg (Nat.le_trans K4.size kg.size)) (fun e => by omega)).trans ((kg.block g (Nat.lt_of_lt_of_le hg K4.size) (fun e => ?_)).trans (K4.block g hg hn))
    have e : g = m := e
    subst e
    rcases om with a | a
    · exact hn a
    · omega
  · have hg : relab o1 (Value.slice (some ⟨g4, 0, none⟩) (Zb.length + 1) c4) k g ≠ 0 := hg
    unfold relab at hg
    by_cases e : (Value.slice (some ⟨g4, 0, none⟩) (Zb.length + 1) c4).ownBlock = some g
    · rcases hb g e with a | a
      · exact old g (by rw [lab a]; omega)
      · exact .inr (Nat.le_trans K0.size a)
    · rw [if_neg e] at hg; exact old g hg
  · show relab o1 _ k N = 0
    unfold relab
    rw [if_neg (fun e => ?_)]
    · exact oN
    · rcases hb N e with a | a
      · rw [lab a] at oN; omega
      · omega
set_option maxRecDepth 100000 in
set_option maxHeartbeats 2000000 in
theorem put_fresh (h : LdAt w m K o z) {i : Nat} (hi : i < 8) (ht : z.s i = some t) {k : Nat} (hk : k < 64) (hl : ∀ k, k < 64 → (z.k k).length ≤ 99999) (hq : (z.k k).find? (madeV t) = none) (hu : usedL z 64 ≤ 100000) (hs : (usedL z 64 : Int) ≠ z.slots) (val : Int) :
  Calls Try.prog 96 #[.pointer (some ⟨m, 0, none⟩), .pointer (some ⟨t.b, 0, none⟩), .int .i64 k, .int .i64 val, (.pointer none)] w (LdEnd w m o re0 fun z' => ∃ nb, o nb = 0 ∧ z' = newZ z k ⟨nb, val, t.f, none⟩) := by
 have hl : ∀ k, k < 64 → (z.k k).length ≤ 100000 := fun k hk => by have := hl k hk; omega
 obtain ⟨M, eM, rb, kM⟩ := res_box w; have hM := h.quiet kM; have C := find_any hM hk (hl k hk) (hold_made (hM.t i t hi ht) (hM.tf hi ht)); have ON := Lib.hid (show ∀ g, o g ≠ 0 → g ≠ w.heap.size from fun g hg e => by have := h.lt g hg; omega); obtain ⟨N, eN⟩ : ∃ N, w.heap.size = N := ⟨_, rfl⟩; rw [eN] at rb ON; rw [hq] at C; dsimp only [Option.map, ptrO] at C; have KM := Lib.hid kM; have HM := Lib.hid hM; have RB := Lib.hid rb; have EN := Lib.hid eN; have HT := Lib.hid ht; have HQ := Lib.hid hq
 have US := Lib.hid fun w1 (k1 : Keep (fun _ => False) M w1) (d : Nat) => used_same (hM.quiet (k1.trans (drewN_keep _ w1 d))) hu
 have C0 := Lib.hid fun w1 (k1 : Keep (fun _ => False) M w1) => k1.cell hM.a.c0 id
 obtain ⟨u0, eu⟩ : ∃ u0 : Nat, usedL z 64 = u0 := ⟨_, rfl⟩
 rw [eu] at hs US
 obtain ⟨sl, esl⟩ : ∃ sl, z.slots = sl := ⟨_, rfl⟩
 rw [esl] at hs C0
 have d : ((u0 : Int) == sl) = false := by simpa using hs
 have HL := Lib.hid hl
 have OFF := Lib.hid (h.oT i t hi ht)
 have ON0 := Lib.hid (show o N = 0 from by
  cases q : o N with
  | zero => rfl
  | succ n => exact absurd rfl (ON.out N (by rw [q]; omega)))
 have OZ := Lib.hid fun g (hg : w.heap.size ≤ g) => (show o g = 0 from by
  cases q : o g with
  | zero => rfl
  | succ n => have := h.lt g (by rw [q]; omega); omega)
 have OV := Lib.hid fun k v (hk : k < 64) (hv : v ∈ z.k k) => h.oV k v hk hv
 clear h hM kM rb ht hq hl hs hu eu esl
 go_enter Try.func96, Try.ntmps96
 go_wp2_with fail
 refine C.mono ?_
 rintro e w1 ⟨rfl, k1⟩
 clear C eM
 have U := US.out w1 k1
 have c0 := C0.out w1 k1
 have K1 := Lib.hid k1
 clear k1
 go_wp2_with fail
 go_quiet ((go_at_call 26; exact Calls.quiet_of_same (U _)))
 have kd := drewN_keep (fun _ => False) w1 nq
 obtain ⟨wd, ed⟩ : ∃ wd, w1.drewN nq = wd := ⟨_, rfl⟩
 rw [ed] at kd ⊢
 have KD := Lib.hid (K1.out.trans kd)
 clear U c0 kd ed K1
 have hd := HM.out.quiet KD.out
 have RD := Lib.hid (RB.out.keep KD.out id)
 have qe := (eql_nilsV (w := wd)).2
 obtain ⟨we, ew⟩ : ∃ we, wd = we := ⟨_, rfl⟩
 subst ew
 have he := hd
 have RE := Lib.hid RD.out
 have KE : Keep (fun g => o g ≠ 0) w wd := (KM.out.trans KD.out).mono fun _ e => e.elim
 have cfe := (he.t i t hi HT.out).cf
 have mem : ∀ j x, j < 64 → x ∈ z.k j → ∃ y ∈ z.k j, x.b = y.b := fun j x hj hx => ⟨x, hx, rfl⟩
 have len : (z.k k).length ≤ 100000 := HL.out k hk
 have hNw : N < wd.heap.size := lt_of_cell RE.out.r0
 have hwW : w.heap.size ≤ wd.heap.size := KE.size
 obtain ⟨nb, enb⟩ : ∃ nb, wd.heap.size = nb := ⟨_, rfl⟩
 obtain ⟨wb, ebw⟩ : ∃ wb, wd.alloc (.cells #[.int .i64 0, .pointer (some ⟨t.f, 0, none⟩), .pointer none] 150) = wb := ⟨_, rfl⟩
 obtain ⟨hb, vb, kb, sb⟩ := he.box hi HT.out ebw
 rw [enb] at hb vb sb hwW hNw
 obtain ⟨A, q, q', eK⟩ := OwnV.shape3 (hb.r k hk)
 obtain ⟨Zb, eZ⟩ : ∃ Zb, (z.k k).map VeI.b = Zb := ⟨_, rfl⟩
 have kd2 : Keep (fun _ => False) wb wb.drew := (Keep.refl _ _).drew
 have crd : wb.drew.cell? ⟨m, 12 + k, none⟩ = some (.slice A q q') := by have := hb.a.ck k hk; rw [eK] at this; exact this
 have cra : (wb.drew.alloc (.cells #[.pointer (some ⟨nb, 0, none⟩)] 103)).cell? ⟨m, 12 + k, none⟩ = some (.slice A q q') := ((Keep.refl (fun _ => False) wb.drew).alloc _).cell crd id
 have OM := Lib.hid (show OwnM 1 (fun b => [ptrV b]) 103 wb.drew (.slice A q q') Zb from by
  have := own_m ((hb.r k hk).keep kd2 (fun _ _ => id))
  rw [eZ, eK] at this
  exact this)
 have LEN := Lib.hid (show Zb.length ≤ 100000 by rw [← eZ, List.length_map]; exact len)
 have AFT := Lib.hid (app_after (o := o) (w0 := w) (val := val) (N := N) hb hk eK eZ (by simp) (by
   have : t.f ≠ nb := fun e => by have := OFF.out.2; rw [e, OZ.out nb hwW] at this; cases this
   simp [this, OFF.out.2]) vb (fun j x hj hx e => by
   obtain ⟨y, hy, e2⟩ := mem j x hj hx
   have := (OV.out j y hj hy).1
   rw [← e2, e, OZ.out nb hwW] at this
   cases this) (by
   have : N ≠ nb := by omega
   simp [this, ON0.out]) (by omega) (RE.out.keep kb id) (KE.trans (kb.mono fun _ e => e.elim)) (fun g hg => by
   by_cases e : g = nb
   ·right; rw [e]; exact hwW
   ·left; simpa [e] using hg) hwW kd2)
 have ONB := Lib.hid (OZ.out nb hwW)
 have hk2 : (k : Int) < 64 := by omega
 have crb : wb.cell? ⟨m, 12 + k, none⟩ = some (.slice A q q') := crd
 have hmw : m < wb.heap.size := lt_of_cell (a := ⟨m, 12 + k, none⟩) crd
 clear hb vb kb sb eK eZ kd2 hd he mem len KE hwW hNw
 go_wp2_with fail
 refine wp_region_held_drew (S := fun w' => True) (by kernel_rfl) trivial (fun hHeld => ?_)
 refine wpAnyH_take (i := 0) (v := ?qvu7) rfl (by kernel_rfl) (by kernel_rfl) (by kernel_rfl) (fun _ _ _ h => h) (Or.inl ⟨by rfl, ?qyu7⟩) (by assumption) ?qru7; case qyu7 => ((intro w hSw; (try dsimp only at hSw); go_simp); try (with_reducible rfl))
 ((try simp only [List.getElem_toArray]); (try simp only [List.getElem_cons_succ]); (try simp only [List.getElem_cons_zero]); (try simp only [Act.put]); (try simp only [List.setIfInBounds_toArray]); (try simp only [List.set_cons_succ]); (try simp only [List.set_cons_zero]))
 refine wpAnyH_take (i := 1) (v := ?qvu8) rfl (by kernel_rfl) (by kernel_rfl) (by kernel_rfl) (fun _ _ _ h => h) (Or.inl ⟨by rfl, ?qyu8⟩) (by assumption) ?qru8; case qyu8 => ((intro w hSw; (try dsimp only at hSw); go_simp); try (with_reducible rfl))
 ((try simp only [List.getElem_toArray]); (try simp only [List.getElem_cons_succ]); (try simp only [List.getElem_cons_zero]); (try simp only [Act.put]); (try simp only [List.setIfInBounds_toArray]); (try simp only [List.set_cons_succ]); (try simp only [List.set_cons_zero]))
 refine wpAnyH_take (i := 2) (v := ?qvu9) rfl (by kernel_rfl) (by kernel_rfl) (by kernel_rfl) (fun _ _ _ h => h) (Or.inl ⟨by rfl, ?qyu9⟩) (by assumption) ?qru9; case qyu9 => ((intro w hSw; (try dsimp only at hSw); go_simp); try (with_reducible rfl))
 ((try simp only [List.getElem_toArray]); (try simp only [List.getElem_cons_succ]); (try simp only [List.getElem_cons_zero]); (try simp only [Act.put]); (try simp only [List.setIfInBounds_toArray]); (try simp only [List.set_cons_succ]); (try simp only [List.set_cons_zero]))
 refine wpAnyH_take (i := 3) (v := ?qvu10) rfl (by kernel_rfl) (by kernel_rfl) (by kernel_rfl) (fun _ _ _ h => h) (Or.inl ⟨by rfl, ?qyu10⟩) (by assumption) ?qru10; case qyu10 => ((intro w hSw; (try dsimp only at hSw); go_simp); try (with_reducible rfl))
 ((try simp only [List.getElem_toArray]); (try simp only [List.getElem_cons_succ]); (try simp only [List.getElem_cons_zero]); (try simp only [Act.put]); (try simp only [List.setIfInBounds_toArray]); (try simp only [List.set_cons_succ]); (try simp only [List.set_cons_zero]))
 refine wpAnyH_take (i := 4) (v := ?qvu11) rfl (by kernel_rfl) (by kernel_rfl) (by kernel_rfl) (fun _ _ _ h => h) (Or.inl ⟨by rfl, ?qyu11⟩) (by assumption) ?qru11; case qyu11 => ((intro w hSw; (try dsimp only at hSw); go_simp); try (with_reducible rfl))
 ((try simp only [List.getElem_toArray]); (try simp only [List.getElem_cons_succ]); (try simp only [List.getElem_cons_zero]); (try simp only [Act.put]); (try simp only [List.setIfInBounds_toArray]); (try simp only [List.set_cons_succ]); (try simp only [List.set_cons_zero]))
 refine wpAnyH_take (i := 5) (v := ?qvu12) rfl (by kernel_rfl) (by kernel_rfl) (by kernel_rfl) (fun _ _ _ h => h) (Or.inl ⟨by rfl, ?qyu12⟩) (by assumption) ?qru12; case qyu12 => ((intro w hSw; (try dsimp only at hSw); go_simp); try (with_reducible rfl))
 ((try simp only [List.getElem_toArray]); (try simp only [List.getElem_cons_succ]); (try simp only [List.getElem_cons_zero]); (try simp only [Act.put]); (try simp only [List.setIfInBounds_toArray]); (try simp only [List.set_cons_succ]); (try simp only [List.set_cons_zero]))
 refine wpAnyH_take (i := 6) (v := ?qvu13) rfl (by kernel_rfl) (by kernel_rfl) (by kernel_rfl) (fun _ _ _ h => h) (Or.inl ⟨by rfl, ?qyu13⟩) (by assumption) ?qru13; case qyu13 => ((intro w hSw; (try dsimp only at hSw); go_simp); try (with_reducible rfl))
 ((try simp only [List.getElem_toArray]); (try simp only [List.getElem_cons_succ]); (try simp only [List.getElem_cons_zero]); (try simp only [Act.put]); (try simp only [List.setIfInBounds_toArray]); (try simp only [List.set_cons_succ]); (try simp only [List.set_cons_zero]))
 refine wpAnyH_take (i := 8) (v := ?qvu14) rfl (by kernel_rfl) (by kernel_rfl) (by kernel_rfl) (fun _ _ _ h => h) (Or.inl ⟨by rfl, ?qyu14⟩) (by assumption) ?qru14; case qyu14 => ((intro w hSw; (try dsimp only at hSw); go_simp); try (with_reducible rfl))
 ((try simp only [List.getElem_toArray]); (try simp only [List.getElem_cons_succ]); (try simp only [List.getElem_cons_zero]); (try simp only [Act.put]); (try simp only [List.setIfInBounds_toArray]); (try simp only [List.set_cons_succ]); (try simp only [List.set_cons_zero]))
 refine wpAnyH_take (i := 11) (v := ?qvu15) rfl (by kernel_rfl) (by kernel_rfl) (by kernel_rfl) (fun _ _ _ h => h) (Or.inl ⟨by rfl, ?qyu15⟩) (by assumption) ?qru15; case qyu15 => ((intro w hSw; (try dsimp only at hSw); go_simp); try (with_reducible rfl))
 ((try simp only [List.getElem_toArray]); (try simp only [List.getElem_cons_succ]); (try simp only [List.getElem_cons_zero]); (try simp only [Act.put]); (try simp only [List.setIfInBounds_toArray]); (try simp only [List.set_cons_succ]); (try simp only [List.set_cons_zero]))
 refine wpAnyH_take (i := 12) (v := ?qvu16) rfl (by kernel_rfl) (by kernel_rfl) (by kernel_rfl) (fun _ _ _ h => h) (Or.inl ⟨by rfl, ?qyu16⟩) (by assumption) ?qru16; case qyu16 => ((intro w hSw; (try dsimp only at hSw); go_simp); try (with_reducible rfl))
 ((try simp only [List.getElem_toArray]); (try simp only [List.getElem_cons_succ]); (try simp only [List.getElem_cons_zero]); (try simp only [Act.put]); (try simp only [List.setIfInBounds_toArray]); (try simp only [List.set_cons_succ]); (try simp only [List.set_cons_zero]))
 refine wpAnyH_ready (rs := [7, 9]) (by kernel_rfl) (by simp) ?_
 refine AllReadyH.cons rfl (fun K hK => ?_) (AllReadyH.cons rfl (fun K hK => ?_) AllReadyH.nil)
 ·go_simp
  refine hK.out _ _ trivial (fun hHeld => ?_)
  clear hK K
  ((try simp only [List.getElem_toArray]); (try simp only [List.getElem_cons_succ]); (try simp only [List.getElem_cons_zero]); (try simp only [Act.put]); (try simp only [List.setIfInBounds_toArray]); (try simp only [List.set_cons_succ]); (try simp only [List.set_cons_zero]))
  refine wpAnyH_ready (rs := [9]) (by kernel_rfl) (by simp) ?_
  refine AllReadyH.cons rfl (fun K hK => ?_) AllReadyH.nil
  go_simp
  refine hK.out _ _ trivial (fun hHeld => ?_)
  clear hK K
  ((try simp only [List.getElem_toArray]); (try simp only [List.getElem_cons_succ]); (try simp only [List.getElem_cons_zero]); (try simp only [Act.put]); (try simp only [List.setIfInBounds_toArray]); (try simp only [List.set_cons_succ]); (try simp only [List.set_cons_zero]))
  refine wpAnyH_ready (rs := [10]) (by kernel_rfl) (by simp) ?_
  refine AllReadyH.cons rfl (fun K hK => ?_) AllReadyH.nil
  refine step_pushM Try.underlying94 info_ve rfl (by decide) (by decide) (fun _ => rfl) (by intro p u hu; simp at hu; subst hu; rfl) rfl (.tmp 51) (.tmp 53) rfl _ Zb (by rfl) OM.out nb (by rfl) LEN.out ?_
  intro g4 c4 y4 o4 k4 hg4
  obtain ⟨wg, eg, ⟨um, cm4⟩, fm4, n0, n2, m0, m2, FB⟩ := AFT.out g4 c4 y4 o4 k4 hg4
  have FB := Lib.hid FB
  clear o4 k4 hg4
  refine hK.out _ _ trivial (fun hHeld => ?_)
  clear hK K
  ((try simp only [List.getElem_toArray]); (try simp only [List.getElem_cons_succ]); (try simp only [List.getElem_cons_zero]); (try simp only [Act.put]); (try simp only [List.setIfInBounds_toArray]); (try simp only [List.set_cons_succ]); (try simp only [List.set_cons_zero]))
  refine wpAnyH_take (i := 13) (v := ?qvu17) rfl (by kernel_rfl) (by kernel_rfl) (by kernel_rfl) (fun _ _ _ h => h) (Or.inl ⟨by rfl, ?qyu17⟩) (by assumption) ?qru17; case qyu17 => ((intro w hSw; (try dsimp only at hSw); go_simp); try (with_reducible rfl))
  ((try simp only [List.getElem_toArray]); (try simp only [List.getElem_cons_succ]); (try simp only [List.getElem_cons_zero]); (try simp only [Act.put]); (try simp only [List.setIfInBounds_toArray]); (try simp only [List.set_cons_succ]); (try simp only [List.set_cons_zero]))
  refine wpAnyH_ready (rs := [14]) (by kernel_rfl) (by simp) ?_
  refine AllReadyH.cons rfl (fun K hK => ?_) AllReadyH.nil
  go_simp
  go_simp
  refine hK.out _ _ trivial (fun hHeld => ?_)
  clear hK K
  ((try simp only [List.getElem_toArray]); (try simp only [List.getElem_cons_succ]); (try simp only [List.getElem_cons_zero]); (try simp only [Act.put]); (try simp only [List.setIfInBounds_toArray]); (try simp only [List.set_cons_succ]); (try simp only [List.set_cons_zero]))
  refine wpAnyH_done (by kernel_rfl) ?_ _
  obtain ⟨W2, e2, R6', k6, K', o', a6, n6, oN6⟩ := FB.out
  have R6 := Lib.hid R6'
  have A6 := Lib.hid a6
  obtain ⟨q0, q1, q2, q3, q4, q5⟩ := R6.out
  clear a6 R6'
  go_wp2
  (obtain ⟨W7, eW7⟩ : ∃ W7, (((((W2.setCell ⟨N, 0, none⟩ (.int .i64 0)).setCell ⟨N, 1, none⟩ (.int .i64 0)).setCell ⟨N, 2, none⟩ (.slice none 0 0)).setCell ⟨N, 3, none⟩ (.int .i64 0)).setCell ⟨N, 4, none⟩ (.int .i64 0)) = W7 := ⟨_, rfl⟩; obtain ⟨⟨v0, v1, v2, v3, v4, _⟩, k7⟩ := res_set R6.out _ _ _ _ _ eW7; rw [eW7]; refine bodyPost_ret (v := .agg #[.int .i64 0, .int .i64 0, .slice none 0 0, .int .i64 0, .int .i64 0]) (by simp [results, Try.results96, go_sem, v0, v1, v2, v3, v4]) rfl ?_)
  exact ⟨.slice none 0 0, _, K', o', rfl, ⟨nb, ONB.out, rfl⟩, OwnM.nil, (fun g hg => by cases hg), A6.out.keep k7 (fun g hg e => by have e : g = N := e; rw [e, oN6] at hg; exact hg rfl), k6.older' k7 (Nat.le_of_eq EN.out), n6⟩
 ·go_simp
  refine hK.out _ _ trivial (fun hHeld => ?_)
  clear hK K
  ((try simp only [List.getElem_toArray]); (try simp only [List.getElem_cons_succ]); (try simp only [List.getElem_cons_zero]); (try simp only [Act.put]); (try simp only [List.setIfInBounds_toArray]); (try simp only [List.set_cons_succ]); (try simp only [List.set_cons_zero]))
  refine wpAnyH_ready (rs := [7]) (by kernel_rfl) (by simp) ?_
  refine AllReadyH.cons rfl (fun K hK => ?_) AllReadyH.nil
  go_simp
  refine hK.out _ _ trivial (fun hHeld => ?_)
  clear hK K
  ((try simp only [List.getElem_toArray]); (try simp only [List.getElem_cons_succ]); (try simp only [List.getElem_cons_zero]); (try simp only [Act.put]); (try simp only [List.setIfInBounds_toArray]); (try simp only [List.set_cons_succ]); (try simp only [List.set_cons_zero]))
  refine wpAnyH_ready (rs := [10]) (by kernel_rfl) (by simp) ?_
  refine AllReadyH.cons rfl (fun K hK => ?_) AllReadyH.nil
  refine step_pushM Try.underlying94 info_ve rfl (by decide) (by decide) (fun _ => rfl) (by intro p u hu; simp at hu; subst hu; rfl) rfl (.tmp 51) (.tmp 53) rfl _ Zb (by rfl) OM.out nb (by rfl) LEN.out ?_
  intro g4 c4 y4 o4 k4 hg4
  obtain ⟨wg, eg, ⟨um, cm4⟩, fm4, n0, n2, m0, m2, FB⟩ := AFT.out g4 c4 y4 o4 k4 hg4
  have FB := Lib.hid FB
  clear o4 k4 hg4
  refine hK.out _ _ trivial (fun hHeld => ?_)
  clear hK K
  ((try simp only [List.getElem_toArray]); (try simp only [List.getElem_cons_succ]); (try simp only [List.getElem_cons_zero]); (try simp only [Act.put]); (try simp only [List.setIfInBounds_toArray]); (try simp only [List.set_cons_succ]); (try simp only [List.set_cons_zero]))
  refine wpAnyH_take (i := 13) (v := ?qvu18) rfl (by kernel_rfl) (by kernel_rfl) (by kernel_rfl) (fun _ _ _ h => h) (Or.inl ⟨by rfl, ?qyu18⟩) (by assumption) ?qru18; case qyu18 => ((intro w hSw; (try dsimp only at hSw); go_simp); try (with_reducible rfl))
  ((try simp only [List.getElem_toArray]); (try simp only [List.getElem_cons_succ]); (try simp only [List.getElem_cons_zero]); (try simp only [Act.put]); (try simp only [List.setIfInBounds_toArray]); (try simp only [List.set_cons_succ]); (try simp only [List.set_cons_zero]))
  refine wpAnyH_ready (rs := [14]) (by kernel_rfl) (by simp) ?_
  refine AllReadyH.cons rfl (fun K hK => ?_) AllReadyH.nil
  go_simp
  go_simp
  refine hK.out _ _ trivial (fun hHeld => ?_)
  clear hK K
  ((try simp only [List.getElem_toArray]); (try simp only [List.getElem_cons_succ]); (try simp only [List.getElem_cons_zero]); (try simp only [Act.put]); (try simp only [List.setIfInBounds_toArray]); (try simp only [List.set_cons_succ]); (try simp only [List.set_cons_zero]))
  refine wpAnyH_done (by kernel_rfl) ?_ _
  obtain ⟨W2, e2, R6', k6, K', o', a6, n6, oN6⟩ := FB.out
  have R6 := Lib.hid R6'
  have A6 := Lib.hid a6
  obtain ⟨q0, q1, q2, q3, q4, q5⟩ := R6.out
  clear a6 R6'
  go_wp2
  (obtain ⟨W7, eW7⟩ : ∃ W7, (((((W2.setCell ⟨N, 0, none⟩ (.int .i64 0)).setCell ⟨N, 1, none⟩ (.int .i64 0)).setCell ⟨N, 2, none⟩ (.slice none 0 0)).setCell ⟨N, 3, none⟩ (.int .i64 0)).setCell ⟨N, 4, none⟩ (.int .i64 0)) = W7 := ⟨_, rfl⟩; obtain ⟨⟨v0, v1, v2, v3, v4, _⟩, k7⟩ := res_set R6.out _ _ _ _ _ eW7; rw [eW7]; refine bodyPost_ret (v := .agg #[.int .i64 0, .int .i64 0, .slice none 0 0, .int .i64 0, .int .i64 0]) (by simp [results, Try.results96, go_sem, v0, v1, v2, v3, v4]) rfl ?_)
  exact ⟨.slice none 0 0, _, K', o', rfl, ⟨nb, ONB.out, rfl⟩, OwnM.nil, (fun g hg => by cases hg), A6.out.keep k7 (fun g hg e => by have e : g = N := e; rw [e, oN6] at hg; exact hg rfl), k6.older' k7 (Nat.le_of_eq EN.out), n6⟩
set_option maxRecDepth 100000 in
set_option maxHeartbeats 2000000 in
theorem put_seen (h : LdAt w m K o z) {i : Nat} (hi : i < 8) (ht : z.s i = some t) {k : Nat} (hk : k < 64) (hl : ∀ k, k < 64 → (z.k k).length ≤ 99999) (hq : (z.k k).find? (madeV t) = none) (hu : usedL z 64 ≤ 100000) (hs : (usedL z 64 : Int) ≠ z.slots) {u : VeI} (hu2 : u ∈ z.k k) (val : Int) :
  Calls Try.prog 96 #[.pointer (some ⟨m, 0, none⟩), .pointer (some ⟨t.b, 0, none⟩), .int .i64 k, .int .i64 val, (.pointer (some ⟨u.b, 0, none⟩))] w (LdEnd w m o re0 fun z' => ∃ nb, o nb = 0 ∧ z' = newZ (turnZ z k u.b (endV t.f)) k ⟨nb, val, t.f, none⟩) := by
 have hl : ∀ k, k < 64 → (z.k k).length ≤ 100000 := fun k hk => by have := hl k hk; omega
 obtain ⟨M, eM, rb, kM⟩ := res_box w; have hM := h.quiet kM; have C := find_any hM hk (hl k hk) (hold_made (hM.t i t hi ht) (hM.tf hi ht)); have ON := Lib.hid (show ∀ g, o g ≠ 0 → g ≠ w.heap.size from fun g hg e => by have := h.lt g hg; omega); obtain ⟨N, eN⟩ : ∃ N, w.heap.size = N := ⟨_, rfl⟩; rw [eN] at rb ON; rw [hq] at C; dsimp only [Option.map, ptrO] at C; have KM := Lib.hid kM; have HM := Lib.hid hM; have RB := Lib.hid rb; have EN := Lib.hid eN; have HT := Lib.hid ht; have HQ := Lib.hid hq
 have US := Lib.hid fun w1 (k1 : Keep (fun _ => False) M w1) (d : Nat) => used_same (hM.quiet (k1.trans (drewN_keep _ w1 d))) hu
 have C0 := Lib.hid fun w1 (k1 : Keep (fun _ => False) M w1) => k1.cell hM.a.c0 id
 obtain ⟨u0, eu⟩ : ∃ u0 : Nat, usedL z 64 = u0 := ⟨_, rfl⟩
 rw [eu] at hs US
 obtain ⟨sl, esl⟩ : ∃ sl, z.slots = sl := ⟨_, rfl⟩
 rw [esl] at hs C0
 have d : ((u0 : Int) == sl) = false := by simpa using hs
 have HL := Lib.hid hl
 have OFF := Lib.hid (h.oT i t hi ht)
 have ON0 := Lib.hid (show o N = 0 from by
  cases q : o N with
  | zero => rfl
  | succ n => exact absurd rfl (ON.out N (by rw [q]; omega)))
 have OZ := Lib.hid fun g (hg : w.heap.size ≤ g) => (show o g = 0 from by
  cases q : o g with
  | zero => rfl
  | succ n => have := h.lt g (by rw [q]; omega); omega)
 have OV := Lib.hid fun k v (hk : k < 64) (hv : v ∈ z.k k) => h.oV k v hk hv
 have HU := Lib.hid hu2
 have OU := Lib.hid (h.oV k u hk hu2).1
 clear h hM kM rb ht hq hl hs hu eu esl hu2
 go_enter Try.func96, Try.ntmps96
 go_wp2_with fail
 refine C.mono ?_
 rintro e w1 ⟨rfl, k1⟩
 clear C eM
 have U := US.out w1 k1
 have c0 := C0.out w1 k1
 have K1 := Lib.hid k1
 clear k1
 go_wp2_with fail
 go_quiet ((go_at_call 26; exact Calls.quiet_of_same (U _)))
 have kd := drewN_keep (fun _ => False) w1 nq
 obtain ⟨wd, ed⟩ : ∃ wd, w1.drewN nq = wd := ⟨_, rfl⟩
 rw [ed] at kd ⊢
 have KD := Lib.hid (K1.out.trans kd)
 clear U c0 kd ed K1
 have hd := HM.out.quiet KD.out
 have RD := Lib.hid (RB.out.keep KD.out id)
 have qe := (eql_nilV (w := wd) (a := u.b)).2
 have c2 := (hd.v k u hk HU.out).c2
 have f2 := (hd.v k u hk HU.out).fz 2
 have cf := (hd.t i t hi HT.out).cf
 obtain ⟨we, ew⟩ : ∃ we, wd.setCell ⟨u.b, 2, none⟩ (.pointer (some ⟨t.f, 0, none⟩)) = we := ⟨_, rfl⟩
 have ke : Keep (fun g => g = u.b) wd we := by rw [← ew]; exact keep_one wd ⟨u.b, 2, none⟩ _
 have he : LdAt we m K o (turnZ z k u.b (endV t.f)) := by rw [← ew]; exact hd.end2 hk HU.out hi HT.out
 have RE := Lib.hid (RD.out.keep ke (fun e => by have := OU.out; rw [← e, ON0.out] at this; cases this))
 have KE : Keep (fun g => o g ≠ 0) w we := (KM.out.trans KD.out).trans' (ke.mono fun g e => by have e : g = u.b := e; rw [e, OU.out]; decide)
 have cfe := (he.t i t hi HT.out).cf
 have mem : ∀ j x, j < 64 → x ∈ (turnZ z k u.b (endV t.f)).k j → ∃ y ∈ z.k j, x.b = y.b := fun j x hj hx => by
  have hx : x ∈ putK z.k k (turnB u.b (endV t.f) (z.k k)) j := hx
  by_cases e : j = k
  ·subst e
   rw [putK_self] at hx
   rcases turnB_mem hx with ⟨v, hv, _, e⟩ | ⟨q, _⟩
   ·exact ⟨v, hv, by rw [e]; rfl⟩
   ·exact ⟨x, q, rfl⟩
  ·rw [putK_ne _ _ e] at hx; exact ⟨x, hx, rfl⟩
 have len : ((turnZ z k u.b (endV t.f)).k k).length ≤ 100000 := by
  show (putK z.k k (turnB u.b (endV t.f) (z.k k)) k).length ≤ _
  rw [putK_self]; unfold turnB; rw [List.length_map]; exact HL.out k hk
 have hNw : N < we.heap.size := lt_of_cell RE.out.r0
 have hwW : w.heap.size ≤ we.heap.size := KE.size
 obtain ⟨nb, enb⟩ : ∃ nb, we.heap.size = nb := ⟨_, rfl⟩
 obtain ⟨wb, ebw⟩ : ∃ wb, we.alloc (.cells #[.int .i64 0, .pointer (some ⟨t.f, 0, none⟩), .pointer none] 150) = wb := ⟨_, rfl⟩
 obtain ⟨hb, vb, kb, sb⟩ := he.box hi HT.out ebw
 rw [enb] at hb vb sb hwW hNw
 obtain ⟨A, q, q', eK⟩ := OwnV.shape3 (hb.r k hk)
 obtain ⟨Zb, eZ⟩ : ∃ Zb, ((turnZ z k u.b (endV t.f)).k k).map VeI.b = Zb := ⟨_, rfl⟩
 have kd2 : Keep (fun _ => False) wb wb.drew := (Keep.refl _ _).drew
 have crd : wb.drew.cell? ⟨m, 12 + k, none⟩ = some (.slice A q q') := by have := hb.a.ck k hk; rw [eK] at this; exact this
 have cra : (wb.drew.alloc (.cells #[.pointer (some ⟨nb, 0, none⟩)] 103)).cell? ⟨m, 12 + k, none⟩ = some (.slice A q q') := ((Keep.refl (fun _ => False) wb.drew).alloc _).cell crd id
 have OM := Lib.hid (show OwnM 1 (fun b => [ptrV b]) 103 wb.drew (.slice A q q') Zb from by
  have := own_m ((hb.r k hk).keep kd2 (fun _ _ => id))
  rw [eZ, eK] at this
  exact this)
 have LEN := Lib.hid (show Zb.length ≤ 100000 by rw [← eZ, List.length_map]; exact len)
 have AFT := Lib.hid (app_after (o := o) (w0 := w) (val := val) (N := N) hb hk eK eZ (by simp) (by
   have : t.f ≠ nb := fun e => by have := OFF.out.2; rw [e, OZ.out nb hwW] at this; cases this
   simp [this, OFF.out.2]) vb (fun j x hj hx e => by
   obtain ⟨y, hy, e2⟩ := mem j x hj hx
   have := (OV.out j y hj hy).1
   rw [← e2, e, OZ.out nb hwW] at this
   cases this) (by
   have : N ≠ nb := by omega
   simp [this, ON0.out]) (by omega) (RE.out.keep kb id) (KE.trans (kb.mono fun _ e => e.elim)) (fun g hg => by
   by_cases e : g = nb
   ·right; rw [e]; exact hwW
   ·left; simpa [e] using hg) hwW kd2)
 have ONB := Lib.hid (OZ.out nb hwW)
 have hk2 : (k : Int) < 64 := by omega
 have crb : wb.cell? ⟨m, 12 + k, none⟩ = some (.slice A q q') := crd
 have hmw : m < wb.heap.size := lt_of_cell (a := ⟨m, 12 + k, none⟩) crd
 clear hb vb kb sb eK eZ kd2 hd he mem len KE hwW hNw
 go_wp2_with fail
 refine wp_region_held_drew (S := fun w' => True) (by kernel_rfl) trivial (fun hHeld => ?_)
 refine wpAnyH_take (i := 0) (v := ?qvu19) rfl (by kernel_rfl) (by kernel_rfl) (by kernel_rfl) (fun _ _ _ h => h) (Or.inl ⟨by rfl, ?qyu19⟩) (by assumption) ?qru19; case qyu19 => ((intro w hSw; (try dsimp only at hSw); go_simp); try (with_reducible rfl))
 ((try simp only [List.getElem_toArray]); (try simp only [List.getElem_cons_succ]); (try simp only [List.getElem_cons_zero]); (try simp only [Act.put]); (try simp only [List.setIfInBounds_toArray]); (try simp only [List.set_cons_succ]); (try simp only [List.set_cons_zero]))
 refine wpAnyH_take (i := 1) (v := ?qvu20) rfl (by kernel_rfl) (by kernel_rfl) (by kernel_rfl) (fun _ _ _ h => h) (Or.inl ⟨by rfl, ?qyu20⟩) (by assumption) ?qru20; case qyu20 => ((intro w hSw; (try dsimp only at hSw); go_simp); try (with_reducible rfl))
 ((try simp only [List.getElem_toArray]); (try simp only [List.getElem_cons_succ]); (try simp only [List.getElem_cons_zero]); (try simp only [Act.put]); (try simp only [List.setIfInBounds_toArray]); (try simp only [List.set_cons_succ]); (try simp only [List.set_cons_zero]))
 refine wpAnyH_take (i := 2) (v := ?qvu21) rfl (by kernel_rfl) (by kernel_rfl) (by kernel_rfl) (fun _ _ _ h => h) (Or.inl ⟨by rfl, ?qyu21⟩) (by assumption) ?qru21; case qyu21 => ((intro w hSw; (try dsimp only at hSw); go_simp); try (with_reducible rfl))
 ((try simp only [List.getElem_toArray]); (try simp only [List.getElem_cons_succ]); (try simp only [List.getElem_cons_zero]); (try simp only [Act.put]); (try simp only [List.setIfInBounds_toArray]); (try simp only [List.set_cons_succ]); (try simp only [List.set_cons_zero]))
 refine wpAnyH_take (i := 3) (v := ?qvu22) rfl (by kernel_rfl) (by kernel_rfl) (by kernel_rfl) (fun _ _ _ h => h) (Or.inl ⟨by rfl, ?qyu22⟩) (by assumption) ?qru22; case qyu22 => ((intro w hSw; (try dsimp only at hSw); go_simp); try (with_reducible rfl))
 ((try simp only [List.getElem_toArray]); (try simp only [List.getElem_cons_succ]); (try simp only [List.getElem_cons_zero]); (try simp only [Act.put]); (try simp only [List.setIfInBounds_toArray]); (try simp only [List.set_cons_succ]); (try simp only [List.set_cons_zero]))
 refine wpAnyH_take (i := 4) (v := ?qvu23) rfl (by kernel_rfl) (by kernel_rfl) (by kernel_rfl) (fun _ _ _ h => h) (Or.inl ⟨by rfl, ?qyu23⟩) (by assumption) ?qru23; case qyu23 => ((intro w hSw; (try dsimp only at hSw); go_simp); try (with_reducible rfl))
 ((try simp only [List.getElem_toArray]); (try simp only [List.getElem_cons_succ]); (try simp only [List.getElem_cons_zero]); (try simp only [Act.put]); (try simp only [List.setIfInBounds_toArray]); (try simp only [List.set_cons_succ]); (try simp only [List.set_cons_zero]))
 refine wpAnyH_take (i := 5) (v := ?qvu24) rfl (by kernel_rfl) (by kernel_rfl) (by kernel_rfl) (fun _ _ _ h => h) (Or.inl ⟨by rfl, ?qyu24⟩) (by assumption) ?qru24; case qyu24 => ((intro w hSw; (try dsimp only at hSw); go_simp); try (with_reducible rfl))
 ((try simp only [List.getElem_toArray]); (try simp only [List.getElem_cons_succ]); (try simp only [List.getElem_cons_zero]); (try simp only [Act.put]); (try simp only [List.setIfInBounds_toArray]); (try simp only [List.set_cons_succ]); (try simp only [List.set_cons_zero]))
 refine wpAnyH_take (i := 6) (v := ?qvu25) rfl (by kernel_rfl) (by kernel_rfl) (by kernel_rfl) (fun _ _ _ h => h) (Or.inl ⟨by rfl, ?qyu25⟩) (by assumption) ?qru25; case qyu25 => ((intro w hSw; (try dsimp only at hSw); go_simp); try (with_reducible rfl))
 ((try simp only [List.getElem_toArray]); (try simp only [List.getElem_cons_succ]); (try simp only [List.getElem_cons_zero]); (try simp only [Act.put]); (try simp only [List.setIfInBounds_toArray]); (try simp only [List.set_cons_succ]); (try simp only [List.set_cons_zero]))
 refine wpAnyH_take (i := 8) (v := ?qvu26) rfl (by kernel_rfl) (by kernel_rfl) (by kernel_rfl) (fun _ _ _ h => h) (Or.inl ⟨by rfl, ?qyu26⟩) (by assumption) ?qru26; case qyu26 => ((intro w hSw; (try dsimp only at hSw); go_simp); try (with_reducible rfl))
 ((try simp only [List.getElem_toArray]); (try simp only [List.getElem_cons_succ]); (try simp only [List.getElem_cons_zero]); (try simp only [Act.put]); (try simp only [List.setIfInBounds_toArray]); (try simp only [List.set_cons_succ]); (try simp only [List.set_cons_zero]))
 refine wpAnyH_take (i := 11) (v := ?qvu27) rfl (by kernel_rfl) (by kernel_rfl) (by kernel_rfl) (fun _ _ _ h => h) (Or.inl ⟨by rfl, ?qyu27⟩) (by assumption) ?qru27; case qyu27 => ((intro w hSw; (try dsimp only at hSw); go_simp); try (with_reducible rfl))
 ((try simp only [List.getElem_toArray]); (try simp only [List.getElem_cons_succ]); (try simp only [List.getElem_cons_zero]); (try simp only [Act.put]); (try simp only [List.setIfInBounds_toArray]); (try simp only [List.set_cons_succ]); (try simp only [List.set_cons_zero]))
 refine wpAnyH_take (i := 12) (v := ?qvu28) rfl (by kernel_rfl) (by kernel_rfl) (by kernel_rfl) (fun _ _ _ h => h) (Or.inl ⟨by rfl, ?qyu28⟩) (by assumption) ?qru28; case qyu28 => ((intro w hSw; (try dsimp only at hSw); go_simp); try (with_reducible rfl))
 ((try simp only [List.getElem_toArray]); (try simp only [List.getElem_cons_succ]); (try simp only [List.getElem_cons_zero]); (try simp only [Act.put]); (try simp only [List.setIfInBounds_toArray]); (try simp only [List.set_cons_succ]); (try simp only [List.set_cons_zero]))
 refine wpAnyH_ready (rs := [7, 9]) (by kernel_rfl) (by simp) ?_
 refine AllReadyH.cons rfl (fun K hK => ?_) (AllReadyH.cons rfl (fun K hK => ?_) AllReadyH.nil)
 ·go_simp
  refine hK.out _ _ trivial (fun hHeld => ?_)
  clear hK K
  ((try simp only [List.getElem_toArray]); (try simp only [List.getElem_cons_succ]); (try simp only [List.getElem_cons_zero]); (try simp only [Act.put]); (try simp only [List.setIfInBounds_toArray]); (try simp only [List.set_cons_succ]); (try simp only [List.set_cons_zero]))
  refine wpAnyH_ready (rs := [9]) (by kernel_rfl) (by simp) ?_
  refine AllReadyH.cons rfl (fun K hK => ?_) AllReadyH.nil
  go_simp
  refine hK.out _ _ trivial (fun hHeld => ?_)
  clear hK K
  ((try simp only [List.getElem_toArray]); (try simp only [List.getElem_cons_succ]); (try simp only [List.getElem_cons_zero]); (try simp only [Act.put]); (try simp only [List.setIfInBounds_toArray]); (try simp only [List.set_cons_succ]); (try simp only [List.set_cons_zero]))
  refine wpAnyH_ready (rs := [10]) (by kernel_rfl) (by simp) ?_
  refine AllReadyH.cons rfl (fun K hK => ?_) AllReadyH.nil
  refine step_pushM Try.underlying94 info_ve rfl (by decide) (by decide) (fun _ => rfl) (by intro p u hu; simp at hu; subst hu; rfl) rfl (.tmp 51) (.tmp 53) rfl _ Zb (by rfl) OM.out nb (by rfl) LEN.out ?_
  intro g4 c4 y4 o4 k4 hg4
  obtain ⟨wg, eg, ⟨um, cm4⟩, fm4, n0, n2, m0, m2, FB⟩ := AFT.out g4 c4 y4 o4 k4 hg4
  have FB := Lib.hid FB
  clear o4 k4 hg4
  refine hK.out _ _ trivial (fun hHeld => ?_)
  clear hK K
  ((try simp only [List.getElem_toArray]); (try simp only [List.getElem_cons_succ]); (try simp only [List.getElem_cons_zero]); (try simp only [Act.put]); (try simp only [List.setIfInBounds_toArray]); (try simp only [List.set_cons_succ]); (try simp only [List.set_cons_zero]))
  refine wpAnyH_take (i := 13) (v := ?qvu29) rfl (by kernel_rfl) (by kernel_rfl) (by kernel_rfl) (fun _ _ _ h => h) (Or.inl ⟨by rfl, ?qyu29⟩) (by assumption) ?qru29; case qyu29 => ((intro w hSw; (try dsimp only at hSw); go_simp); try (with_reducible rfl))
  ((try simp only [List.getElem_toArray]); (try simp only [List.getElem_cons_succ]); (try simp only [List.getElem_cons_zero]); (try simp only [Act.put]); (try simp only [List.setIfInBounds_toArray]); (try simp only [List.set_cons_succ]); (try simp only [List.set_cons_zero]))
  refine wpAnyH_ready (rs := [14]) (by kernel_rfl) (by simp) ?_
  refine AllReadyH.cons rfl (fun K hK => ?_) AllReadyH.nil
  go_simp
  go_simp
  refine hK.out _ _ trivial (fun hHeld => ?_)
  clear hK K
  ((try simp only [List.getElem_toArray]); (try simp only [List.getElem_cons_succ]); (try simp only [List.getElem_cons_zero]); (try simp only [Act.put]); (try simp only [List.setIfInBounds_toArray]); (try simp only [List.set_cons_succ]); (try simp only [List.set_cons_zero]))
  refine wpAnyH_done (by kernel_rfl) ?_ _
  obtain ⟨W2, e2, R6', k6, K', o', a6, n6, oN6⟩ := FB.out
  have R6 := Lib.hid R6'
  have A6 := Lib.hid a6
  obtain ⟨q0, q1, q2, q3, q4, q5⟩ := R6.out
  clear a6 R6'
  go_wp2
  (obtain ⟨W7, eW7⟩ : ∃ W7, (((((W2.setCell ⟨N, 0, none⟩ (.int .i64 0)).setCell ⟨N, 1, none⟩ (.int .i64 0)).setCell ⟨N, 2, none⟩ (.slice none 0 0)).setCell ⟨N, 3, none⟩ (.int .i64 0)).setCell ⟨N, 4, none⟩ (.int .i64 0)) = W7 := ⟨_, rfl⟩; obtain ⟨⟨v0, v1, v2, v3, v4, _⟩, k7⟩ := res_set R6.out _ _ _ _ _ eW7; rw [eW7]; refine bodyPost_ret (v := .agg #[.int .i64 0, .int .i64 0, .slice none 0 0, .int .i64 0, .int .i64 0]) (by simp [results, Try.results96, go_sem, v0, v1, v2, v3, v4]) rfl ?_)
  exact ⟨.slice none 0 0, _, K', o', rfl, ⟨nb, ONB.out, rfl⟩, OwnM.nil, (fun g hg => by cases hg), A6.out.keep k7 (fun g hg e => by have e : g = N := e; rw [e, oN6] at hg; exact hg rfl), k6.older' k7 (Nat.le_of_eq EN.out), n6⟩
 ·go_simp
  refine hK.out _ _ trivial (fun hHeld => ?_)
  clear hK K
  ((try simp only [List.getElem_toArray]); (try simp only [List.getElem_cons_succ]); (try simp only [List.getElem_cons_zero]); (try simp only [Act.put]); (try simp only [List.setIfInBounds_toArray]); (try simp only [List.set_cons_succ]); (try simp only [List.set_cons_zero]))
  refine wpAnyH_ready (rs := [7]) (by kernel_rfl) (by simp) ?_
  refine AllReadyH.cons rfl (fun K hK => ?_) AllReadyH.nil
  go_simp
  refine hK.out _ _ trivial (fun hHeld => ?_)
  clear hK K
  ((try simp only [List.getElem_toArray]); (try simp only [List.getElem_cons_succ]); (try simp only [List.getElem_cons_zero]); (try simp only [Act.put]); (try simp only [List.setIfInBounds_toArray]); (try simp only [List.set_cons_succ]); (try simp only [List.set_cons_zero]))
  refine wpAnyH_ready (rs := [10]) (by kernel_rfl) (by simp) ?_
  refine AllReadyH.cons rfl (fun K hK => ?_) AllReadyH.nil
  refine step_pushM Try.underlying94 info_ve rfl (by decide) (by decide) (fun _ => rfl) (by intro p u hu; simp at hu; subst hu; rfl) rfl (.tmp 51) (.tmp 53) rfl _ Zb (by rfl) OM.out nb (by rfl) LEN.out ?_
  intro g4 c4 y4 o4 k4 hg4
  obtain ⟨wg, eg, ⟨um, cm4⟩, fm4, n0, n2, m0, m2, FB⟩ := AFT.out g4 c4 y4 o4 k4 hg4
  have FB := Lib.hid FB
  clear o4 k4 hg4
  refine hK.out _ _ trivial (fun hHeld => ?_)
  clear hK K
  ((try simp only [List.getElem_toArray]); (try simp only [List.getElem_cons_succ]); (try simp only [List.getElem_cons_zero]); (try simp only [Act.put]); (try simp only [List.setIfInBounds_toArray]); (try simp only [List.set_cons_succ]); (try simp only [List.set_cons_zero]))
  refine wpAnyH_take (i := 13) (v := ?qvu30) rfl (by kernel_rfl) (by kernel_rfl) (by kernel_rfl) (fun _ _ _ h => h) (Or.inl ⟨by rfl, ?qyu30⟩) (by assumption) ?qru30; case qyu30 => ((intro w hSw; (try dsimp only at hSw); go_simp); try (with_reducible rfl))
  ((try simp only [List.getElem_toArray]); (try simp only [List.getElem_cons_succ]); (try simp only [List.getElem_cons_zero]); (try simp only [Act.put]); (try simp only [List.setIfInBounds_toArray]); (try simp only [List.set_cons_succ]); (try simp only [List.set_cons_zero]))
  refine wpAnyH_ready (rs := [14]) (by kernel_rfl) (by simp) ?_
  refine AllReadyH.cons rfl (fun K hK => ?_) AllReadyH.nil
  go_simp
  go_simp
  refine hK.out _ _ trivial (fun hHeld => ?_)
  clear hK K
  ((try simp only [List.getElem_toArray]); (try simp only [List.getElem_cons_succ]); (try simp only [List.getElem_cons_zero]); (try simp only [Act.put]); (try simp only [List.setIfInBounds_toArray]); (try simp only [List.set_cons_succ]); (try simp only [List.set_cons_zero]))
  refine wpAnyH_done (by kernel_rfl) ?_ _
  obtain ⟨W2, e2, R6', k6, K', o', a6, n6, oN6⟩ := FB.out
  have R6 := Lib.hid R6'
  have A6 := Lib.hid a6
  obtain ⟨q0, q1, q2, q3, q4, q5⟩ := R6.out
  clear a6 R6'
  go_wp2
  (obtain ⟨W7, eW7⟩ : ∃ W7, (((((W2.setCell ⟨N, 0, none⟩ (.int .i64 0)).setCell ⟨N, 1, none⟩ (.int .i64 0)).setCell ⟨N, 2, none⟩ (.slice none 0 0)).setCell ⟨N, 3, none⟩ (.int .i64 0)).setCell ⟨N, 4, none⟩ (.int .i64 0)) = W7 := ⟨_, rfl⟩; obtain ⟨⟨v0, v1, v2, v3, v4, _⟩, k7⟩ := res_set R6.out _ _ _ _ _ eW7; rw [eW7]; refine bodyPost_ret (v := .agg #[.int .i64 0, .int .i64 0, .slice none 0 0, .int .i64 0, .int .i64 0]) (by simp [results, Try.results96, go_sem, v0, v1, v2, v3, v4]) rfl ?_)
  exact ⟨.slice none 0 0, _, K', o', rfl, ⟨nb, ONB.out, rfl⟩, OwnM.nil, (fun g hg => by cases hg), A6.out.keep k7 (fun g hg e => by have e : g = N := e; rw [e, oN6] at hg; exact hg rfl), k6.older' k7 (Nat.le_of_eq EN.out), n6⟩
end
end Go.Proofs.Ytkkjofefjepodaa
/- Package model as landed, in memory: newTxn, New, Begin. Condition: times below 2^41. -/
namespace Go.Proofs.Ytkkjofefjepodaa
open Go.ChangeShapes Go.WideShapes Go.ChangeAt Go.RowKit
set_option linter.unusedVariables false
set_option linter.unusedSimpArgs false
section
variable {w w' w2 : World} {m g n c : Nat} {K : Nat → Value} {o : Nat → Nat} {z : LdI} {T : Nat → Prop} {F : Nat → FtI} {P : VeI → Bool} {t : TtI} {fv : Value} {l : List VeI}
def ttC (id' level begin' : Int) (f : Nat) : List Value := [.int .i64 id', .int .i64 level, .int .u64 begin', .int .i64 0] ++ List.replicate 64 (.bool false) ++ [.pointer (some ⟨f, 0, none⟩)]
set_option maxRecDepth 100000 in
theorem build_tt (id' level begin' : Int) (f : Nat) : ((((Try.zeroCells100.setIfInBounds 0 (.int .i64 id')).setIfInBounds 1 (.int .i64 level)).setIfInBounds 2 (.int .u64 begin')).setIfInBounds 68 (.pointer (some ⟨f, 0, none⟩))) = (ttC id' level begin' f).toArray := by kernel_rfl
theorem ttC_at (id' level begin' : Int) (f : Nat) : (ttC id' level begin' f)[0]? = some (.int .i64 id') ∧ (ttC id' level begin' f)[1]? = some (.int .i64 level) ∧ (ttC id' level begin' f)[2]? = some (.int .u64 begin') ∧ (ttC id' level begin' f)[3]? = some (.int .i64 0) ∧ (ttC id' level begin' f)[68]? = some (.pointer (some ⟨f, 0, none⟩)) ∧ ∀ k, k < 64 → (ttC id' level begin' f)[4 + k]? = some (.bool false) := by
 refine ⟨rfl, rfl, rfl, rfl, rfl, fun k hk => ?_⟩
 unfold ttC
 rw [List.getElem?_append_left (by simp; omega), List.getElem?_append_right (by simp)]
 rw [List.getElem?_replicate]
 simp
 omega
/-- What newTxn makes. -/
def NewT (w : World) (id' level begin' : Int) (e : Ending) (w' : World) : Prop := ∃ tb tf, e = .returned (.pointer (some ⟨tb, 0, none⟩)) ∧ w.heap.size ≤ tb ∧ w.heap.size ≤ tf ∧ tb ≠ tf ∧ TtAt w' ⟨tb, id', level, begin', 0, fun _ => false, tf⟩ ∧ FtAt w' tf ⟨1, 0⟩ ∧ Keep (fun _ => False) w w' ∧ w'.heap.size = w.heap.size + 2 ∧ tb < w'.heap.size ∧ tf < w'.heap.size
set_option maxRecDepth 100000 in
theorem newTxn_any (id' level begin' : Int) (w : World) : Calls Try.prog 56 #[.int .i64 id', .int .i64 level, .int .u64 begin'] w (NewT w id' level begin') := by
 obtain ⟨w1, e1⟩ : ∃ w1, w.alloc (.cells #[.int .u32 0, .int .i32 0, .int .u32 0, .int .i64 1, .int .u64 0] 148) = w1 := ⟨_, rfl⟩
 obtain ⟨f, ef⟩ : ∃ f, w.heap.size = f := ⟨_, rfl⟩
 have s1 : w1.heap.size = f + 1 := by rw [← e1]; simp [ef]
 have k1 : Keep (fun _ => False) w w1 := by rw [← e1]; exact (Keep.refl _ _).alloc _
 have F1 : FtAt w1 f ⟨1, 0⟩ := by
  rw [← e1, ← ef]
  exact ⟨by simp, by simp, fun i => by simp, fun _ => ⟨by simp, by simp⟩⟩
 obtain ⟨w2, e2⟩ : ∃ w2, w1.alloc (.cells (ttC id' level begin' f).toArray 100) = w2 := ⟨_, rfl⟩
 have k2 : Keep (fun _ => False) w1 w2 := by rw [← e2]; exact (Keep.refl _ _).alloc _
 have s2 : w2.heap.size = f + 2 := by rw [← e2]; simp [s1]
 have T2 : TtAt w2 ⟨w1.heap.size, id', level, begin', 0, fun _ => false, f⟩ := by
  obtain ⟨a0, a1, a2, a3, a4, a5⟩ := ttC_at id' level begin' f
  have hc : ∀ (i : Nat) (u : Value), (ttC id' level begin' f)[i]? = some u → w2.cell? ⟨w1.heap.size, i, none⟩ = some u := fun i u h => by rw [← e2]; simpa using h
  exact ⟨hc _ _ a0, hc _ _ a1, hc _ _ a2, hc _ _ a3, fun k hk => hc _ _ (a5 k hk), hc _ _ a4, fun i => by rw [← e2]; simp⟩
 have FIN := Lib.hid (show NewT w id' level begin' (.returned (.pointer (some ⟨w1.heap.size, 0, none⟩))) w2 from ⟨_, f, rfl, by omega, by omega, by omega, T2, F1.keep k2 id, k1.trans k2, by omega, by omega, by omega⟩)
 obtain ⟨tb, etb⟩ : ∃ tb, w1.heap.size = tb := ⟨_, rfl⟩
 rw [etb] at FIN
 obtain ⟨A, eA⟩ : ∃ A, ((((Try.zeroCells100.setIfInBounds 0 (.int .i64 id')).setIfInBounds 1 (.int .i64 level)).setIfInBounds 2 (.int .u64 begin')).setIfInBounds 68 (.pointer (some ⟨f, 0, none⟩))) = A := ⟨_, rfl⟩
 rw [← build_tt, eA] at e2
 clear s1 k1 F1 k2 s2 T2
 go_enter Try.func56, Try.ntmps56
 go_wp2
 go_ret
 obtain ⟨a, f2, e0, r⟩ := FIN.out
 cases e0
 exact ⟨_, f2, rfl, r⟩
/-- A transaction begins, in blocks of its own. -/
def begZ (z : LdI) (i : Nat) (level : Int) (tb tf : Nat) : LdI := { z with clock := z.clock + 1, begun := z.begun + 1, s := putT z.s i (some ⟨tb, z.begun + 1, level, z.clock + 1, 0, fun _ => false, tf⟩), F := updF z.F tf ⟨1, 0⟩ }
theorem LdAt.newT (h : LdAt w m K o z) {i : Nat} (hi : i < 8) {tb tf : Nat} {t : TtI} (k : Keep (fun _ => False) w w2) (h1 : w.heap.size ≤ tb) (h2 : w.heap.size ≤ tf) (hne : tb ≠ tf) (eb : t.b = tb) (ef : t.f = tf) (T2 : TtAt w2 t) (F2 : FtAt w2 tf ⟨1, 0⟩) :
  LdAt (w2.setCell ⟨m, 4 + i, none⟩ (.pointer (some ⟨tb, 0, none⟩))) m K (fun g => if g = tb then 70 + i else if g = tf then 81 else o g) { z with s := putT z.s i (some t), F := updF z.F tf ⟨1, 0⟩ } := by
 have lb : tb < w2.heap.size := by have := T2.lt; rw [eb] at this; exact this
 have lf := F2.lt
 have a := h.fresh k (fun g => if g = tb then 70 + i else if g = tf then 81 else o g) (updF z.F tf ⟨1, 0⟩) (fun g hg => by rw [if_neg (by omega), if_neg (by omega)]) (fun g hg => updF_ne _ _ (by omega)) (fun g hg => by
  by_cases e : g = tb
  ·omega
  ·by_cases e2 : g = tf
   ·omega
   ·have hg : (if g = tb then 70 + i else if g = tf then 81 else o g) ≠ 0 := hg
    rw [if_neg e, if_neg e2] at hg
    exact Nat.lt_of_lt_of_le (h.lt g hg) k.size) (fun g hg e => by
  by_cases e1 : g = tb
  ·have e : (if g = tb then 70 + i else if g = tf then 81 else o g) = 81 := e
   rw [if_pos e1] at e; omega
  ·by_cases e2 : g = tf
   ·rw [e2, updF_self]; exact F2
   ·have e : (if g = tb then 70 + i else if g = tf then 81 else o g) = 81 := e
    rw [if_neg e1, if_neg e2] at e
    have := h.lt g (by rw [e]; decide)
    omega)
 have b := a.ses hi (some t) (fun u hu => by
  cases hu
  rw [eb, ef]
  exact ⟨T2, by rw [if_pos rfl], by rw [if_neg (Ne.symm hne), if_pos rfl]⟩)
 rw [show ptrO ((some t).map TtI.b) = .pointer (some ⟨tb, 0, none⟩) by rw [← eb]; rfl] at b
 exact b
def BegP (w : World) (m : Nat) (K : Nat → Value) (o : Nat → Nat) (z : LdI) (i : Nat) (level : Int) (e : Ending) (w' : World) : Prop :=
 e = .returned (.tuple #[.int .i64 (z.begun + 1), .int .i64 0]) ∧ ∃ tb tf o', o tb = 0 ∧ o tf = 0 ∧ LdAt w' m K o' (begZ z i level tb tf) ∧ Keep (fun g => o g ≠ 0) w w' ∧ ∀ g, o' g ≠ 0 → o g ≠ 0 ∨ w.heap.size ≤ g
theorem begin_core (h : LdAt w m K o z) {i : Nat} (hi : i < 8) (level : Int) {tb tf : Nat} {w0 : World} (K0 : Keep (fun g => o g ≠ 0) w0 w) (z0 : LdI) (hz : z = { z0 with clock := z0.clock + 1, begun := z0.begun + 1 }) (k : Keep (fun _ => False) w w2) (h1 : w.heap.size ≤ tb) (h2 : w.heap.size ≤ tf) (hne : tb ≠ tf) (T2 : TtAt w2 ⟨tb, z0.begun + 1, level, z0.clock + 1, 0, fun _ => false, tf⟩) (F2 : FtAt w2 tf ⟨1, 0⟩) :
  ∃ w4, w2.setCell ⟨m, 4 + i, none⟩ (.pointer (some ⟨tb, 0, none⟩)) = w4 ∧ w4.cell? ⟨m, 3, none⟩ = some (.int .i64 (z0.begun + 1)) ∧ (∃ u, w2.cell? ⟨m, 4 + i, none⟩ = some u) ∧ w2.frozen? ⟨m, 4 + i, none⟩ = false ∧ o tb = 0 ∧ o tf = 0 ∧ ∃ o', LdAt w4 m K o' (begZ z0 i level tb tf) ∧ Keep (fun g => o g ≠ 0) w0 w4 ∧ ∀ g, o' g ≠ 0 → o g ≠ 0 ∨ w0.heap.size ≤ g := by
 have a := h.newT hi k h1 h2 hne rfl rfl T2 F2
 have c3 := (h.quiet k).a.c3
 have hm := (h.quiet k).a
 obtain ⟨w4, e4⟩ : ∃ w4, w2.setCell ⟨m, 4 + i, none⟩ (.pointer (some ⟨tb, 0, none⟩)) = w4 := ⟨_, rfl⟩
 have k4 := keep_one w2 ⟨m, 4 + i, none⟩ (.pointer (some ⟨tb, 0, none⟩))
 have zero : ∀ g, w.heap.size ≤ g → o g = 0 := fun g hg => by
  cases q : o g with
  | zero => rfl
  | succ n => have := h.lt g (by rw [q]; omega); omega
 rw [e4] at a k4
 refine ⟨w4, e4, ?_, ⟨_, hm.cs i hi⟩, hm.fz _, zero tb h1, zero tf h2, (fun g => if g = tb then 70 + i else if g = tf then 81 else o g), ?_, (K0.trans (k.mono fun _ e => e.elim)).trans (k4.mono fun g e => ?_), fun g hg => ?_⟩
 ·have := a.a.c3
  have e : ({ z with s := putT z.s i (some ⟨tb, z0.begun + 1, level, z0.clock + 1, 0, fun _ => false, tf⟩), F := updF z.F tf ⟨1, 0⟩ } : LdI).begun = z0.begun + 1 := by rw [hz]
  rw [e] at this
  exact this
 ·have e : ({ z with s := putT z.s i (some ⟨tb, z0.begun + 1, level, z0.clock + 1, 0, fun _ => false, tf⟩), F := updF z.F tf ⟨1, 0⟩ } : LdI) = begZ z0 i level tb tf := by rw [hz]; rfl
  rw [e] at a
  exact a
 ·have e : g = m := e
  rw [e, h.om]; decide
 ·have hg : (if g = tb then 70 + i else if g = tf then 81 else o g) ≠ 0 := hg
  by_cases e : g = tb
  ·exact .inr (by rw [e]; exact Nat.le_trans K0.size h1)
  ·by_cases e2 : g = tf
   ·exact .inr (by rw [e2]; exact Nat.le_trans K0.size h2)
   ·rw [if_neg e, if_neg e2] at hg; exact .inl hg
end
end Go.Proofs.Ytkkjofefjepodaa
