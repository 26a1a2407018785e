/- Several texts, one behind the other: LdD, LdG, LdX, LdL. -/
import Derived.Test.YtalkfnblnlcklaaModelBaseDZar
import Derived.Test.YtalkfnblnlcklaaModelBaseDZas
import Derived.Test.YtalkfnblnlcklaaModelBaseDZaf
import Derived.Test.YtalkfnblnlcklaaModelBaseDZao
import Derived.Test.YtalkfnblnlcklaaModelBaseDZad
/- Package model as landed, in memory: a key's slice becomes another one; Collect. Condition: at most 100,000 versions. -/
namespace Go.Proofs.Ytalkfnblnlcklaa
open Go.ChangeShapes Go.WideShapes Go.ChangeAt Go.RowKit
set_option linter.unusedVariables false
set_option linter.unusedSimpArgs false
section
variable {w w' w2 : World} {m g n c : Nat} {K : Nat → Value} {o : Nat → Nat} {z : LdI} {T : Nat → Prop} {F : Nat → FtI} {P : VeI → Bool} {t : TtI} {fv : Value} {l : List VeI}
def relab (o : Nat → Nat) (v : Value) (j : Nat) : Nat → Nat := fun g => if v.ownBlock = some g then 2 + j else o g
theorem LdAt.rekey (h : LdAt w m K o z) {j : Nat} (hj : j < 64) {v' : Value} {l' : List VeI} (k2 : Keep (fun b => (K j).ownBlock = some b) w w2) (o2 : OwnV w2 v' l') (hb : ∀ g, v'.ownBlock = some g → (K j).ownBlock = some g ∨ w.heap.size ≤ g)
  (hl : ∀ x ∈ l', VeAt w x ∧ o x.b = 80 ∧ o x.mr = 81 ∧ ∀ e, x.en = some e → o e = 81) (nd : ∀ k1 k2 u v, k1 < 64 → k2 < 64 → u ∈ putK z.k j l' k1 → v ∈ putK z.k j l' k2 → u.b = v.b → k1 = k2 ∧ u = v) :
  LdAt (w2.setCell ⟨m, 12 + j, none⟩ v') m (putV K j v') (relab o v' j) { z with k := putK z.k j l' } := by
 have ks := keep_one w2 ⟨m, 12 + j, none⟩ v'
 have old : ∀ g, g < w.heap.size → relab o v' j g = o g := fun g hg => by
  unfold relab
  by_cases e : v'.ownBlock = some g
  ·rw [if_pos e]
   rcases hb g e with q | q
   ·exact (h.oK j g hj q).symm
   ·omega
  ·rw [if_neg e]
 have lab : ∀ g x, o g = x → x ≠ 0 → relab o v' j g = x := fun g x e hx => by rw [old g (h.lt g (by rw [e]; exact hx))]; exact e
 have far : ∀ g, o g ≠ 0 → o g ≠ 2 + j → ¬ (K j).ownBlock = some g := fun g h0 hn e => hn (h.oK j g hj e)
 have nm : ∀ g, o g ≠ 0 → o g ≠ 1 → ¬ g = m := fun g _ hg e => hg (by rw [e]; exact h.om)
 have am := (h.a.keep k2 (far m (by rw [h.om]; omega) (by rw [h.om]; omega))).key hj v'
 have gm : ∀ g, v'.ownBlock = some g → ¬ g = m := fun g hg e => by
  subst e
  rcases hb g hg with q | q
  ·have := h.oK j g hj q; rw [h.om] at this; omega
  ·have := h.a.lt; omega
 refine ⟨⟨am.c0, am.c1, am.c2, am.c3, am.cs, am.ck, am.fz⟩, fun k hk => ?_, fun i t hi ht => ?_, fun k x hk hx => ?_, fun g hg => ?_, lab _ _ h.om (by decide), fun k g hk hg => ?_, fun i t hi ht => ⟨lab _ _ (h.oT i t hi ht).1 (by omega), lab _ _ (h.oT i t hi ht).2 (by decide)⟩, fun k x hk hx => ?_, nd, fun g hg => ?_⟩
 ·show OwnV _ (putV K j v' k) (putK z.k j l' k)
  unfold putV
  by_cases e : k = j
  ·subst e
   rw [if_pos rfl, putK_self]
   exact o2.keep ks gm
  ·rw [if_neg e, putK_ne _ _ e]
   refine ((h.r k hk).keep k2 fun g hg => ?_).keep ks fun g hg => ?_
   ·exact far g (by rw [h.oK k g hk hg]; omega) (by rw [h.oK k g hk hg]; omega)
   ·exact nm g (by rw [h.oK k g hk hg]; omega) (by rw [h.oK k g hk hg]; omega)
 ·have ol := (h.oT i t hi ht).1
  exact ((h.t i t hi ht).keep k2 (far _ (by rw [ol]; omega) (by rw [ol]; omega))).keep ks (nm _ (by rw [ol]; omega) (by rw [ol]; omega))
 ·have q : VeAt w x ∧ o x.b = 80 := by
   have hx : x ∈ putK z.k j l' k := hx
   by_cases e : k = j
   ·subst e; rw [putK_self] at hx; exact ⟨(hl x hx).1, (hl x hx).2.1⟩
   ·rw [putK_ne _ _ e] at hx; exact ⟨h.v k x hk hx, (h.oV k x hk hx).1⟩
  exact (q.1.keep k2 (far _ (by rw [q.2]; omega) (by rw [q.2]; omega))).keep ks (nm _ (by rw [q.2]; omega) (by rw [q.2]; omega))
 ·have q : o g = 81 := by
   by_cases e : v'.ownBlock = some g
   ·have hg : relab o v' j g = 81 := hg
    unfold relab at hg
    rw [if_pos e] at hg
    omega
   ·have hg : relab o v' j g = 81 := hg
    unfold relab at hg
    rw [if_neg e] at hg
    exact hg
  exact ((h.f g q).keep k2 (far _ (by rw [q]; omega) (by rw [q]; omega))).keep ks (nm _ (by rw [q]; omega) (by rw [q]; omega))
 ·have hg : (putV K j v' k).ownBlock = some g := hg
  unfold putV at hg
  by_cases e : k = j
  ·subst e
   rw [if_pos rfl] at hg
   unfold relab; rw [if_pos hg]
  ·rw [if_neg e] at hg
   exact lab _ _ (h.oK k g hk hg) (by omega)
 ·have hx : x ∈ putK z.k j l' k := hx
  have q : o x.b = 80 ∧ o x.mr = 81 ∧ ∀ e, x.en = some e → o e = 81 := by
   by_cases e : k = j
   ·subst e; rw [putK_self] at hx; exact (hl x hx).2
   ·rw [putK_ne _ _ e] at hx; exact h.oV k x hk hx
  exact ⟨lab _ _ q.1 (by decide), lab _ _ q.2.1 (by decide), fun e he => lab _ _ (q.2.2 e he) (by decide)⟩
 ·have hg : relab o v' j g ≠ 0 := hg
  unfold relab at hg
  by_cases e : v'.ownBlock = some g
  ·exact Nat.lt_of_lt_of_le (o2.lt e) ks.size
  ·rw [if_neg e] at hg
   exact Nat.lt_of_lt_of_le (h.lt g hg) (Nat.le_trans k2.size ks.size)
theorem relab_same (h : LdAt w m K o z) {j : Nat} (hj : j < 64) {v' : Value} (hb : v'.ownBlock = (K j).ownBlock) : relab o v' j = o := by
 funext g
 unfold relab
 by_cases e : v'.ownBlock = some g
 ·rw [if_pos e]; exact (h.oK j g hj (by rw [← hb]; exact e)).symm
 ·rw [if_neg e]
/-- The first keys are swept. -/
def sweptL (z : LdI) (low : Int) (j : Nat) : LdI := { z with k := fun k => if k < j then (z.k k).filter fun v => !garbV z.F low v else z.k k }
theorem swept_next (z : LdI) (low : Int) (j : Nat) : ({ sweptL z low j with k := putK (sweptL z low j).k j (((sweptL z low j).k j).filter fun v => !garbV z.F low v) } : LdI) = sweptL z low (j + 1) := by
 unfold sweptL
 simp only [LdI.mk.injEq, true_and, and_true]
 funext k
 by_cases e : k = j
 ·subst e
  rw [putK_self, if_neg (by omega), if_pos (by omega)]
 ·rw [putK_ne _ _ e]
  by_cases q : k < j
  ·rw [if_pos q, if_pos (by omega)]
  ·rw [if_neg q, if_neg (by omega)]
theorem LdAt.del (h : LdAt w m K o z) {j : Nat} (hj : j < 64) {v' : Value} (P : VeI → Bool) (k2 : Keep (fun b => (K j).ownBlock = some b) w w2) (o2 : OwnV w2 v' ((z.k j).filter P)) (hb : v'.ownBlock = (K j).ownBlock) :
  LdAt (w2.setCell ⟨m, 12 + j, none⟩ v') m (putV K j v') o { z with k := putK z.k j ((z.k j).filter P) } := by
 have sub : ∀ k x, x ∈ putK z.k j ((z.k j).filter P) k → x ∈ z.k k := fun k x hx => by
  by_cases e : k = j
  ·subst e; rw [putK_self] at hx; exact (List.mem_filter.1 hx).1
  ·rw [putK_ne _ _ e] at hx; exact hx
 have := h.rekey hj k2 o2 (fun g hg => .inl (by rw [← hb]; exact hg)) (fun x hx => ⟨h.v j x hj (List.mem_filter.1 hx).1, h.oV j x hj (List.mem_filter.1 hx).1⟩) (fun k1 k2 u v h1 h2 hu hv e => h.nd k1 k2 u v h1 h2 (sub _ _ hu) (sub _ _ hv) e)
 rw [relab_same h hj hb] at this
 exact this
structure RCol (w : World) (m p : Nat) (o : Nat → Nat) (K0 : Nat → Value) (z : LdI) (low : Int) (q : Value) (wr : World) (K : Nat → Value) (j : Nat) : Prop where
 jn : j ≤ 64
 q : q = .int .i64 j
 h : LdAt wr m K o (sweptL z low j)
 kk : ∀ k, j ≤ k → K k = K0 k
 cp : wr.cell? ⟨p, 0, none⟩ = some (.int .u64 low)
 k : Keep (fun g => o g ≠ 0) w wr
theorem swept_ge (z : LdI) (low : Int) (j : Nat) : (sweptL z low j).k j = z.k j := if_neg (Nat.lt_irrefl j)
theorem swept_all (z : LdI) (low : Int) : (sweptL z low 0) = z := by unfold sweptL; simp
theorem RCol.next {p : Nat} {K0 K : Nat → Value} {low : Int} {q : Value} {wr : World} {j : Nat} (h : RCol w m p o K0 z low q wr K j) (hj : j < 64) (hp : o p = 0) {v' : Value} (k2 : Keep (fun b => (K j).ownBlock = some b) wr w2) (o2 : OwnV w2 v' ((z.k j).filter fun v => !garbV z.F low v)) (hb : v'.ownBlock = (K j).ownBlock) :
  RCol w m p o K0 z low (.int .i64 ((j : Int) + 1)) (w2.setCell ⟨m, 12 + j, none⟩ v') (putV K j v') (j + 1) := by
 have hm := h.h.om
 have a := h.h.del hj (fun v => !garbV z.F low v) k2 (by rw [swept_ge]; exact o2) hb
 rw [swept_next] at a
 refine ⟨by omega, by go_num, a, fun k hk => ?_, ?_, (h.k.trans (k2.mono fun g e => by rw [h.h.oK j g hj e]; omega)).setCell (p := ⟨m, 12 + j, none⟩) (by show o m ≠ 0; rw [hm]; decide) _⟩
 ·unfold putV; rw [if_neg (by omega)]; exact h.kk k (by omega)
 ·rw [World.cell?_setCell_other _ _ _ _ (fun e => by have : m = p := congrArg Addr.block e; rw [this, hp] at hm; cases hm)]
  exact k2.cell h.cp (fun e => by have := h.h.oK j p hj e; omega)
theorem OwnV.shape3 {v : Value} (ow : OwnV w v l) : ∃ A n c, v = .slice A n c := by obtain ⟨A, c, e, _⟩ := ow.shape; exact ⟨A, _, c, e⟩
theorem used_swept (z : LdI) (low : Int) (n j : Nat) : usedL (sweptL z low j) n ≤ usedL z n := by
  induction n with
  | zero => exact Nat.le_refl _
  | succ n ih =>
    rw [usedL_succ, usedL_succ]
    have : ((sweptL z low j).k n).length ≤ (z.k n).length := by
      show (if n < j then (z.k n).filter _ else z.k n).length ≤ _
      split
      · exact List.length_filter_le _ _
      · exact Nat.le_refl _
    omega
theorem RCol.next' {p : Nat} {K0 K : Nat → Value} {low : Int} {q : Value} {wr : World} {j : Nat} (h : RCol w m p o K0 z low q wr K j) (hj : j < 64) (hp : o p = 0) {v' : Value} (k2 : Keep (fun b => (K0 j).ownBlock = some b) wr.drew w2) (o2 : OwnV w2 v' ((z.k j).filter fun v => !garbV z.F low v)) (hb : v'.ownBlock = (K0 j).ownBlock) :
  RCol w m p o K0 z low (.int .i64 ((j : Int) + 1)) (w2.setCell ⟨m, 12 + j, none⟩ v') (putV K j v') (j + 1) := by
 have e := h.kk j (Nat.le_refl j)
 exact h.next hj hp (by rw [e]; exact ((Keep.refl (fun b => (K0 j).ownBlock = some b) wr).drew).trans k2) o2 (by rw [e]; exact hb)
set_option maxRecDepth 100000 in
set_option maxHeartbeats 4000000 in
theorem collect_any (h : LdAt w m K o z) (hu : usedL z 64 ≤ 100000) (hb : ∀ i t, i < 8 → z.s i = some t → U64 t.start) :
  Calls Try.prog 17 #[.pointer (some ⟨m, 0, none⟩)] w fun e w' => e = .returned (.int .i64 ((usedL z 64 : Int) - (usedL (sweptL z (lowN z 8) 64) 64 : Int))) ∧ ∃ K', LdAt w' m K' o (sweptL z (lowN z 8) 64) ∧ Keep (fun g => o g ≠ 0) w w' := by
 have U := used_any h hu
 have HB := Lib.hid hb
 have H := Lib.hid h
 obtain ⟨low, el⟩ : ∃ low, lowN z 8 = low := ⟨_, rfl⟩
 have EL := Lib.hid el
 rw [el]
 have hu2 := used_swept z low 64 64
 obtain ⟨u, eu⟩ : ∃ u, usedL z 64 = u := ⟨_, rfl⟩
 obtain ⟨u2, eu2⟩ : ∃ u2, usedL (sweptL z low 64) 64 = u2 := ⟨_, rfl⟩
 have EU2 := Lib.hid eu2
 have EU := Lib.hid eu
 rw [eu, eu2] at hu2 ⊢
 rw [eu] at U hu
 clear h hb el eu eu2
 go_enter Try.func17, Try.ntmps17
 go_wp2_with fail
 refine U.mono ?_
 rintro e w1 ⟨rfl, k1⟩
 clear U
 have OL := oldest_any (H.out.quiet k1) HB.out
 rw [EL.out] at OL
 have K1 := Lib.hid k1
 clear k1
 go_wp2_with fail
 refine OL.mono ?_
 rintro e w2 ⟨rfl, k2⟩
 clear OL
 have K2 := Lib.hid (K1.out.trans k2)
 obtain ⟨w3, e3⟩ : ∃ w3, (w2.alloc (.cells #[.int .u64 0] 27)).setCell ⟨w2.heap.size, 0, none⟩ (.int .u64 low) = w3 := ⟨_, rfl⟩
 have k3 : Keep (fun _ => False) w2 w3 := by
  rw [← e3]
  exact ((Keep.refl (fun _ => False) w2).alloc _).older (keep_one _ ⟨w2.heap.size, 0, none⟩ _) (fun j e => by have e : j = w2.heap.size := e; omega)
 have cp : w3.cell? ⟨w2.heap.size, 0, none⟩ = some (.int .u64 low) := by
  rw [← e3]
  exact World.cell?_setCell_same _ _ _ (u := .int .u64 0) (by simp)
 have op : o w2.heap.size = 0 := by
  cases q : o w2.heap.size with
  | zero => rfl
  | succ n => have := H.out.lt w2.heap.size (by rw [q]; omega); have := K2.out.size; omega
 have OP := Lib.hid op
 have K3 := Lib.hid (K2.out.trans k3)
 have H3 := H.out.quiet K3.out
 have ST : RCol w m w2.heap.size o K z low (.int .i64 0) w3 K 0 := ⟨by decide, rfl, by rw [swept_all]; exact H3, fun _ _ => rfl, cp, K3.out.mono fun _ e => e.elim⟩
 have S0 := Lib.hid ST
 have HC := Lib.hid (keyC_cell H3)
 clear k2 k3 cp op H3 ST K1
 go_wp2_with (refine wpList_load_mid rfl 52 _ rfl ⟨m, 12, none⟩ rfl (keyC K) _ HC.out Try.underlying52 rfl (by kernel_rfl) ?_)
 clear e3
 go_loopw [5, 6, 15] (fun _ _ q wr => ∃ (K' : Nat → Value) (j : Nat), RCol w m w2.heap.size o K z low q wr K' j) (fun _ _ q _ => 64 - (intOf q).toNat)
 case atStart => exact ⟨K, 0, S0.out⟩
 case round =>
  obtain ⟨K', j, hR⟩ := hrel
  have RC := Lib.hid hR
  obtain ⟨hj, rfl, hh, hkk, hcp, hk⟩ := hR
  have wj : IntKind.i64.wrap ((j : Int) + 1) = (j : Int) + 1 := IntWalk.i64_in _ (by omega)
  by_cases hlt : j < 64
  ·have ix := fun w => run_index_arr (P := Try.prog) (keyC K) Try.underlying52 Try.underlying51 rfl (by kernel_rfl) hlt (keyC_at K hlt) w
   have kd : Keep (fun _ => False) wr wr.drew := (Keep.refl _ _).drew
   have hd := hh.quiet kd
   have ej := hkk j (Nat.le_refl j)
   have ob : ∀ g, (K j).ownBlock = some g → o g = 2 + j := fun g hg => hh.oK j g hlt (by rw [ej]; exact hg)
   have ow : OwnV wr.drew (K j) (z.k j) := by
    have := hd.r j hlt
    rw [ej, swept_ge] at this
    exact this
   have hvm : ∀ x ∈ z.k j, x ∈ (sweptL z low j).k j := fun x hx => by rw [swept_ge]; exact hx
   have D := delete_any (F := z.F) (P := garbV z.F low) (p := w2.heap.size) (f := 34) ow (by rw [← swept_ge z low j]; exact Nat.le_trans (by rw [swept_ge]; have := usedL_le z (show j + 1 ≤ 64 from hlt); rw [usedL_succ, EU.out] at this; omega) hu) (fun x hx w' k => by
    have ob2 : ∀ {g : Nat}, (K j).ownBlock = some g → o g = 2 + j := fun h => ob _ h
    have l := hh.oV j x hlt (hvm x hx)
    have v := hd.ver hlt (hvm x hx)
    exact ⟨v.a.keep k (fun e => by have := ob2 e; omega), v.m.keep k (fun e => by have := ob2 e; omega), v.e.keep k (fun g hg e => by have := ob2 e; have := l.2.2 g hg; omega)⟩) (fun w' k => hold_garb (k.cell (kd.cell hcp id) (fun e => by have : o w2.heap.size = 2 + j := ob _ e; have := OP.out; omega)))
   have CM := Lib.hid (show ∀ w', Keep (fun b => (K j).ownBlock = some b) wr.drew w' → (∃ u, w'.cell? ⟨m, 12 + j, none⟩ = some u ∧ w'.frozen? ⟨m, 12 + j, none⟩ = false) from fun w' k =>
    ⟨_, k.cell (hd.a.ck j hlt) (fun e => by have : o m = 2 + j := ob _ e; have := hh.om; omega), (k.frozen (a := ⟨m, 12 + j, none⟩) hd.a.lt (fun e => by have : o m = 2 + j := ob _ e; have := hh.om; omega)).trans (hd.a.fz (12 + j))⟩)
   obtain ⟨A, c, eK, jA, jB, jC⟩ := ow.shape
   clear jA jB jC
   obtain ⟨n, en⟩ : ∃ n, (z.k j).length = n := ⟨_, rfl⟩
   rw [en] at eK
   rw [eK] at ix D CM
   have EK := Lib.hid eK
   clear hh hkk hcp hk kd hd ej ob ow hvm eK en
   have hlt2 : (j : Int) < 64 := by omega
   go_wp2_with fail
   refine wp_region_held_drew (S := fun w' => True) (by kernel_rfl) trivial (fun hHeld => ?_)
   refine wpAnyH_take (i := 0) (v := ?qvu0) rfl (by kernel_rfl) (by kernel_rfl) (by kernel_rfl) (fun _ _ _ h => h) (Or.inl ⟨by rfl, ?qyu0⟩) (by assumption) ?qru0; case qyu0 => ((intro w hSw; (try dsimp only at hSw); go_simp); try (with_reducible rfl))
   ((try simp only [List.getElem_toArray]); (try simp only [List.getElem_cons_succ]); (try simp only [List.getElem_cons_zero]); (try simp only [Act.put]); (try simp only [List.setIfInBounds_toArray]); (try simp only [List.set_cons_succ]); (try simp only [List.set_cons_zero]))
   refine wpAnyH_take (i := 1) (v := ?qvu1) rfl (by kernel_rfl) (by kernel_rfl) (by kernel_rfl) (fun _ _ _ h => h) (Or.inl ⟨by rfl, ?qyu1⟩) (by assumption) ?qru1; case qyu1 => ((intro w hSw; (try dsimp only at hSw); go_simp); try (with_reducible rfl))
   ((try simp only [List.getElem_toArray]); (try simp only [List.getElem_cons_succ]); (try simp only [List.getElem_cons_zero]); (try simp only [Act.put]); (try simp only [List.setIfInBounds_toArray]); (try simp only [List.set_cons_succ]); (try simp only [List.set_cons_zero]))
   refine wpAnyH_take (i := 2) (v := ?qvu2) rfl (by kernel_rfl) (by kernel_rfl) (by kernel_rfl) (fun _ _ _ h => h) (Or.inl ⟨by rfl, ?qyu2⟩) (by assumption) ?qru2; case qyu2 => ((intro w hSw; (try dsimp only at hSw); go_simp); try (with_reducible rfl))
   ((try simp only [List.getElem_toArray]); (try simp only [List.getElem_cons_succ]); (try simp only [List.getElem_cons_zero]); (try simp only [Act.put]); (try simp only [List.setIfInBounds_toArray]); (try simp only [List.set_cons_succ]); (try simp only [List.set_cons_zero]))
   refine wpAnyH_take (i := 3) (v := ?qvu3) rfl (by kernel_rfl) (by kernel_rfl) (by kernel_rfl) (fun _ _ _ h => h) (Or.inl ⟨by rfl, ?qyu3⟩) (by assumption) ?qru3; case qyu3 => ((intro w hSw; (try dsimp only at hSw); go_simp); try (with_reducible rfl))
   ((try simp only [List.getElem_toArray]); (try simp only [List.getElem_cons_succ]); (try simp only [List.getElem_cons_zero]); (try simp only [Act.put]); (try simp only [List.setIfInBounds_toArray]); (try simp only [List.set_cons_succ]); (try simp only [List.set_cons_zero]))
   refine wpAnyH_take (i := 5) (v := ?qvu4) rfl (by kernel_rfl) (by kernel_rfl) (by kernel_rfl) (fun _ _ _ h => h) (Or.inl ⟨by rfl, ?qyu4⟩) (by assumption) ?qru4; case qyu4 => ((intro w hSw; (try dsimp only at hSw); go_simp); try (with_reducible rfl))
   ((try simp only [List.getElem_toArray]); (try simp only [List.getElem_cons_succ]); (try simp only [List.getElem_cons_zero]); (try simp only [Act.put]); (try simp only [List.setIfInBounds_toArray]); (try simp only [List.set_cons_succ]); (try simp only [List.set_cons_zero]))
   refine wpAnyH_take (i := 6) (v := ?qvu5) rfl (by kernel_rfl) (by kernel_rfl) (by kernel_rfl) (fun _ _ _ h => h) (Or.inl ⟨by rfl, ?qyu5⟩) (by assumption) ?qru5; case qyu5 => ((intro w hSw; (try dsimp only at hSw); go_simp); try (with_reducible rfl))
   ((try simp only [List.getElem_toArray]); (try simp only [List.getElem_cons_succ]); (try simp only [List.getElem_cons_zero]); (try simp only [Act.put]); (try simp only [List.setIfInBounds_toArray]); (try simp only [List.set_cons_succ]); (try simp only [List.set_cons_zero]))
   refine wpAnyH_ready (rs := [4]) (by kernel_rfl) (by simp) ?_
   refine AllReadyH.cons rfl (fun K hK => ?_) AllReadyH.nil
   go_simp
   refine D.mono ?_
   rintro e w4 ⟨v', rfl, o4, ob4, k4⟩
   obtain ⟨A4, n4, c4, rfl⟩ := OwnV.shape3 o4
   have NX := Lib.hid (RC.out.next' hlt (OP.out) (by rw [EK.out]; exact k4) o4 (by rw [EK.out]; exact ob4))
   obtain ⟨um, cmj, fmj⟩ := CM.out w4 k4
   clear o4 ob4 k4
   clear D
   refine hK.out _ _ trivial (fun hHeld => ?_)
   clear hK K
   ((try simp only [List.getElem_toArray]); (try simp only [List.getElem_cons_succ]); (try simp only [List.getElem_cons_zero]); (try simp only [Act.put]); (try simp only [List.setIfInBounds_toArray]); (try simp only [List.set_cons_succ]); (try simp only [List.set_cons_zero]))
   refine wpAnyH_take (i := 7) (v := ?qvu6) rfl (by kernel_rfl) (by kernel_rfl) (by kernel_rfl) (fun _ _ _ h => h) (Or.inl ⟨by rfl, ?qyu6⟩) (by assumption) ?qru6; case qyu6 => ((intro w hSw; (try dsimp only at hSw); go_simp); try (with_reducible rfl))
   ((try simp only [List.getElem_toArray]); (try simp only [List.getElem_cons_succ]); (try simp only [List.getElem_cons_zero]); (try simp only [Act.put]); (try simp only [List.setIfInBounds_toArray]); (try simp only [List.set_cons_succ]); (try simp only [List.set_cons_zero]))
   refine wpAnyH_ready (rs := [8]) (by kernel_rfl) (by simp) ?_
   refine AllReadyH.cons rfl (fun K hK => ?_) AllReadyH.nil
   go_simp
   go_simp
   refine hK.out _ _ trivial (fun hHeld => ?_)
   clear hK K
   ((try simp only [List.getElem_toArray]); (try simp only [List.getElem_cons_succ]); (try simp only [List.getElem_cons_zero]); (try simp only [Act.put]); (try simp only [List.setIfInBounds_toArray]); (try simp only [List.set_cons_succ]); (try simp only [List.set_cons_zero]))
   refine wpAnyH_done (by kernel_rfl) ?_ _
   go_wp2
   first | exact ⟨⟨_, j + 1, NX.out⟩, by simp [intOf]; omega⟩ | (refine ⟨?rel2, ?meas2⟩; (case meas2 => (simp [intOf]; omega)); (case rel2 => ((repeat apply Exists.intro); exact ⟨⟨_, j + 1, NX.out⟩, rfl⟩)))
  ·obtain rfl : j = 64 := by omega
   have U2 := used_any hh (by rw [EU2.out]; omega)
   rw [EU2.out] at U2
   have HH := Lib.hid hh
   have HK := Lib.hid hk
   have ws : IntKind.i64.wrap ((u : Int) - (u2 : Int)) = (u : Int) - (u2 : Int) := IntWalk.i64_in _ (by omega)
   clear hh hk hkk hcp
   go_wp2_with fail
   refine U2.mono ?_
   rintro e w5 ⟨rfl, k5⟩
   clear U2
   go_wp2
   go_ret
   exact ⟨rfl, _, HH.out.quiet k5, HK.out.trans (k5.mono fun _ e => e.elim)⟩
end
end Go.Proofs.Ytalkfnblnlcklaa
/- Package model as landed, in memory: get. Condition: at most 100,000 versions of a key. -/
namespace Go.Proofs.Ytalkfnblnlcklaa
open Go.ChangeShapes Go.WideShapes Go.ChangeAt Go.RowKit
set_option linter.unusedVariables false
set_option linter.unusedSimpArgs false
section
variable {w w' : World} {m : Nat} {K : Nat → Value} {o : Nat → Nat} {z : LdI} {T : Nat → Prop} {F : Nat → FtI} {P : VeI → Bool} {t : TtI} {fv : Value} {l : List VeI}
def setT (z : LdI) (i : Nat) (t : TtI) : LdI := { z with s := putT z.s i (some t) }
def gotL (q : Option VeI) : ReI := match q with | some v => ⟨0, v.val, [], 0, 0⟩ | none => ⟨11, 0, [], 0, 0⟩
def gotT (t : TtI) (q : Option VeI) (k : Nat) : TtI := match q with | some _ => relyT t 2 k k | none => relyT t 3 k k
/-- A call that answers a result without Pairs, and leaves a Model; only blocks of it have turned. -/
def LdRes (w : World) (m : Nat) (K : Nat → Value) (o : Nat → Nat) (r : ReI) (z : LdI) (e : Ending) (w' : World) : Prop := e = .returned (reV r (.slice none 0 0)) ∧ LdAt w' m K o z ∧ Keep (fun g => o g ≠ 0) w w'
set_option maxRecDepth 100000 in
theorem lget_any (h : LdAt w m K o z) {i : Nat} (hi : i < 8) (ht : z.s i = some t) {k : Nat} (hk : k < 64) (hl : (z.k k).length ≤ 100000) :
    Calls Try.prog 52 #[.pointer (some ⟨m, 0, none⟩), .pointer (some ⟨t.b, 0, none⟩), .int .i64 k] w (LdRes w m K o (gotL ((z.k k).find? (seesV z.F t))) (setT z i (gotT t ((z.k k).find? (seesV z.F t)) k))) := by
  obtain ⟨M, eM, rb, kM⟩ := res_box w
  have hM := h.quiet kM
  have C := find_any hM hk hl (hold_sees (hM.t i t hi ht) (hM.tf hi ht))
  have V := fun v (hv : (z.k k).find? (seesV z.F t) = some v) => hM.v k v hk (List.mem_of_find?_eq_some hv)
  have ON := Lib.hid (show ∀ g, o g ≠ 0 → g ≠ w.heap.size from fun g hg e => by have := h.lt g hg; omega)
  have ob := h.oT i t hi ht
  have OV := Lib.hid fun v (hv : (z.k k).find? (seesV z.F t) = some v) => h.oV k v hk (List.mem_of_find?_eq_some hv)
  obtain ⟨N, eN⟩ : ∃ N, w.heap.size = N := ⟨_, rfl⟩
  rw [eN] at rb ON
  obtain ⟨q, eq⟩ : ∃ q, (z.k k).find? (seesV z.F t) = q := ⟨_, rfl⟩
  rw [eq] at C ⊢
  have hbN : ¬ N = t.b := fun e => ON.out t.b (by rw [ob.1]; omega) e.symm
  have VH := Lib.hid V
  have EQ := Lib.hid eq
  have OB := Lib.hid ob
  have KM := Lib.hid kM
  have HM := Lib.hid hM
  have RB := Lib.hid rb
  have EN := Lib.hid eN
  have HT := Lib.hid ht
  clear h V kM hM rb eq ht ob
  cases q with
  | none =>
    dsimp only [Option.map, ptrO] at C
    unfold gotL gotT LdRes reV setT
    dsimp only
    go_enter Try.func52, Try.ntmps52
    go_wp2_with fail
    refine C.mono ?_
    rintro e w1 ⟨rfl, k1⟩
    clear C eM
    have R := relies_any (HM.out.quiet k1) hi HT.out 3 k k (Nat.le_refl _) hk
    have K1 := Lib.hid k1
    clear k1
    go_wp2_with fail
    refine R.mono ?_
    rintro e w2 ⟨rfl, a2, k2⟩
    clear R
    have R6 := Lib.hid ((RB.out.keep K1.out id).keep k2 hbN)
    obtain ⟨q0, q1, q2, q3, q4, q5⟩ := R6.out
    have A2 := Lib.hid a2
    have K2 := Lib.hid k2
    clear a2 k2
    go_wp2
    (obtain ⟨W7, eW7⟩ : ∃ W7, (((((w2.setCell ⟨N, 0, none⟩ (.int .i64 11)).setCell ⟨N, 1, none⟩ (.int .i64 0)).setCell ⟨N, 2, none⟩ (.slice none 0 0)).setCell ⟨N, 3, none⟩ (.int .i64 0)).setCell ⟨N, 4, none⟩ (.int .i64 0)) = W7 := ⟨_, rfl⟩; obtain ⟨⟨v0, v1, v2, v3, v4, _⟩, k7⟩ := res_set R6.out _ _ _ _ _ eW7; rw [eW7]; refine bodyPost_ret (v := .agg #[.int .i64 11, .int .i64 0, .slice none 0 0, .int .i64 0, .int .i64 0]) (by simp [results, Try.results52, go_sem, v0, v1, v2, v3, v4]) rfl ⟨rfl, ?_⟩)
    refine ⟨A2.out.keep k7 (fun g hg e => ON.out g hg e), (((KM.out.trans K1.out).trans' (K2.out.mono fun g e => ?_)).older' k7 (by rw [EN.out]; exact Nat.le_refl _))⟩
    have e : g = t.b := e
    rw [e, OB.out.1]; omega
  | some v =>
    dsimp only [Option.map, ptrO] at C
    have c0 := (VH.out v EQ.out).c0
    have nv : ¬ v.b = t.b := fun e => by have := (OV.out v EQ.out).1; rw [e, OB.out.1] at this; omega
    unfold gotL gotT LdRes reV setT
    dsimp only
    obtain ⟨vv, ev⟩ : ∃ vv, v.val = vv := ⟨_, rfl⟩
    rw [ev] at c0
    simp only [ev]
    clear ev
    go_enter Try.func52, Try.ntmps52
    go_wp2_with fail
    refine C.mono ?_
    rintro e w1 ⟨rfl, k1⟩
    clear C eM
    have c0 := k1.cell c0 id
    have R := relies_any (HM.out.quiet k1) hi HT.out 2 k k (Nat.le_refl _) hk
    have K1 := Lib.hid k1
    clear k1
    go_wp2_with fail
    refine R.mono ?_
    rintro e w2 ⟨rfl, a2, k2⟩
    clear R
    have c0 := k2.cell c0 nv
    have R6 := Lib.hid ((RB.out.keep K1.out id).keep k2 hbN)
    obtain ⟨q0, q1, q2, q3, q4, q5⟩ := R6.out
    have A2 := Lib.hid a2
    have K2 := Lib.hid k2
    clear a2 k2
    go_wp2
    (obtain ⟨W7, eW7⟩ : ∃ W7, (((((w2.setCell ⟨N, 0, none⟩ (.int .i64 0)).setCell ⟨N, 1, none⟩ (.int .i64 vv)).setCell ⟨N, 2, none⟩ (.slice none 0 0)).setCell ⟨N, 3, none⟩ (.int .i64 0)).setCell ⟨N, 4, none⟩ (.int .i64 0)) = W7 := ⟨_, rfl⟩; obtain ⟨⟨v0, v1, v2, v3, v4, _⟩, k7⟩ := res_set R6.out _ _ _ _ _ eW7; rw [eW7]; refine bodyPost_ret (v := .agg #[.int .i64 0, .int .i64 vv, .slice none 0 0, .int .i64 0, .int .i64 0]) (by simp [results, Try.results52, go_sem, v0, v1, v2, v3, v4]) rfl ⟨rfl, ?_⟩)
    refine ⟨A2.out.keep k7 (fun g hg e => ON.out g hg e), (((KM.out.trans K1.out).trans' (K2.out.mono fun g e => ?_)).older' k7 (by rw [EN.out]; exact Nat.le_refl _))⟩
    have e : g = t.b := e
    rw [e, OB.out.1]; omega
end
end Go.Proofs.Ytalkfnblnlcklaa
/- Package model as landed, in memory: put, where a transaction has a version of its own, and where there is no slot. Condition: at most 100,000 versions. -/
namespace Go.Proofs.Ytalkfnblnlcklaa
open Go.ChangeShapes Go.WideShapes Go.ChangeAt Go.RowKit
set_option linter.unusedVariables false
set_option linter.unusedSimpArgs false
section
variable {w w' w2 : World} {m g n c : Nat} {K : Nat → Value} {o : Nat → Nat} {z : LdI} {T : Nat → Prop} {F : Nat → FtI} {P : VeI → Bool} {t : TtI} {fv : Value} {l : List VeI}
def turnZ (z : LdI) (k b : Nat) (f : VeI → VeI) : LdI := { z with k := putK z.k k (turnB b f (z.k k)) }
def endV (f : Nat) (u : VeI) : VeI := { u with en := some f }
def valV (val : Int) (u : VeI) : VeI := { u with val := val, en := none }
theorem putK_put (k : Nat → List VeI) (i : Nat) (a b : List VeI) : putK (putK k i a) i b = putK k i b := by
 funext j
 unfold putK
 by_cases e : j = i
 ·rw [if_pos e, if_pos e]
 ·rw [if_neg e, if_neg e, if_neg e]
theorem turnB_turn (b : Nat) (f g : VeI → VeI) (hf : ∀ u, (f u).b = u.b) (l : List VeI) : turnB b g (turnB b f l) = turnB b (fun u => g (f u)) l := by
 unfold turnB
 rw [List.map_map]
 refine List.map_congr_left fun u hu => ?_
 show (if (if u.b = b then f u else u).b = b then g (if u.b = b then f u else u) else (if u.b = b then f u else u)) = _
 by_cases e : u.b = b
 ·rw [if_pos e, if_pos (by rw [hf]; exact e), if_pos e]
 ·rw [if_neg e, if_neg e, if_neg e]
/-- A version of the Model is given a value, and nobody has ended it. -/
theorem LdAt.val2 (h : LdAt w m K o z) {k : Nat} {v : VeI} (hk : k < 64) (hv : v ∈ z.k k) (val : Int) : LdAt ((w.setCell ⟨v.b, 0, none⟩ (.int .i64 val)).setCell ⟨v.b, 2, none⟩ (.pointer none)) m K o (turnZ z k v.b (valV val)) := by
 have ob := h.oV k v hk hv
 have a := h.vers hk hv (fun u => { u with val := val }) (fun _ => rfl) rfl (fun e he => ob.2.2 e he) ((h.v k v hk hv).val' val)
 have hv2 : ({ v with val := val } : VeI) ∈ putK z.k k (turnB v.b (fun u => { u with val := val }) (z.k k)) k := by
  rw [putK_self]
  refine List.mem_map.2 ⟨v, hv, ?_⟩
  rw [if_pos rfl]
 have b := a.vers hk hv2 (fun u => { u with en := none }) (fun _ => rfl) rfl (fun e he => by cases he) ((a.v k _ hk hv2).en' none)
 have e : ({ z with k := putK (putK z.k k (turnB v.b (fun u => { u with val := val }) (z.k k))) k (turnB v.b (fun u => { u with en := none }) (putK z.k k (turnB v.b (fun u => { u with val := val }) (z.k k)) k)) } : LdI) = turnZ z k v.b (valV val) := by
  rw [putK_self, turnB_turn v.b (fun u => { u with val := val }) (fun u => { u with en := none }) (fun _ => rfl), putK_put]
  rfl
 rw [← e]
 exact b
theorem LdAt.end2 (h : LdAt w m K o z) {k i : Nat} {v : VeI} (hk : k < 64) (hv : v ∈ z.k k) (hi : i < 8) (ht : z.s i = some t) : LdAt (w.setCell ⟨v.b, 2, none⟩ (.pointer (some ⟨t.f, 0, none⟩))) m K o (turnZ z k v.b (endV t.f)) :=
 h.vers hk hv (endV t.f) (fun _ => rfl) rfl (fun e he => by cases he; exact (h.oT i t hi ht).2) ((h.v k v hk hv).en' (some t.f))
set_option maxRecDepth 100000 in
theorem put_own (h : LdAt w m K o z) {i : Nat} (hi : i < 8) (ht : z.s i = some t) {k : Nat} (hk : k < 64) (hl : ∀ k, k < 64 → (z.k k).length ≤ 100000) {v : VeI} (hq : (z.k k).find? (madeV t) = some v) (val : Int) (se : Value) :
  Calls Try.prog 63 #[.pointer (some ⟨m, 0, none⟩), .pointer (some ⟨t.b, 0, none⟩), .int .i64 k, .int .i64 val, se] w (LdRes w m K o re0 (turnZ z k v.b (valV val))) := by
 obtain ⟨M, eM, rb, kM⟩ := res_box w; have hM := h.quiet kM; have C := find_any hM hk (hl k hk) (hold_made (hM.t i t hi ht) (hM.tf hi ht)); have ON := Lib.hid (show ∀ g, o g ≠ 0 → g ≠ w.heap.size from fun g hg e => by have := h.lt g hg; omega); obtain ⟨N, eN⟩ : ∃ N, w.heap.size = N := ⟨_, rfl⟩; rw [eN] at rb ON; rw [hq] at C; dsimp only [Option.map, ptrO] at C; have KM := Lib.hid kM; have HM := Lib.hid hM; have RB := Lib.hid rb; have EN := Lib.hid eN; have HT := Lib.hid ht; have HQ := Lib.hid hq
 have hv := List.mem_of_find?_eq_some hq
 have ov := (h.oV k v hk hv).1
 have VM := Lib.hid fun w1 (k1 : Keep (fun _ => False) M w1) => (hM.quiet k1).v k v hk hv
 have FIN := Lib.hid fun w1 (k1 : Keep (fun _ => False) M w1) => (hM.quiet k1).val2 hk hv val
 have NV := Lib.hid (show ¬ N = v.b from fun e => ON.out v.b (by rw [ov]; decide) e.symm)
 have OV := Lib.hid ov
 clear h hM kM rb ht hq hl hv ov
 unfold LdRes reV re0
 dsimp only
 go_enter Try.func63, Try.ntmps63
 go_wp2_with fail
 refine C.mono ?_
 rintro e w1 ⟨rfl, k1⟩
 clear C eM
 obtain ⟨c0, c1, c2, cf⟩ := VM.out w1 k1
 have f0 := cf 0
 have f2 := cf 2
 have A := Lib.hid (FIN.out w1 k1)
 have RW := Lib.hid (RB.out.keep k1 id)
 have K1 := Lib.hid k1
 obtain ⟨W2, e2⟩ : ∃ W2, (w1.setCell ⟨v.b, 0, none⟩ (.int .i64 val)).setCell ⟨v.b, 2, none⟩ (.pointer none) = W2 := ⟨_, rfl⟩
 have k2 : Keep (fun g => g = v.b) w1 W2 := by rw [← e2]; exact ((Keep.refl (fun g => g = v.b) w1).setCell (p := ⟨v.b, 0, none⟩) rfl _).setCell (p := ⟨v.b, 2, none⟩) rfl _
 have c2b : (w1.setCell ⟨v.b, 0, none⟩ (.int .i64 val)).cell? ⟨v.b, 2, none⟩ = some (ptrO v.en) := by rw [World.cell?_setCell_other _ _ _ _ (by first | (simp; done) | (simp; omega))]; exact c2
 have f2b : (w1.setCell ⟨v.b, 0, none⟩ (.int .i64 val)).frozen? ⟨v.b, 2, none⟩ = false := by rw [World.frozen?_setCell]; exact f2
 rw [e2] at A
 have R6 := Lib.hid (RW.out.keep k2 NV.out)
 obtain ⟨q0, q1, q2, q3, q4, q5⟩ := R6.out
 have K2 := Lib.hid k2
 clear k1 k2 c1 c2 cf f2
 go_wp2
 (obtain ⟨W7, eW7⟩ : ∃ W7, (((((W2.setCell ⟨N, 0, none⟩ (.int .i64 0)).setCell ⟨N, 1, none⟩ (.int .i64 0)).setCell ⟨N, 2, none⟩ (.slice none 0 0)).setCell ⟨N, 3, none⟩ (.int .i64 0)).setCell ⟨N, 4, none⟩ (.int .i64 0)) = W7 := ⟨_, rfl⟩; obtain ⟨⟨v0, v1, v2, v3, v4, _⟩, k7⟩ := res_set R6.out _ _ _ _ _ eW7; rw [eW7]; refine bodyPost_ret (v := .agg #[.int .i64 0, .int .i64 0, .slice none 0 0, .int .i64 0, .int .i64 0]) (by simp [results, Try.results63, go_sem, v0, v1, v2, v3, v4]) rfl ⟨rfl, ?_⟩)
 refine ⟨A.out.keep k7 (fun g hg e => ON.out g hg e), (((KM.out.trans K1.out).trans' (K2.out.mono fun g e => ?_)).older' k7 (by rw [EN.out]; exact Nat.le_refl _))⟩
 have e : g = v.b := e
 rw [e, OV.out]; decide
set_option maxRecDepth 100000 in
theorem put_full (h : LdAt w m K o z) {i : Nat} (hi : i < 8) (ht : z.s i = some t) (hx : (z.F t.f).st = 1) {k : Nat} (hk : k < 64) (hl : ∀ k, k < 64 → (z.k k).length ≤ 100000) (hq : (z.k k).find? (madeV t) = none) (hu : usedL z 64 ≤ 100000) (hs : (usedL z 64 : Int) = z.slots) (val : Int) (se : Value) :
  Calls Try.prog 63 #[.pointer (some ⟨m, 0, none⟩), .pointer (some ⟨t.b, 0, none⟩), .int .i64 k, .int .i64 val, se] w (LdRes w m K o (MoI.bad 5) { z with F := updF z.F t.f ⟨4, 0⟩ }) := by
 obtain ⟨M, eM, rb, kM⟩ := res_box w; have hM := h.quiet kM; have C := find_any hM hk (hl k hk) (hold_made (hM.t i t hi ht) (hM.tf hi ht)); have ON := Lib.hid (show ∀ g, o g ≠ 0 → g ≠ w.heap.size from fun g hg e => by have := h.lt g hg; omega); obtain ⟨N, eN⟩ : ∃ N, w.heap.size = N := ⟨_, rfl⟩; rw [eN] at rb ON; rw [hq] at C; dsimp only [Option.map, ptrO] at C; have KM := Lib.hid kM; have HM := Lib.hid hM; have RB := Lib.hid rb; have EN := Lib.hid eN; have HT := Lib.hid ht; have HQ := Lib.hid hq
 have US := Lib.hid fun w1 (k1 : Keep (fun _ => False) M w1) (d : Nat) => used_same (hM.quiet (k1.trans (drewN_keep _ w1 d))) hu
 have AB := Lib.hid fun w1 (k1 : Keep (fun _ => False) M w1) => abort_any (hM.quiet k1) hi ht hx 5
 have C0 := Lib.hid fun w1 (k1 : Keep (fun _ => False) M w1) => k1.cell hM.a.c0 id
 obtain ⟨u, eu⟩ : ∃ u : Nat, usedL z 64 = u := ⟨_, rfl⟩
 rw [eu] at hs US
 rw [← hs] at C0
 have d : ((u : Int) == (u : Int)) = true := by simp
 have tf := (h.oT i t hi ht).2
 have NF := Lib.hid (show ¬ N = t.f from fun e => ON.out t.f (by rw [tf]; decide) e.symm)
 have TF := Lib.hid tf
 clear h hM kM rb ht hq hl hs hu eu tf
 unfold LdRes reV MoI.bad
 dsimp only
 go_enter Try.func63, Try.ntmps63
 go_wp2_with fail
 refine C.mono ?_
 rintro e w1 ⟨rfl, k1⟩
 clear C eM
 have U := US.out w1 k1
 have c0 := C0.out w1 k1
 have K1 := Lib.hid k1
 clear k1
 go_wp2_with fail
 go_quiet ((go_at_call 31; exact Calls.quiet_of_same (U _)))
 have kd := drewN_keep (fun _ => False) w1 nq
 have A := AB.out _ (K1.out.trans kd)
 obtain ⟨wd, ed⟩ : ∃ wd, w1.drewN nq = wd := ⟨_, rfl⟩
 rw [ed] at kd A ⊢
 have KD := Lib.hid (K1.out.trans kd)
 clear U c0 kd ed K1
 go_wp2_with fail
 refine A.mono ?_
 rintro e w3 ⟨rfl, a3, k3⟩
 clear A
 have A3 := Lib.hid a3
 have K3 := Lib.hid k3
 have R6 := Lib.hid ((RB.out.keep KD.out id).keep k3 NF.out)
 obtain ⟨q0, q1, q2, q3, q4, q5⟩ := R6.out
 clear a3 k3
 unfold reV MoI.bad
 dsimp only
 go_wp2
 (obtain ⟨W7, eW7⟩ : ∃ W7, (((((w3.setCell ⟨N, 0, none⟩ (.int .i64 14)).setCell ⟨N, 1, none⟩ (.int .i64 0)).setCell ⟨N, 2, none⟩ (.slice none 0 0)).setCell ⟨N, 3, none⟩ (.int .i64 4)).setCell ⟨N, 4, none⟩ (.int .i64 5)) = W7 := ⟨_, rfl⟩; obtain ⟨⟨v0, v1, v2, v3, v4, _⟩, k7⟩ := res_set R6.out _ _ _ _ _ eW7; rw [eW7]; refine bodyPost_ret (v := .agg #[.int .i64 14, .int .i64 0, .slice none 0 0, .int .i64 4, .int .i64 5]) (by simp [results, Try.results63, go_sem, v0, v1, v2, v3, v4]) rfl ⟨rfl, ?_⟩)
 refine ⟨A3.out.keep k7 (fun g hg e => ON.out g hg e), (((KM.out.trans KD.out).trans' (K3.out.mono fun g e => ?_)).older' k7 (by rw [EN.out]; exact Nat.le_refl _))⟩
 have e : g = t.f := e
 rw [e, TF.out]; decide
end
end Go.Proofs.Ytalkfnblnlcklaa
/- Package model as landed, in memory: New, Live, Now, Status. No further condition. -/
namespace Go.Proofs.Ytalkfnblnlcklaa
open Go.ChangeShapes Go.WideShapes Go.ChangeAt Go.RowKit
set_option linter.unusedVariables false
set_option linter.unusedSimpArgs false
section
variable {w w' w2 : World} {m g n c : Nat} {K : Nat → Value} {o : Nat → Nat} {z : LdI} {T : Nat → Prop} {F : Nat → FtI} {P : VeI → Bool} {t : TtI} {fv : Value} {l : List VeI}
theorem now_any (h : LdAt w m K o z) : Calls Try.prog 14 #[.pointer (some ⟨m, 0, none⟩)] w fun e w' => e = .returned (.int .u64 z.clock) ∧ w' = w := by
 have c2 := h.a.c2
 obtain ⟨c, ec⟩ : ∃ c, z.clock = c := ⟨_, rfl⟩
 rw [ec] at c2 ⊢
 clear h ec
 go_enter Try.func14, Try.ntmps14
 go_wp2
 go_ret
 exact ⟨rfl, rfl⟩
def liveZ (z : LdI) (k : Nat) : List Int := ((List.range k).filter fun i => (z.s i).isSome).map (fun i : Nat => (i : Int))
theorem liveZ_next (z : LdI) (k : Nat) : liveZ z (k + 1) = liveZ z k ++ if (z.s k).isSome = true then [(k : Int)] else [] := by
 unfold liveZ
 rw [List.range_succ, List.filter_append, List.map_append]
 congr 1
 by_cases h : (z.s k).isSome = true <;> simp [h]
theorem liveZ_len (z : LdI) (k : Nat) : (liveZ z k).length ≤ k := by
 unfold liveZ
 rw [List.length_map]
 exact Nat.le_trans (List.length_filter_le _ _) (by simp)
def RLz (w : World) (z : LdI) (a q : Value) (wr : World) (k : Nat) : Prop := k ≤ 8 ∧ q = .int .i64 k ∧ OwnN w.heap.size wr a (liveZ z k) ∧ Keep (fun _ => False) w wr
def ToldZ (w : World) (l : List Int) (e : Ending) (w' : World) : Prop := ∃ u, e = .returned u ∧ OwnN w.heap.size w' u l ∧ Keep (fun _ => False) w w'
def statL (z : LdI) (s : Int) : Value := if s < 0 ∨ 7 < s then stV false 0 0 0 0 0 else match z.s s.toNat with | none => stV false 0 0 0 0 0 | some t => stV true t.id t.level 1 t.start t.ops
set_option maxRecDepth 100000 in
set_option maxHeartbeats 2000000 in
theorem status_any (h : LdAt w m K o z) (s : Int) : Calls Try.prog 18 #[.pointer (some ⟨m, 0, none⟩), .int .i64 s] w fun e w' => e = .returned (statL z s) ∧ Keep (fun _ => False) w w' := by
  obtain ⟨W, eW, rb, kW⟩ := st_box w
  have hW := h.quiet kW
  have ONW := Lib.hid (show ∀ g, o g ≠ 0 → g ≠ w.heap.size from fun g hg e => by have := h.lt g hg; omega)
  obtain ⟨N, eN⟩ : ∃ N, w.heap.size = N := ⟨_, rfl⟩
  rw [eN] at rb ONW
  have KW := Lib.hid kW
  have FIN := Lib.hid (fun (wz : World) (k : Keep (fun j => j = N) W wz) => (show Keep (fun _ => False) w wz from kW.older k (fun j e => by rw [e]; exact Nat.le_of_eq eN)))
  have RB := Lib.hid rb
  by_cases hb : s < 0 ∨ 7 < s
  · have S := issession_any s false (by symm; rw [decide_eq_false_iff_not]; omega) W
    have e1 : statL z s = stV false 0 0 0 0 0 := if_pos hb
    rw [e1]
    obtain ⟨r0, r1, r2, r3, r4, r5, r6, r7, r8, rfz⟩ := rb
    clear h hW kW e1 hb
    go_enter Try.func18, Try.ntmps18
    go_wp2_with fail
    refine S.mono ?_
    rintro e w1 ⟨rfl, rfl⟩
    clear S eW
    go_wp2
    (obtain ⟨W7, eW7⟩ : ∃ W7, (((((((((w1.setCell ⟨N, 0, none⟩ (.bool false)).setCell ⟨N, 1, none⟩ (.bool false)).setCell ⟨N, 2, none⟩ (.bool false)).setCell ⟨N, 3, none⟩ (.int .i64 (0))).setCell ⟨N, 4, none⟩ (.int .i64 (0))).setCell ⟨N, 5, none⟩ (.int .i64 (0))).setCell ⟨N, 6, none⟩ (.int .u64 (0))).setCell ⟨N, 7, none⟩ (.int .u64 0)).setCell ⟨N, 8, none⟩ (.int .i64 (0))) = W7 := ⟨_, rfl⟩; obtain ⟨⟨v0, v1, v2, v3, v4, v5, v6, v7, v8, _⟩, k7⟩ := st_set RB.out _ _ _ _ _ _ _ _ _ eW7; rw [eW7]; refine bodyPost_ret (v := stV false (0) (0) (0) (0) (0)) (by simp [stV, results, Try.results18, go_sem, v0, v1, v2, v3, v4, v5, v6, v7, v8]) rfl ⟨rfl, ?_⟩)
    exact FIN.out _ k7
  · obtain ⟨i, rfl⟩ : ∃ i : Nat, s = (i : Int) := ⟨s.toNat, by omega⟩
    have hi : i < 8 := by omega
    have hi2 : (i : Int) < 8 := by omega
    have S := issession_any i true (by symm; rw [decide_eq_true_iff]; omega) W
    have cs := hW.a.cs i hi
    have e1 : statL z i = match z.s i with | none => stV false 0 0 0 0 0 | some t => stV true t.id t.level 1 t.start t.ops := by unfold statL; rw [if_neg hb, Int.toNat_natCast]
    cases ht : z.s i with
    | none =>
      rw [ht] at cs e1
      dsimp only [Option.map, ptrO] at cs e1
      rw [e1]
      obtain ⟨r0, r1, r2, r3, r4, r5, r6, r7, r8, rfz⟩ := rb
      clear h hW kW e1 hb ht
      go_enter Try.func18, Try.ntmps18
      go_wp2_with fail
      refine S.mono ?_
      rintro e w1 ⟨rfl, rfl⟩
      clear S eW
      go_wp2
      (obtain ⟨W7, eW7⟩ : ∃ W7, (((((((((w1.setCell ⟨N, 0, none⟩ (.bool false)).setCell ⟨N, 1, none⟩ (.bool false)).setCell ⟨N, 2, none⟩ (.bool false)).setCell ⟨N, 3, none⟩ (.int .i64 (0))).setCell ⟨N, 4, none⟩ (.int .i64 (0))).setCell ⟨N, 5, none⟩ (.int .i64 (0))).setCell ⟨N, 6, none⟩ (.int .u64 (0))).setCell ⟨N, 7, none⟩ (.int .u64 0)).setCell ⟨N, 8, none⟩ (.int .i64 (0))) = W7 := ⟨_, rfl⟩; obtain ⟨⟨v0, v1, v2, v3, v4, v5, v6, v7, v8, _⟩, k7⟩ := st_set RB.out _ _ _ _ _ _ _ _ _ eW7; rw [eW7]; refine bodyPost_ret (v := stV false (0) (0) (0) (0) (0)) (by simp [stV, results, Try.results18, go_sem, v0, v1, v2, v3, v4, v5, v6, v7, v8]) rfl ⟨rfl, ?_⟩)
      exact FIN.out _ k7
    | some t =>
      rw [ht] at cs e1
      dsimp only [Option.map, ptrO] at cs e1
      rw [e1]
      have tt := hW.t i t hi ht
      have qe := fun w => (eql_nilT (w := w) (a := t.b)).1
      have T0 := Lib.hid tt
      obtain ⟨id', eid⟩ : ∃ x, t.id = x := ⟨_, rfl⟩
      obtain ⟨lv, elv⟩ : ∃ x, t.level = x := ⟨_, rfl⟩
      obtain ⟨st, est⟩ : ∃ x, t.start = x := ⟨_, rfl⟩
      obtain ⟨op, eop⟩ : ∃ x, t.ops = x := ⟨_, rfl⟩
      obtain ⟨t0, t1, t2, t3, _, _, _⟩ := tt
      rw [eid] at t0
      rw [elv] at t1
      rw [est] at t2
      rw [eop] at t3
      rw [eid, elv, est, eop]
      have nT : ¬ t.b = N := fun e => ONW.out t.b (by rw [(h.oT i t hi ht).1]; omega) e
      clear h hW kW e1 hb ht eid elv est eop
      go_enter Try.func18, Try.ntmps18
      go_wp2_with fail
      refine S.mono ?_
      rintro e w1 ⟨rfl, rfl⟩
      clear S eW
      go_wp2_with fail
      refine wp_region_held_drew (S := fun w' => w'.cell? ⟨t.b, 0, none⟩ = some (.int .i64 id') ∧ w'.cell? ⟨t.b, 1, none⟩ = some (.int .i64 lv) ∧ w'.cell? ⟨t.b, 2, none⟩ = some (.int .u64 st) ∧ w'.cell? ⟨t.b, 3, none⟩ = some (.int .i64 op)) (by kernel_rfl) ⟨t0, t1, t2, t3⟩ (fun hHeld => ?_)
      refine wpAnyH_take (i := 0) (v := ?qvu31) rfl (by kernel_rfl) (by kernel_rfl) (by kernel_rfl) (fun _ _ _ h => h) (Or.inl ⟨by rfl, ?qyu31⟩) (by assumption) ?qru31; case qyu31 => ((intro w hSw; (try dsimp only at hSw); go_simp); try (with_reducible rfl))
      ((try simp only [List.getElem_toArray]); (try simp only [List.getElem_cons_succ]); (try simp only [List.getElem_cons_zero]); (try simp only [Act.put]); (try simp only [List.setIfInBounds_toArray]); (try simp only [List.set_cons_succ]); (try simp only [List.set_cons_zero]))
      refine wpAnyH_take (i := 1) (v := ?qvu32) rfl (by kernel_rfl) (by kernel_rfl) (by kernel_rfl) (fun _ _ _ h => h) (Or.inl ⟨by rfl, ?qyu32⟩) (by assumption) ?qru32; case qyu32 => ((intro w hSw; (try dsimp only at hSw); go_simp); try (with_reducible rfl))
      ((try simp only [List.getElem_toArray]); (try simp only [List.getElem_cons_succ]); (try simp only [List.getElem_cons_zero]); (try simp only [Act.put]); (try simp only [List.setIfInBounds_toArray]); (try simp only [List.set_cons_succ]); (try simp only [List.set_cons_zero]))
      refine wpAnyH_take (i := 2) (v := ?qvu33) rfl (by kernel_rfl) (by kernel_rfl) (by kernel_rfl) (fun _ _ _ h => h) (Or.inl ⟨by rfl, ?qyu33⟩) (by assumption) ?qru33; case qyu33 => ((intro w hSw; (try dsimp only at hSw); go_simp); try (with_reducible rfl))
      ((try simp only [List.getElem_toArray]); (try simp only [List.getElem_cons_succ]); (try simp only [List.getElem_cons_zero]); (try simp only [Act.put]); (try simp only [List.setIfInBounds_toArray]); (try simp only [List.set_cons_succ]); (try simp only [List.set_cons_zero]))
      refine wpAnyH_take (i := 3) (v := ?qvu34) rfl (by kernel_rfl) (by kernel_rfl) (by kernel_rfl) (fun _ _ _ h => h) (Or.inl ⟨by rfl, ?qyu34⟩) (by assumption) ?qru34; case qyu34 => ((intro w hSw; (try dsimp only at hSw); go_simp); try (with_reducible rfl))
      ((try simp only [List.getElem_toArray]); (try simp only [List.getElem_cons_succ]); (try simp only [List.getElem_cons_zero]); (try simp only [Act.put]); (try simp only [List.setIfInBounds_toArray]); (try simp only [List.set_cons_succ]); (try simp only [List.set_cons_zero]))
      refine wpAnyH_take (i := 4) (v := ?qvu35) rfl (by kernel_rfl) (by kernel_rfl) (by kernel_rfl) (fun _ _ _ h => h) (Or.inl ⟨by rfl, ?qyu35⟩) (by assumption) ?qru35; case qyu35 => ((intro w hSw; (try dsimp only at hSw); go_simp); try (with_reducible rfl))
      ((try simp only [List.getElem_toArray]); (try simp only [List.getElem_cons_succ]); (try simp only [List.getElem_cons_zero]); (try simp only [Act.put]); (try simp only [List.setIfInBounds_toArray]); (try simp only [List.set_cons_succ]); (try simp only [List.set_cons_zero]))
      refine wpAnyH_take (i := 5) (v := ?qvu36) rfl (by kernel_rfl) (by kernel_rfl) (by kernel_rfl) (fun _ _ _ h => h) (Or.inl ⟨by rfl, ?qyu36⟩) (by assumption) ?qru36; case qyu36 => ((intro w hSw; (try dsimp only at hSw); go_simp); try (with_reducible rfl))
      ((try simp only [List.getElem_toArray]); (try simp only [List.getElem_cons_succ]); (try simp only [List.getElem_cons_zero]); (try simp only [Act.put]); (try simp only [List.setIfInBounds_toArray]); (try simp only [List.set_cons_succ]); (try simp only [List.set_cons_zero]))
      refine wpAnyH_take (i := 6) (v := ?qvu37) rfl (by kernel_rfl) (by kernel_rfl) (by kernel_rfl) (fun _ _ _ h => h) (Or.inl ⟨by rfl, ?qyu37⟩) (by assumption) ?qru37; case qyu37 => ((intro w hSw; (try dsimp only at hSw); go_simp); try (with_reducible rfl))
      ((try simp only [List.getElem_toArray]); (try simp only [List.getElem_cons_succ]); (try simp only [List.getElem_cons_zero]); (try simp only [Act.put]); (try simp only [List.setIfInBounds_toArray]); (try simp only [List.set_cons_succ]); (try simp only [List.set_cons_zero]))
      refine wpAnyH_take (i := 7) (v := ?qvu38) rfl (by kernel_rfl) (by kernel_rfl) (by kernel_rfl) (fun _ _ _ h => h) (Or.inl ⟨by rfl, ?qyu38⟩) (by assumption) ?qru38; case qyu38 => ((intro w hSw; (try dsimp only at hSw); go_simp); try (with_reducible rfl))
      ((try simp only [List.getElem_toArray]); (try simp only [List.getElem_cons_succ]); (try simp only [List.getElem_cons_zero]); (try simp only [Act.put]); (try simp only [List.setIfInBounds_toArray]); (try simp only [List.set_cons_succ]); (try simp only [List.set_cons_zero]))
      refine wpAnyH_take (i := 8) (v := ?qvu39) rfl (by kernel_rfl) (by kernel_rfl) (by kernel_rfl) (fun _ _ _ h => h) (Or.inl ⟨by rfl, ?qyu39⟩) (by assumption) ?qru39; case qyu39 => ((intro w hSw; (try dsimp only at hSw); go_simp); try (with_reducible rfl))
      ((try simp only [List.getElem_toArray]); (try simp only [List.getElem_cons_succ]); (try simp only [List.getElem_cons_zero]); (try simp only [Act.put]); (try simp only [List.setIfInBounds_toArray]); (try simp only [List.set_cons_succ]); (try simp only [List.set_cons_zero]))
      refine wpAnyH_take (i := 9) (v := ?qvu40) rfl (by kernel_rfl) (by kernel_rfl) (by kernel_rfl) (fun _ _ _ h => h) (Or.inl ⟨by rfl, ?qyu40⟩) (by assumption) ?qru40; case qyu40 => ((intro w hSw; (try dsimp only at hSw); go_simp); try (with_reducible rfl))
      ((try simp only [List.getElem_toArray]); (try simp only [List.getElem_cons_succ]); (try simp only [List.getElem_cons_zero]); (try simp only [Act.put]); (try simp only [List.setIfInBounds_toArray]); (try simp only [List.set_cons_succ]); (try simp only [List.set_cons_zero]))
      refine wpAnyH_take (i := 10) (v := ?qvu41) rfl (by kernel_rfl) (by kernel_rfl) (by kernel_rfl) (fun _ _ _ h => h) (Or.inl ⟨by rfl, ?qyu41⟩) (by assumption) ?qru41; case qyu41 => ((intro w hSw; (try dsimp only at hSw); go_simp); try (with_reducible rfl))
      ((try simp only [List.getElem_toArray]); (try simp only [List.getElem_cons_succ]); (try simp only [List.getElem_cons_zero]); (try simp only [Act.put]); (try simp only [List.setIfInBounds_toArray]); (try simp only [List.set_cons_succ]); (try simp only [List.set_cons_zero]))
      refine wpAnyH_take (i := 11) (v := ?qvu42) rfl (by kernel_rfl) (by kernel_rfl) (by kernel_rfl) (fun _ _ _ h => h) (Or.inl ⟨by rfl, ?qyu42⟩) (by assumption) ?qru42; case qyu42 => ((intro w hSw; (try dsimp only at hSw); go_simp); try (with_reducible rfl))
      ((try simp only [List.getElem_toArray]); (try simp only [List.getElem_cons_succ]); (try simp only [List.getElem_cons_zero]); (try simp only [Act.put]); (try simp only [List.setIfInBounds_toArray]); (try simp only [List.set_cons_succ]); (try simp only [List.set_cons_zero]))
      refine wpAnyH_take (i := 12) (v := ?qvu43) rfl (by kernel_rfl) (by kernel_rfl) (by kernel_rfl) (fun _ _ _ h => h) (Or.inl ⟨by rfl, ?qyu43⟩) (by assumption) ?qru43; case qyu43 => ((intro w hSw; (try dsimp only at hSw); go_simp); try (with_reducible rfl))
      ((try simp only [List.getElem_toArray]); (try simp only [List.getElem_cons_succ]); (try simp only [List.getElem_cons_zero]); (try simp only [Act.put]); (try simp only [List.setIfInBounds_toArray]); (try simp only [List.set_cons_succ]); (try simp only [List.set_cons_zero]))
      refine wpAnyH_take (i := 13) (v := ?qvu44) rfl (by kernel_rfl) (by kernel_rfl) (by kernel_rfl) (fun _ _ _ h => h) (Or.inl ⟨by rfl, ?qyu44⟩) (by assumption) ?qru44; case qyu44 => ((intro w hSw; (try dsimp only at hSw); go_simp); try (with_reducible rfl))
      ((try simp only [List.getElem_toArray]); (try simp only [List.getElem_cons_succ]); (try simp only [List.getElem_cons_zero]); (try simp only [Act.put]); (try simp only [List.setIfInBounds_toArray]); (try simp only [List.set_cons_succ]); (try simp only [List.set_cons_zero]))
      refine wpAnyH_take (i := 14) (v := ?qvu45) rfl (by kernel_rfl) (by kernel_rfl) (by kernel_rfl) (fun _ _ _ h => h) (Or.inl ⟨by rfl, ?qyu45⟩) (by assumption) ?qru45; case qyu45 => ((intro w hSw; (try dsimp only at hSw); go_simp); try (with_reducible rfl))
      ((try simp only [List.getElem_toArray]); (try simp only [List.getElem_cons_succ]); (try simp only [List.getElem_cons_zero]); (try simp only [Act.put]); (try simp only [List.setIfInBounds_toArray]); (try simp only [List.set_cons_succ]); (try simp only [List.set_cons_zero]))
      refine wpAnyH_take (i := 15) (v := ?qvu46) rfl (by kernel_rfl) (by kernel_rfl) (by kernel_rfl) (fun _ _ _ h => h) (Or.inl ⟨by rfl, ?qyu46⟩) (by assumption) ?qru46; case qyu46 => ((intro w hSw; (try dsimp only at hSw); go_simp); try (with_reducible rfl))
      ((try simp only [List.getElem_toArray]); (try simp only [List.getElem_cons_succ]); (try simp only [List.getElem_cons_zero]); (try simp only [Act.put]); (try simp only [List.setIfInBounds_toArray]); (try simp only [List.set_cons_succ]); (try simp only [List.set_cons_zero]))
      refine wpAnyH_take (i := 16) (v := ?qvu47) rfl (by kernel_rfl) (by kernel_rfl) (by kernel_rfl) (fun _ _ _ h => h) (Or.inl ⟨by rfl, ?qyu47⟩) (by assumption) ?qru47; case qyu47 => ((intro w hSw; (try dsimp only at hSw); go_simp); try (with_reducible rfl))
      ((try simp only [List.getElem_toArray]); (try simp only [List.getElem_cons_succ]); (try simp only [List.getElem_cons_zero]); (try simp only [Act.put]); (try simp only [List.setIfInBounds_toArray]); (try simp only [List.set_cons_succ]); (try simp only [List.set_cons_zero]))
      refine wpAnyH_ready (rs := [17]) (by kernel_rfl) (by simp) ?_
      refine AllReadyH.cons rfl (fun K hK => ?_) AllReadyH.nil
      go_simp
      obtain ⟨r0, r1, r2, r3, r4, r5, r6, r7, r8, rfz⟩ := RB.out
      go_simp
      obtain ⟨W7, eW7⟩ : ∃ W7, (((((((((w1.setCell ⟨N, 0, none⟩ (.bool true)).setCell ⟨N, 1, none⟩ (.bool false)).setCell ⟨N, 2, none⟩ (.bool false)).setCell ⟨N, 3, none⟩ (.int .i64 id')).setCell ⟨N, 4, none⟩ (.int .i64 lv)).setCell ⟨N, 5, none⟩ (.int .i64 1)).setCell ⟨N, 6, none⟩ (.int .u64 st)).setCell ⟨N, 7, none⟩ (.int .u64 0)).setCell ⟨N, 8, none⟩ (.int .i64 op)) = W7 := ⟨_, rfl⟩
      obtain ⟨⟨v0, v1, v2, v3, v4, v5, v6, v7, v8, _⟩, k7⟩ := st_set RB.out _ _ _ _ _ _ _ _ _ eW7
      rw [eW7]
      clear r0 r1 r2 r3 r4 r5 r6 r7 r8 rfz eW7
      refine hK.out _ _ ⟨k7.cell t0 nT, k7.cell t1 nT, k7.cell t2 nT, k7.cell t3 nT⟩ (fun hHeld => ?_)
      clear hK K
      ((try simp only [List.getElem_toArray]); (try simp only [List.getElem_cons_succ]); (try simp only [List.getElem_cons_zero]); (try simp only [Act.put]); (try simp only [List.setIfInBounds_toArray]); (try simp only [List.set_cons_succ]); (try simp only [List.set_cons_zero]))
      refine wpAnyH_done (by kernel_rfl) ?_ _
      go_wp2
      refine bodyPost_ret (v := stV true id' lv 1 st op) (by simp [stV, results, Try.results18, go_sem, v0, v1, v2, v3, v4, v5, v6, v7, v8]) rfl ⟨rfl, ?_⟩
      exact FIN.out _ (k7.trans ((Keep.refl _ _).drew))
end
end Go.Proofs.Ytalkfnblnlcklaa
