/- Package model as landed, in memory: a key's slice becomes another one; Collect. Condition: at most 100,000 versions. -/
import Derived.Test.YtkkjofefjepodaaLdC
import Derived.Test.YtkkjofefjepodaaLdS
namespace Go.Proofs.Ytkkjofefjepodaa
open Go.ChangeShapes Go.WideShapes Go.ChangeAt Go.RowKit
set_option linter.unusedVariables false
set_option linter.unusedSimpArgs false
section
variable {w w' w2 : World} {m g n c : Nat} {K : Nat → Value} {o : Nat → Nat} {z : LdI} {T : Nat → Prop} {F : Nat → FtI} {P : VeI → Bool} {t : TtI} {fv : Value} {l : List VeI}
def relab (o : Nat → Nat) (v : Value) (j : Nat) : Nat → Nat := fun g => if v.ownBlock = some g then 2 + j else o g
theorem LdAt.rekey (h : LdAt w m K o z) {j : Nat} (hj : j < 64) {v' : Value} {l' : List VeI} (k2 : Keep (fun b => (K j).ownBlock = some b) w w2) (o2 : OwnV w2 v' l') (hb : ∀ g, v'.ownBlock = some g → (K j).ownBlock = some g ∨ w.heap.size ≤ g)
    (hl : ∀ x ∈ l', VeAt w x ∧ o x.b = 80 ∧ o x.mr = 81 ∧ ∀ e, x.en = some e → o e = 81) (nd : ∀ k1 k2 u v, k1 < 64 → k2 < 64 → u ∈ putK z.k j l' k1 → v ∈ putK z.k j l' k2 → u.b = v.b → k1 = k2 ∧ u = v) :
    LdAt (w2.setCell ⟨m, 12 + j, none⟩ v') m (putV K j v') (relab o v' j) { z with k := putK z.k j l' } := by
  have ks := keep_one w2 ⟨m, 12 + j, none⟩ v'
  have old : ∀ g, g < w.heap.size → relab o v' j g = o g := fun g hg => by
    unfold relab
    by_cases e : v'.ownBlock = some g
    · rw [if_pos e]
      rcases hb g e with q | q
      · exact (h.oK j g hj q).symm
      · omega
    · rw [if_neg e]
  have lab : ∀ g x, o g = x → x ≠ 0 → relab o v' j g = x := fun g x e hx => by rw [old g (h.lt g (by rw [e]; exact hx))]; exact e
  have far : ∀ g, o g ≠ 0 → o g ≠ 2 + j → ¬ (K j).ownBlock = some g := fun g h0 hn e => hn (h.oK j g hj e)
  have nm : ∀ g, o g ≠ 0 → o g ≠ 1 → ¬ g = m := fun g _ hg e => hg (by rw [e]; exact h.om)
  have am := (h.a.keep k2 (far m (by rw [h.om]; omega) (by rw [h.om]; omega))).key hj v'
  have gm : ∀ g, v'.ownBlock = some g → ¬ g = m := fun g hg e => by
    subst e
    rcases hb g hg with q | q
    · have := h.oK j g hj q; rw [h.om] at this; omega
    · have := h.a.lt; omega
  refine ⟨⟨am.c0, am.c1, am.c2, am.c3, am.cs, am.ck, am.fz⟩, fun k hk => ?_, fun i t hi ht => ?_, fun k x hk hx => ?_, fun g hg => ?_, lab _ _ h.om (by decide), fun k g hk hg => ?_, fun i t hi ht => ⟨lab _ _ (h.oT i t hi ht).1 (by omega), lab _ _ (h.oT i t hi ht).2 (by decide)⟩, fun k x hk hx => ?_, nd, fun g hg => ?_⟩
  · show OwnV _ (putV K j v' k) (putK z.k j l' k)
    unfold putV
    by_cases e : k = j
    · subst e
      rw [if_pos rfl, putK_self]
      exact o2.keep ks gm
    · rw [if_neg e, putK_ne _ _ e]
      refine ((h.r k hk).keep k2 fun g hg => ?_).keep ks fun g hg => ?_
      · exact far g (by rw [h.oK k g hk hg]; omega) (by rw [h.oK k g hk hg]; omega)
      · exact nm g (by rw [h.oK k g hk hg]; omega) (by rw [h.oK k g hk hg]; omega)
  · have ol := (h.oT i t hi ht).1
    exact ((h.t i t hi ht).keep k2 (far _ (by rw [ol]; omega) (by rw [ol]; omega))).keep ks (nm _ (by rw [ol]; omega) (by rw [ol]; omega))
  · have q : VeAt w x ∧ o x.b = 80 := by
      have hx : x ∈ putK z.k j l' k := hx
      by_cases e : k = j
      · subst e; rw [putK_self] at hx; exact ⟨(hl x hx).1, (hl x hx).2.1⟩
      · rw [putK_ne _ _ e] at hx; exact ⟨h.v k x hk hx, (h.oV k x hk hx).1⟩
    exact (q.1.keep k2 (far _ (by rw [q.2]; omega) (by rw [q.2]; omega))).keep ks (nm _ (by rw [q.2]; omega) (by rw [q.2]; omega))
  · have q : o g = 81 := by
      by_cases e : v'.ownBlock = some g
      · have hg : relab o v' j g = 81 := hg
        unfold relab at hg
        rw [if_pos e] at hg
        omega
      · have hg : relab o v' j g = 81 := hg
        unfold relab at hg
        rw [if_neg e] at hg
        exact hg
    exact ((h.f g q).keep k2 (far _ (by rw [q]; omega) (by rw [q]; omega))).keep ks (nm _ (by rw [q]; omega) (by rw [q]; omega))
  · have hg : (putV K j v' k).ownBlock = some g := hg
    unfold putV at hg
    by_cases e : k = j
    · subst e
      rw [if_pos rfl] at hg
      unfold relab; rw [if_pos hg]
    · rw [if_neg e] at hg
      exact lab _ _ (h.oK k g hk hg) (by omega)
  · have hx : x ∈ putK z.k j l' k := hx
    have q : o x.b = 80 ∧ o x.mr = 81 ∧ ∀ e, x.en = some e → o e = 81 := by
      by_cases e : k = j
      · subst e; rw [putK_self] at hx; exact (hl x hx).2
      · rw [putK_ne _ _ e] at hx; exact h.oV k x hk hx
    exact ⟨lab _ _ q.1 (by decide), lab _ _ q.2.1 (by decide), fun e he => lab _ _ (q.2.2 e he) (by decide)⟩
  · have hg : relab o v' j g ≠ 0 := hg
    unfold relab at hg
    by_cases e : v'.ownBlock = some g
    · exact Nat.lt_of_lt_of_le (o2.lt e) ks.size
    · rw [if_neg e] at hg
      exact Nat.lt_of_lt_of_le (h.lt g hg) (Nat.le_trans k2.size ks.size)
theorem relab_same (h : LdAt w m K o z) {j : Nat} (hj : j < 64) {v' : Value} (hb : v'.ownBlock = (K j).ownBlock) : relab o v' j = o := by
  funext g
  unfold relab
  by_cases e : v'.ownBlock = some g
  · rw [if_pos e]; exact (h.oK j g hj (by rw [← hb]; exact e)).symm
  · rw [if_neg e]
/-- The first keys are swept. -/
def sweptL (z : LdI) (low : Int) (j : Nat) : LdI := { z with k := fun k => if k < j then (z.k k).filter fun v => !garbV z.F low v else z.k k }
theorem swept_next (z : LdI) (low : Int) (j : Nat) : ({ sweptL z low j with k := putK (sweptL z low j).k j (((sweptL z low j).k j).filter fun v => !garbV z.F low v) } : LdI) = sweptL z low (j + 1) := by
  unfold sweptL
  simp only [LdI.mk.injEq, true_and, and_true]
  funext k
  by_cases e : k = j
  · subst e
    rw [putK_self, if_neg (by omega), if_pos (by omega)]
  · rw [putK_ne _ _ e]
    by_cases q : k < j
    · rw [if_pos q, if_pos (by omega)]
    · rw [if_neg q, if_neg (by omega)]
theorem LdAt.del (h : LdAt w m K o z) {j : Nat} (hj : j < 64) {v' : Value} (P : VeI → Bool) (k2 : Keep (fun b => (K j).ownBlock = some b) w w2) (o2 : OwnV w2 v' ((z.k j).filter P)) (hb : v'.ownBlock = (K j).ownBlock) :
    LdAt (w2.setCell ⟨m, 12 + j, none⟩ v') m (putV K j v') o { z with k := putK z.k j ((z.k j).filter P) } := by
  have sub : ∀ k x, x ∈ putK z.k j ((z.k j).filter P) k → x ∈ z.k k := fun k x hx => by
    by_cases e : k = j
    · subst e; rw [putK_self] at hx; exact (List.mem_filter.1 hx).1
    · rw [putK_ne _ _ e] at hx; exact hx
  have := h.rekey hj k2 o2 (fun g hg => .inl (by rw [← hb]; exact hg)) (fun x hx => ⟨h.v j x hj (List.mem_filter.1 hx).1, h.oV j x hj (List.mem_filter.1 hx).1⟩) (fun k1 k2 u v h1 h2 hu hv e => h.nd k1 k2 u v h1 h2 (sub _ _ hu) (sub _ _ hv) e)
  rw [relab_same h hj hb] at this
  exact this
structure RCol (w : World) (m p : Nat) (o : Nat → Nat) (K0 : Nat → Value) (z : LdI) (low : Int) (q : Value) (wr : World) (K : Nat → Value) (j : Nat) : Prop where
  jn : j ≤ 64
  q : q = .int .i64 j
  h : LdAt wr m K o (sweptL z low j)
  kk : ∀ k, j ≤ k → K k = K0 k
  cp : wr.cell? ⟨p, 0, none⟩ = some (.int .u64 low)
  k : Keep (fun g => o g ≠ 0) w wr
theorem swept_ge (z : LdI) (low : Int) (j : Nat) : (sweptL z low j).k j = z.k j := if_neg (Nat.lt_irrefl j)
theorem swept_all (z : LdI) (low : Int) : (sweptL z low 0) = z := by unfold sweptL; simp
theorem RCol.next {p : Nat} {K0 K : Nat → Value} {low : Int} {q : Value} {wr : World} {j : Nat} (h : RCol w m p o K0 z low q wr K j) (hj : j < 64) (hp : o p = 0) {v' : Value} (k2 : Keep (fun b => (K j).ownBlock = some b) wr w2) (o2 : OwnV w2 v' ((z.k j).filter fun v => !garbV z.F low v)) (hb : v'.ownBlock = (K j).ownBlock) :
    RCol w m p o K0 z low (.int .i64 ((j : Int) + 1)) (w2.setCell ⟨m, 12 + j, none⟩ v') (putV K j v') (j + 1) := by
  have hm := h.h.om
  have a := h.h.del hj (fun v => !garbV z.F low v) k2 (by rw [swept_ge]; exact o2) hb
  rw [swept_next] at a
  refine ⟨by omega, by go_num, a, fun k hk => ?_, ?_, (h.k.trans (k2.mono fun g e => by rw [h.h.oK j g hj e]; omega)).setCell (p := ⟨m, 12 + j, none⟩) (by show o m ≠ 0; rw [hm]; decide) _⟩
  · unfold putV; rw [if_neg (by omega)]; exact h.kk k (by omega)
  · rw [World.cell?_setCell_other _ _ _ _ (fun e => by have : m = p := congrArg Addr.block e; rw [this, hp] at hm; cases hm)]
    exact k2.cell h.cp (fun e => by have := h.h.oK j p hj e; omega)
theorem OwnV.shape3 {v : Value} (ow : OwnV w v l) : ∃ A n c, v = .slice A n c := by obtain ⟨A, c, e, _⟩ := ow.shape; exact ⟨A, _, c, e⟩
theorem used_swept (z : LdI) (low : Int) (n j : Nat) : usedL (sweptL z low j) n ≤ usedL z n := by
  induction n with
  | zero => exact Nat.le_refl _
  | succ n ih =>
    rw [usedL_succ, usedL_succ]
    have : ((sweptL z low j).k n).length ≤ (z.k n).length := by
      show (if n < j then (z.k n).filter _ else z.k n).length ≤ _
      split
      · exact List.length_filter_le _ _
      · exact Nat.le_refl _
    omega
theorem RCol.next' {p : Nat} {K0 K : Nat → Value} {low : Int} {q : Value} {wr : World} {j : Nat} (h : RCol w m p o K0 z low q wr K j) (hj : j < 64) (hp : o p = 0) {v' : Value} (k2 : Keep (fun b => (K0 j).ownBlock = some b) wr.drew w2) (o2 : OwnV w2 v' ((z.k j).filter fun v => !garbV z.F low v)) (hb : v'.ownBlock = (K0 j).ownBlock) :
    RCol w m p o K0 z low (.int .i64 ((j : Int) + 1)) (w2.setCell ⟨m, 12 + j, none⟩ v') (putV K j v') (j + 1) := by
  have e := h.kk j (Nat.le_refl j)
  exact h.next hj hp (by rw [e]; exact ((Keep.refl (fun b => (K0 j).ownBlock = some b) wr).drew).trans k2) o2 (by rw [e]; exact hb)
set_option maxRecDepth 100000 in
set_option maxHeartbeats 4000000 in
theorem collect_any (h : LdAt w m K o z) (hu : usedL z 64 ≤ 100000) (hb : ∀ i t, i < 8 → z.s i = some t → U64 t.start) :
    Calls Try.prog 21 #[.pointer (some ⟨m, 0, none⟩)] w fun e w' => e = .returned (.int .i64 ((usedL z 64 : Int) - (usedL (sweptL z (lowN z 8) 64) 64 : Int))) ∧ ∃ K', LdAt w' m K' o (sweptL z (lowN z 8) 64) ∧ Keep (fun g => o g ≠ 0) w w' := by
  have U := used_any h hu
  have HB := Lib.hid hb
  have H := Lib.hid h
  obtain ⟨low, el⟩ : ∃ low, lowN z 8 = low := ⟨_, rfl⟩
  have EL := Lib.hid el
  rw [el]
  have hu2 := used_swept z low 64 64
  obtain ⟨u, eu⟩ : ∃ u, usedL z 64 = u := ⟨_, rfl⟩
  obtain ⟨u2, eu2⟩ : ∃ u2, usedL (sweptL z low 64) 64 = u2 := ⟨_, rfl⟩
  have EU2 := Lib.hid eu2
  have EU := Lib.hid eu
  rw [eu, eu2] at hu2 ⊢
  rw [eu] at U hu
  clear h hb el eu eu2
  go_enter Try.func21, Try.ntmps21
  go_wp2_with fail
  refine U.mono ?_
  rintro e w1 ⟨rfl, k1⟩
  clear U
  have OL := oldest_any (H.out.quiet k1) HB.out
  rw [EL.out] at OL
  have K1 := Lib.hid k1
  clear k1
  go_wp2_with fail
  refine OL.mono ?_
  rintro e w2 ⟨rfl, k2⟩
  clear OL
  have K2 := Lib.hid (K1.out.trans k2)
  obtain ⟨w3, e3⟩ : ∃ w3, (w2.alloc (.cells #[.int .u64 0] 46)).setCell ⟨w2.heap.size, 0, none⟩ (.int .u64 low) = w3 := ⟨_, rfl⟩
  have k3 : Keep (fun _ => False) w2 w3 := by
    rw [← e3]
    exact ((Keep.refl (fun _ => False) w2).alloc _).older (keep_one _ ⟨w2.heap.size, 0, none⟩ _) (fun j e => by have e : j = w2.heap.size := e; omega)
  have cp : w3.cell? ⟨w2.heap.size, 0, none⟩ = some (.int .u64 low) := by
    rw [← e3]
    exact World.cell?_setCell_same _ _ _ (u := .int .u64 0) (by simp)
  have op : o w2.heap.size = 0 := by
    cases q : o w2.heap.size with
    | zero => rfl
    | succ n => have := H.out.lt w2.heap.size (by rw [q]; omega); have := K2.out.size; omega
  have OP := Lib.hid op
  have K3 := Lib.hid (K2.out.trans k3)
  have H3 := H.out.quiet K3.out
  have ST : RCol w m w2.heap.size o K z low (.int .i64 0) w3 K 0 := ⟨by decide, rfl, by rw [swept_all]; exact H3, fun _ _ => rfl, cp, K3.out.mono fun _ e => e.elim⟩
  have S0 := Lib.hid ST
  have HC := Lib.hid (keyC_cell H3)
  clear k2 k3 cp op H3 ST K1
  go_wp2_with (refine wpList_load_mid rfl 95 _ rfl ⟨m, 12, none⟩ rfl (keyC K) _ HC.out Try.underlying95 rfl (by kernel_rfl) ?_)
  clear e3
  go_loopw [5, 6, 15] (fun _ _ q wr => ∃ (K' : Nat → Value) (j : Nat), RCol w m w2.heap.size o K z low q wr K' j) (fun _ _ q _ => 64 - (intOf q).toNat)
  case atStart => exact ⟨K, 0, S0.out⟩
  case round =>
    obtain ⟨K', j, hR⟩ := hrel
    have RC := Lib.hid hR
    obtain ⟨hj, rfl, hh, hkk, hcp, hk⟩ := hR
    have wj : IntKind.i64.wrap ((j : Int) + 1) = (j : Int) + 1 := IntWalk.i64_in _ (by omega)
    by_cases hlt : j < 64
    · have ix := fun w => run_index_arr (P := Try.prog) (keyC K) Try.underlying95 Try.underlying94 rfl (by kernel_rfl) hlt (keyC_at K hlt) w
      have kd : Keep (fun _ => False) wr wr.drew := (Keep.refl _ _).drew
      have hd := hh.quiet kd
      have ej := hkk j (Nat.le_refl j)
      have ob : ∀ g, (K j).ownBlock = some g → o g = 2 + j := fun g hg => hh.oK j g hlt (by rw [ej]; exact hg)
      have ow : OwnV wr.drew (K j) (z.k j) := by
        have := hd.r j hlt
        rw [ej, swept_ge] at this
        exact this
      have hvm : ∀ x ∈ z.k j, x ∈ (sweptL z low j).k j := fun x hx => by rw [swept_ge]; exact hx
      have D := delete_any (F := z.F) (P := garbV z.F low) (p := w2.heap.size) (f := 53) ow (by rw [← swept_ge z low j]; exact Nat.le_trans (by rw [swept_ge]; have := usedL_le z (show j + 1 ≤ 64 from hlt); rw [usedL_succ, EU.out] at this; omega) hu) (fun x hx w' k => by
        have ob2 : ∀ {g : Nat}, (K j).ownBlock = some g → o g = 2 + j := fun h => ob _ h
        have l := hh.oV j x hlt (hvm x hx)
        have v := hd.ver hlt (hvm x hx)
        exact ⟨v.a.keep k (fun e => by have := ob2 e; omega), v.m.keep k (fun e => by have := ob2 e; omega), v.e.keep k (fun g hg e => by have := ob2 e; have := l.2.2 g hg; omega)⟩) (fun w' k => hold_garb (k.cell (kd.cell hcp id) (fun e => by have : o w2.heap.size = 2 + j := ob _ e; have := OP.out; omega)))
      have CM := Lib.hid (show ∀ w', Keep (fun b => (K j).ownBlock = some b) wr.drew w' → (∃ u, w'.cell? ⟨m, 12 + j, none⟩ = some u ∧ w'.frozen? ⟨m, 12 + j, none⟩ = false) from fun w' k =>
        ⟨_, k.cell (hd.a.ck j hlt) (fun e => by have : o m = 2 + j := ob _ e; have := hh.om; omega), (k.frozen (a := ⟨m, 12 + j, none⟩) hd.a.lt (fun e => by have : o m = 2 + j := ob _ e; have := hh.om; omega)).trans (hd.a.fz (12 + j))⟩)
      obtain ⟨A, c, eK, jA, jB, jC⟩ := ow.shape
      clear jA jB jC
      obtain ⟨n, en⟩ : ∃ n, (z.k j).length = n := ⟨_, rfl⟩
      rw [en] at eK
      rw [eK] at ix D CM
      have EK := Lib.hid eK
      clear hh hkk hcp hk kd hd ej ob ow hvm eK en
      have hlt2 : (j : Int) < 64 := by omega
      go_wp2_with fail
      refine wp_region_held_drew (S := fun w' => True) (by kernel_rfl) trivial (fun hHeld => ?_)
      refine wpAnyH_take (i := 0) (v := ?qvu0) rfl (by kernel_rfl) (by kernel_rfl) (by kernel_rfl) (fun _ _ _ h => h) (Or.inl ⟨by rfl, ?qyu0⟩) (by assumption) ?qru0; case qyu0 => ((intro w hSw; (try dsimp only at hSw); go_simp); try (with_reducible rfl))
      ((try simp only [List.getElem_toArray]); (try simp only [List.getElem_cons_succ]); (try simp only [List.getElem_cons_zero]); (try simp only [Act.put]); (try simp only [List.setIfInBounds_toArray]); (try simp only [List.set_cons_succ]); (try simp only [List.set_cons_zero]))
      refine wpAnyH_take (i := 1) (v := ?qvu1) rfl (by kernel_rfl) (by kernel_rfl) (by kernel_rfl) (fun _ _ _ h => h) (Or.inl ⟨by rfl, ?qyu1⟩) (by assumption) ?qru1; case qyu1 => ((intro w hSw; (try dsimp only at hSw); go_simp); try (with_reducible rfl))
      ((try simp only [List.getElem_toArray]); (try simp only [List.getElem_cons_succ]); (try simp only [List.getElem_cons_zero]); (try simp only [Act.put]); (try simp only [List.setIfInBounds_toArray]); (try simp only [List.set_cons_succ]); (try simp only [List.set_cons_zero]))
      refine wpAnyH_take (i := 2) (v := ?qvu2) rfl (by kernel_rfl) (by kernel_rfl) (by kernel_rfl) (fun _ _ _ h => h) (Or.inl ⟨by rfl, ?qyu2⟩) (by assumption) ?qru2; case qyu2 => ((intro w hSw; (try dsimp only at hSw); go_simp); try (with_reducible rfl))
      ((try simp only [List.getElem_toArray]); (try simp only [List.getElem_cons_succ]); (try simp only [List.getElem_cons_zero]); (try simp only [Act.put]); (try simp only [List.setIfInBounds_toArray]); (try simp only [List.set_cons_succ]); (try simp only [List.set_cons_zero]))
      refine wpAnyH_take (i := 3) (v := ?qvu3) rfl (by kernel_rfl) (by kernel_rfl) (by kernel_rfl) (fun _ _ _ h => h) (Or.inl ⟨by rfl, ?qyu3⟩) (by assumption) ?qru3; case qyu3 => ((intro w hSw; (try dsimp only at hSw); go_simp); try (with_reducible rfl))
      ((try simp only [List.getElem_toArray]); (try simp only [List.getElem_cons_succ]); (try simp only [List.getElem_cons_zero]); (try simp only [Act.put]); (try simp only [List.setIfInBounds_toArray]); (try simp only [List.set_cons_succ]); (try simp only [List.set_cons_zero]))
      refine wpAnyH_take (i := 5) (v := ?qvu4) rfl (by kernel_rfl) (by kernel_rfl) (by kernel_rfl) (fun _ _ _ h => h) (Or.inl ⟨by rfl, ?qyu4⟩) (by assumption) ?qru4; case qyu4 => ((intro w hSw; (try dsimp only at hSw); go_simp); try (with_reducible rfl))
      ((try simp only [List.getElem_toArray]); (try simp only [List.getElem_cons_succ]); (try simp only [List.getElem_cons_zero]); (try simp only [Act.put]); (try simp only [List.setIfInBounds_toArray]); (try simp only [List.set_cons_succ]); (try simp only [List.set_cons_zero]))
      refine wpAnyH_take (i := 6) (v := ?qvu5) rfl (by kernel_rfl) (by kernel_rfl) (by kernel_rfl) (fun _ _ _ h => h) (Or.inl ⟨by rfl, ?qyu5⟩) (by assumption) ?qru5; case qyu5 => ((intro w hSw; (try dsimp only at hSw); go_simp); try (with_reducible rfl))
      ((try simp only [List.getElem_toArray]); (try simp only [List.getElem_cons_succ]); (try simp only [List.getElem_cons_zero]); (try simp only [Act.put]); (try simp only [List.setIfInBounds_toArray]); (try simp only [List.set_cons_succ]); (try simp only [List.set_cons_zero]))
      refine wpAnyH_ready (rs := [4]) (by kernel_rfl) (by simp) ?_
      refine AllReadyH.cons rfl (fun K hK => ?_) AllReadyH.nil
      go_simp
      refine D.mono ?_
      rintro e w4 ⟨v', rfl, o4, ob4, k4⟩
      obtain ⟨A4, n4, c4, rfl⟩ := OwnV.shape3 o4
      have NX := Lib.hid (RC.out.next' hlt (OP.out) (by rw [EK.out]; exact k4) o4 (by rw [EK.out]; exact ob4))
      obtain ⟨um, cmj, fmj⟩ := CM.out w4 k4
      clear o4 ob4 k4
      clear D
      refine hK.out _ _ trivial (fun hHeld => ?_)
      clear hK K
      ((try simp only [List.getElem_toArray]); (try simp only [List.getElem_cons_succ]); (try simp only [List.getElem_cons_zero]); (try simp only [Act.put]); (try simp only [List.setIfInBounds_toArray]); (try simp only [List.set_cons_succ]); (try simp only [List.set_cons_zero]))
      refine wpAnyH_take (i := 7) (v := ?qvu6) rfl (by kernel_rfl) (by kernel_rfl) (by kernel_rfl) (fun _ _ _ h => h) (Or.inl ⟨by rfl, ?qyu6⟩) (by assumption) ?qru6; case qyu6 => ((intro w hSw; (try dsimp only at hSw); go_simp); try (with_reducible rfl))
      ((try simp only [List.getElem_toArray]); (try simp only [List.getElem_cons_succ]); (try simp only [List.getElem_cons_zero]); (try simp only [Act.put]); (try simp only [List.setIfInBounds_toArray]); (try simp only [List.set_cons_succ]); (try simp only [List.set_cons_zero]))
      refine wpAnyH_ready (rs := [8]) (by kernel_rfl) (by simp) ?_
      refine AllReadyH.cons rfl (fun K hK => ?_) AllReadyH.nil
      go_simp
      go_simp
      refine hK.out _ _ trivial (fun hHeld => ?_)
      clear hK K
      ((try simp only [List.getElem_toArray]); (try simp only [List.getElem_cons_succ]); (try simp only [List.getElem_cons_zero]); (try simp only [Act.put]); (try simp only [List.setIfInBounds_toArray]); (try simp only [List.set_cons_succ]); (try simp only [List.set_cons_zero]))
      refine wpAnyH_done (by kernel_rfl) ?_ _
      go_wp2
      first | exact ⟨⟨_, j + 1, NX.out⟩, by simp [intOf]; omega⟩ | (refine ⟨?rel2, ?meas2⟩; (case meas2 => (simp [intOf]; omega)); (case rel2 => ((repeat apply Exists.intro); exact ⟨⟨_, j + 1, NX.out⟩, rfl⟩)))
    · obtain rfl : j = 64 := by omega
      have U2 := used_any hh (by rw [EU2.out]; omega)
      rw [EU2.out] at U2
      have HH := Lib.hid hh
      have HK := Lib.hid hk
      have ws : IntKind.i64.wrap ((u : Int) - (u2 : Int)) = (u : Int) - (u2 : Int) := IntWalk.i64_in _ (by omega)
      clear hh hk hkk hcp
      go_wp2_with fail
      refine U2.mono ?_
      rintro e w5 ⟨rfl, k5⟩
      clear U2
      go_wp2
      go_ret
      exact ⟨rfl, _, HH.out.quiet k5, HK.out.trans (k5.mono fun _ e => e.elim)⟩
end
end Go.Proofs.Ytkkjofefjepodaa
