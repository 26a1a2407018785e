/- Several texts, one behind the other: LdY, LdB. -/
import Derived.Test.YtalkfnblnlcklaaModelBaseDZat
import Derived.Test.YtalkfnblnlcklaaModelBaseDZas
import Derived.Test.YtalkfnblnlcklaaModelBaseDZao
/- Package model as landed, in memory: put, where a new version is made. Condition: at most 100,000 versions. WRITTEN by wip/tools/genldy.py. -/
namespace Go.Proofs.Ytalkfnblnlcklaa
open Go.ChangeShapes Go.WideShapes Go.ChangeAt Go.RowKit
set_option linter.unusedVariables false
set_option linter.unusedSimpArgs false
section
variable {w w' w2 : World} {m g n c : Nat} {K : Nat → Value} {o : Nat → Nat} {z : LdI} {T : Nat → Prop} {F : Nat → FtI} {P : VeI → Bool} {t : TtI} {fv : Value} {l : List VeI}
/-- A call that answers a result, and leaves a Model that is one of those. -/
def LdEnd (w : World) (m : Nat) (o : Nat → Nat) (r : ReI) (Zs : LdI → Prop) (e : Ending) (w' : World) : Prop :=
 ∃ u z' K' o', e = .returned (reV r u) ∧ Zs z' ∧ OwnPr w' u r.pairs ∧ (∀ g, u.ownBlock = some g → w.heap.size ≤ g ∧ o' g = 0) ∧ LdAt w' m K' o' z' ∧ Keep (fun g => o g ≠ 0) w w' ∧ ∀ g, o' g ≠ 0 → o g ≠ 0 ∨ w.heap.size ≤ g
theorem LdRes.fin {r : ReI} {e : Ending} (hp : r.pairs = []) (h : LdRes w m K o r z e w') : LdEnd w m o r (fun z' => z' = z) e w' :=
 ⟨_, z, K, o, h.1, rfl, by rw [hp]; exact OwnM.nil, (fun g hg => by cases hg), h.2.1, h.2.2, fun g hg => .inl hg⟩
theorem LdEnd.mono {r : ReI} {e : Ending} {Z1 Z2 : LdI → Prop} (h : LdEnd w m o r Z1 e w') (hz : ∀ z, Z1 z → Z2 z) : LdEnd w m o r Z2 e w' := by
 obtain ⟨u, z', K', o', a, b, c⟩ := h
 exact ⟨u, z', K', o', a, hz _ b, c⟩
def newZ (z : LdI) (k : Nat) (v : VeI) : LdI := { z with k := putK z.k k (z.k k ++ [v]) }
theorem info_ve : (Try.prog.info? 85).map (fun i => (i.zero, i.size, i.bytes)) = some (some (.pointer none), 1, 8) := by kernel_rfl
theorem flat1 (zs : List Nat) : zs.flatMap (fun b => [ptrV b]) = zs.map ptrV := by
 induction zs with
 | nil => rfl
 | cons b zs ih => rw [List.flatMap_cons, ih]; rfl
theorem own_m {v : Value} (ow : OwnV w v l) : OwnM 1 (fun b => [ptrV b]) 85 w v (l.map VeI.b) := by
 unfold OwnM
 rw [flat1]
 exact ow
theorem own_v {v : Value} {zs : List Nat} (ow : OwnM 1 (fun b => [ptrV b]) 85 w v zs) (hz : zs = l.map VeI.b) : OwnV w v l := by
 subst hz
 unfold OwnM at ow
 rw [flat1] at ow
 exact ow
/-- A new version in a block of its own. -/
theorem LdAt.box (h : LdAt w m K o z) {i : Nat} (hi : i < 8) (ht : z.s i = some t) {W : World} (eW : w.alloc (.cells #[.int .i64 0, .pointer (some ⟨t.f, 0, none⟩), .pointer none] 101) = W) :
  LdAt W m K (fun g => if g = w.heap.size then 80 else o g) z ∧ VeAt W ⟨w.heap.size, 0, t.f, none⟩ ∧ Keep (fun _ => False) w W ∧ W.heap.size = w.heap.size + 1 := by
 have k : Keep (fun _ => False) w W := by rw [← eW]; exact (Keep.refl _ _).alloc _
 have sz : W.heap.size = w.heap.size + 1 := by rw [← eW]; simp
 refine ⟨h.fresh k _ z.F (fun g hg => if_neg (by omega)) (fun _ _ => rfl) (fun g hg => ?_) (fun g hg e => ?_), ⟨by rw [← eW]; simp, by rw [← eW]; simp, by rw [← eW]; simp [ptrO], fun i => by rw [← eW]; simp⟩, k, sz⟩
 ·by_cases e : g = w.heap.size
  ·omega
  ·have hg : (if g = w.heap.size then 80 else o g) ≠ 0 := hg
   rw [if_neg e] at hg
   have := h.lt g hg
   omega
 ·by_cases e2 : g = w.heap.size
  ·have e : (if g = w.heap.size then 80 else o g) = 81 := e
   rw [if_pos e2] at e; cases e
  ·have e : (if g = w.heap.size then 80 else o g) = 81 := e
   rw [if_neg e2] at e
   have := h.lt g (by rw [e]; decide)
   omega
/-- .. stands last of a key's, and has its value. -/
theorem LdAt.app (h : LdAt w m K o z) {k nb nf : Nat} (hk : k < 64) (ob : o nb = 80) (of : o nf = 81) (hV : VeAt w ⟨nb, 0, nf, none⟩) (hn : ∀ k v, k < 64 → v ∈ z.k k → v.b ≠ nb) {v' : Value} (k2 : Keep (fun b => (K k).ownBlock = some b) w w2) (o2 : OwnV w2 v' (z.k k ++ [⟨nb, 0, nf, none⟩])) (hb : ∀ g, v'.ownBlock = some g → (K k).ownBlock = some g ∨ w.heap.size ≤ g) (val : Int) :
  LdAt (((w2.setCell ⟨m, 12 + k, none⟩ v').setCell ⟨nb, 0, none⟩ (.int .i64 val)).setCell ⟨nb, 2, none⟩ (.pointer none)) m (putV K k v') (relab o v' k) (newZ z k ⟨nb, val, nf, none⟩) := by
 have mem : ∀ j x, x ∈ putK z.k k (z.k k ++ [⟨nb, 0, nf, none⟩]) j → x ∈ z.k j ∨ (j = k ∧ x = ⟨nb, 0, nf, none⟩) := fun j x hx => by
  by_cases e : j = k
  ·subst e
   rw [putK_self] at hx
   rcases List.mem_append.1 hx with q | q
   ·exact .inl q
   ·exact .inr ⟨rfl, List.mem_singleton.1 q⟩
  ·rw [putK_ne _ _ e] at hx; exact .inl hx
 have a := h.rekey hk k2 o2 hb (fun x hx => by
  rcases List.mem_append.1 hx with q | q
  ·exact ⟨h.v k x hk q, h.oV k x hk q⟩
  ·rw [List.mem_singleton.1 q]; exact ⟨hV, ob, of, fun e he => by cases he⟩) (fun k1 k2 u v h1 h2 hu hv e => by
  rcases mem k1 u hu with q | ⟨q, rfl⟩
  ·rcases mem k2 v hv with r | ⟨r, rfl⟩
   ·exact h.nd k1 k2 u v h1 h2 q r e
   ·exact absurd e (hn k1 u h1 q)
  ·rcases mem k2 v hv with r | ⟨r, rfl⟩
   ·exact absurd e.symm (hn k2 v h2 r)
   ·exact ⟨q.trans r.symm, rfl⟩)
 have hm : (⟨nb, 0, nf, none⟩ : VeI) ∈ ({ z with k := putK z.k k (z.k k ++ [⟨nb, 0, nf, none⟩]) } : LdI).k k := by
  show _ ∈ putK z.k k (z.k k ++ [⟨nb, 0, nf, none⟩]) k
  rw [putK_self]; simp
 have b := a.val2 hk hm val
 have e : turnZ { z with k := putK z.k k (z.k k ++ [⟨nb, 0, nf, none⟩]) } k nb (valV val) = newZ z k ⟨nb, val, nf, none⟩ := by
  unfold turnZ newZ
  simp only [putK_put, putK_self]
  congr 2
  unfold turnB
  rw [List.map_append]
  congr 1
  ·refine (List.map_congr_left fun u hu => ?_).trans (List.map_id _)
   rw [if_neg (hn k u hk hu)]; rfl
  ·simp [valV]
 rw [← e]
 exact b

/-- Behind the append: the slice is stored, the version filled in. -/
theorem app_after {wb wd w0 : World} {o1 : Nat → Nat} {nb N k nf : Nat} {A : Option Addr} {q q' : Nat} {Zb : List Nat} {val : Int} (h : LdAt wb m K o1 z) (hk : k < 64) (eK : K k = .slice A q q') (eZ : (z.k k).map VeI.b = Zb) (ob : o1 nb = 80) (of : o1 nf = 81) (hV : VeAt wb ⟨nb, 0, nf, none⟩) (hn : ∀ k v, k < 64 → v ∈ z.k k → v.b ≠ nb)
    (oN : o1 N = 0) (hN : N < wb.heap.size) (R : ResAt wb N (.int .i64 0) (.int .i64 0) (.slice none 0 0) (.int .i64 0) (.int .i64 0)) (K0 : Keep (fun g => o g ≠ 0) w0 wb) (old : ∀ g, o1 g ≠ 0 → o g ≠ 0 ∨ w0.heap.size ≤ g) (new0 : w0.heap.size ≤ nb) (kd : Keep (fun _ => False) wb wd)
    (g4 c4 : Nat) (y4 : World) (o4 : OwnM 1 (fun b => [ptrV b]) 85 y4 (.slice (some ⟨g4, 0, none⟩) (Zb.length + 1) c4) (Zb ++ [nb])) (k4 : Keep (fun j => (Value.slice A q q').ownBlock = some j) wd y4) (hg4 : (Value.slice A q q').ownBlock = some g4 ∨ wd.heap.size ≤ g4) :
    ∃ wg, y4.setCell ⟨m, 12 + k, none⟩ (.slice (some ⟨g4, 0, none⟩) (Zb.length + 1) c4) = wg ∧ (∃ u, y4.cell? ⟨m, 12 + k, none⟩ = some u) ∧ y4.frozen? ⟨m, 12 + k, none⟩ = false ∧ wg.cell? ⟨nb, 0, none⟩ = some (.int .i64 0) ∧ (wg.setCell ⟨nb, 0, none⟩ (.int .i64 val)).cell? ⟨nb, 2, none⟩ = some (.pointer none) ∧ wg.frozen? ⟨nb, 0, none⟩ = false ∧ (wg.setCell ⟨nb, 0, none⟩ (.int .i64 val)).frozen? ⟨nb, 2, none⟩ = false ∧
      ∃ W2, (wg.setCell ⟨nb, 0, none⟩ (.int .i64 val)).setCell ⟨nb, 2, none⟩ (.pointer none) = W2 ∧ ResAt W2 N (.int .i64 0) (.int .i64 0) (.slice none 0 0) (.int .i64 0) (.int .i64 0) ∧ Keep (fun g => o g ≠ 0) w0 W2 ∧ (∃ K' o', LdAt W2 m K' o' (newZ z k ⟨nb, val, nf, none⟩) ∧ (∀ g, o' g ≠ 0 → o g ≠ 0 ∨ w0.heap.size ≤ g) ∧ o' N = 0) := by
  rw [← eK] at k4 hg4
  have k4b : Keep (fun j => (K k).ownBlock = some j) wb y4 := (kd.mono fun _ e => e.elim).trans k4
  have o5 : OwnV y4 (.slice (some ⟨g4, 0, none⟩) (Zb.length + 1) c4) (z.k k ++ [⟨nb, 0, nf, none⟩]) := own_v o4 (by rw [List.map_append, ← eZ]; rfl)
  have lab : ∀ {g : Nat}, (K k).ownBlock = some g → o1 g = 2 + k := fun e => h.oK k _ hk e
  have hb : ∀ g, (Value.slice (some ⟨g4, 0, none⟩) (Zb.length + 1) c4).ownBlock = some g → (K k).ownBlock = some g ∨ wb.heap.size ≤ g := fun g hg => by
    have : g4 = g := by simpa [Value.ownBlock] using hg
    subst this
    exact hg4.imp_right (Nat.le_trans kd.size)
  have nbm : ¬ nb = m := fun e => by rw [e, h.om] at ob; cases ob
  have nNm : ¬ N = m := fun e => by rw [e, h.om] at oN; cases oN
  have nNb : ¬ N = nb := fun e => by rw [e, ob] at oN; cases oN
  have yb0 : y4.cell? ⟨nb, 0, none⟩ = some (.int .i64 0) := k4b.cell hV.c0 (fun e => by have : o1 nb = 2 + k := lab e; omega)
  have yb2 : y4.cell? ⟨nb, 2, none⟩ = some (.pointer none) := k4b.cell hV.c2 (fun e => by have : o1 nb = 2 + k := lab e; omega)
  have yf : ∀ i, y4.frozen? ⟨nb, i, none⟩ = false := fun i => (k4b.frozen (a := ⟨nb, i, none⟩) hV.lt (fun e => by have : o1 nb = 2 + k := lab e; omega)).trans (hV.fz i)
  have fin := h.app hk ob of hV hn k4b o5 hb val
  have kg := keep_one y4 ⟨m, 12 + k, none⟩ (.slice (some ⟨g4, 0, none⟩) (Zb.length + 1) c4)
  have RY : ResAt y4 N _ _ _ _ _ := R.keep k4b (fun e => by have : o1 N = 2 + k := lab e; omega)
  have K4 : Keep (fun g => o g ≠ 0) w0 y4 := ⟨k4b.os.trans K0.os, k4b.tape.trans K0.tape, k4b.output.trans K0.output, Nat.le_trans K0.size k4b.size, fun g hg hn => (k4b.block g (Nat.lt_of_lt_of_le hg K0.size) (fun e => by
    rcases old g (by rw [lab e]; omega) with a | a
    · exact hn a
    · omega)).trans (K0.block g hg hn)⟩
  have om : o m ≠ 0 ∨ w0.heap.size ≤ m := old m (by rw [h.om]; decide)
  obtain ⟨wg, eg⟩ : ∃ wg, y4.setCell ⟨m, 12 + k, none⟩ (.slice (some ⟨g4, 0, none⟩) (Zb.length + 1) c4) = wg := ⟨_, rfl⟩
  rw [eg] at fin kg
  have gb0 := kg.cell yb0 nbm
  have gb2 := kg.cell yb2 nbm
  have gf : ∀ i, wg.frozen? ⟨nb, i, none⟩ = false := fun i => (kg.frozen (a := ⟨nb, i, none⟩) (lt_of_cell (a := ⟨nb, 0, none⟩) yb0) nbm).trans (yf i)
  obtain ⟨W2, e2⟩ : ∃ W2, (wg.setCell ⟨nb, 0, none⟩ (.int .i64 val)).setCell ⟨nb, 2, none⟩ (.pointer none) = W2 := ⟨_, rfl⟩
  have k2 : Keep (fun g => g = nb) wg W2 := by rw [← e2]; exact ((Keep.refl (fun g => g = nb) wg).setCell (p := ⟨nb, 0, none⟩) rfl _).setCell (p := ⟨nb, 2, none⟩) rfl _
  rw [e2] at fin
  refine ⟨wg, eg, ⟨_, k4b.cell (h.a.ck k hk) (fun e => by have : o1 m = 2 + k := lab e; rw [h.om] at this; omega)⟩, (k4b.frozen (a := ⟨m, 12 + k, none⟩) h.a.lt (fun e => by have : o1 m = 2 + k := lab e; rw [h.om] at this; omega)).trans (h.a.fz (12 + k)), gb0, by rw [World.cell?_setCell_other _ _ _ _ (by first | (simp; done) | (simp; omega))]; exact gb2, gf 0, by rw [World.frozen?_setCell]; exact gf 2, W2, e2, (RY.keep kg nNm).keep k2 nNb, ?_, _, _, fin, fun g hg => ?_, ?_⟩
  · refine ⟨k2.os.trans (kg.os.trans K4.os), k2.tape.trans (kg.tape.trans K4.tape), k2.output.trans (kg.output.trans K4.output), Nat.le_trans K4.size (Nat.le_trans kg.size k2.size), fun g hg hn => ?_⟩
    refine (k2.block g (Nat.lt_of_lt_of_le hg (Nat.le_trans K4.size kg.size)) (fun e => by omega)).trans ((kg.block g (Nat.lt_of_lt_of_le hg K4.size) (fun e => ?_)).trans (K4.block g hg hn))
    have e : g = m := e
    subst e
    rcases om with a | a
    · exact hn a
    · omega
  · have hg : relab o1 (Value.slice (some ⟨g4, 0, none⟩) (Zb.length + 1) c4) k g ≠ 0 := hg
    unfold relab at hg
    by_cases e : (Value.slice (some ⟨g4, 0, none⟩) (Zb.length + 1) c4).ownBlock = some g
    · rcases hb g e with a | a
      · exact old g (by rw [lab a]; omega)
      · exact .inr (Nat.le_trans K0.size a)
    · rw [if_neg e] at hg; exact old g hg
  · show relab o1 _ k N = 0
    unfold relab
    rw [if_neg (fun e => ?_)]
    · exact oN
    · rcases hb N e with a | a
      · rw [lab a] at oN; omega
      · omega
set_option maxRecDepth 100000 in
set_option maxHeartbeats 2000000 in
theorem put_fresh (h : LdAt w m K o z) {i : Nat} (hi : i < 8) (ht : z.s i = some t) {k : Nat} (hk : k < 64) (hl : ∀ k, k < 64 → (z.k k).length ≤ 99999) (hq : (z.k k).find? (madeV t) = none) (hu : usedL z 64 ≤ 100000) (hs : (usedL z 64 : Int) ≠ z.slots) (val : Int) :
  Calls Try.prog 63 #[.pointer (some ⟨m, 0, none⟩), .pointer (some ⟨t.b, 0, none⟩), .int .i64 k, .int .i64 val, (.pointer none)] w (LdEnd w m o re0 fun z' => ∃ nb, o nb = 0 ∧ z' = newZ z k ⟨nb, val, t.f, none⟩) := by
 have hl : ∀ k, k < 64 → (z.k k).length ≤ 100000 := fun k hk => by have := hl k hk; omega
 obtain ⟨M, eM, rb, kM⟩ := res_box w; have hM := h.quiet kM; have C := find_any hM hk (hl k hk) (hold_made (hM.t i t hi ht) (hM.tf hi ht)); have ON := Lib.hid (show ∀ g, o g ≠ 0 → g ≠ w.heap.size from fun g hg e => by have := h.lt g hg; omega); obtain ⟨N, eN⟩ : ∃ N, w.heap.size = N := ⟨_, rfl⟩; rw [eN] at rb ON; rw [hq] at C; dsimp only [Option.map, ptrO] at C; have KM := Lib.hid kM; have HM := Lib.hid hM; have RB := Lib.hid rb; have EN := Lib.hid eN; have HT := Lib.hid ht; have HQ := Lib.hid hq
 have US := Lib.hid fun w1 (k1 : Keep (fun _ => False) M w1) (d : Nat) => used_same (hM.quiet (k1.trans (drewN_keep _ w1 d))) hu
 have C0 := Lib.hid fun w1 (k1 : Keep (fun _ => False) M w1) => k1.cell hM.a.c0 id
 obtain ⟨u0, eu⟩ : ∃ u0 : Nat, usedL z 64 = u0 := ⟨_, rfl⟩
 rw [eu] at hs US
 obtain ⟨sl, esl⟩ : ∃ sl, z.slots = sl := ⟨_, rfl⟩
 rw [esl] at hs C0
 have d : ((u0 : Int) == sl) = false := by simpa using hs
 have HL := Lib.hid hl
 have OFF := Lib.hid (h.oT i t hi ht)
 have ON0 := Lib.hid (show o N = 0 from by
  cases q : o N with
  | zero => rfl
  | succ n => exact absurd rfl (ON.out N (by rw [q]; omega)))
 have OZ := Lib.hid fun g (hg : w.heap.size ≤ g) => (show o g = 0 from by
  cases q : o g with
  | zero => rfl
  | succ n => have := h.lt g (by rw [q]; omega); omega)
 have OV := Lib.hid fun k v (hk : k < 64) (hv : v ∈ z.k k) => h.oV k v hk hv
 clear h hM kM rb ht hq hl hs hu eu esl
 go_enter Try.func63, Try.ntmps63
 go_wp2_with fail
 refine C.mono ?_
 rintro e w1 ⟨rfl, k1⟩
 clear C eM
 have U := US.out w1 k1
 have c0 := C0.out w1 k1
 have K1 := Lib.hid k1
 clear k1
 go_wp2_with fail
 go_quiet ((go_at_call 31; exact Calls.quiet_of_same (U _)))
 have kd := drewN_keep (fun _ => False) w1 nq
 obtain ⟨wd, ed⟩ : ∃ wd, w1.drewN nq = wd := ⟨_, rfl⟩
 rw [ed] at kd ⊢
 have KD := Lib.hid (K1.out.trans kd)
 clear U c0 kd ed K1
 have hd := HM.out.quiet KD.out
 have RD := Lib.hid (RB.out.keep KD.out id)
 have qe := (eql_nilsV (w := wd)).2
 obtain ⟨we, ew⟩ : ∃ we, wd = we := ⟨_, rfl⟩
 subst ew
 have he := hd
 have RE := Lib.hid RD.out
 have KE : Keep (fun g => o g ≠ 0) w wd := (KM.out.trans KD.out).mono fun _ e => e.elim
 have cfe := (he.t i t hi HT.out).cf
 have mem : ∀ j x, j < 64 → x ∈ z.k j → ∃ y ∈ z.k j, x.b = y.b := fun j x hj hx => ⟨x, hx, rfl⟩
 have len : (z.k k).length ≤ 100000 := HL.out k hk
 have hNw : N < wd.heap.size := lt_of_cell RE.out.r0
 have hwW : w.heap.size ≤ wd.heap.size := KE.size
 obtain ⟨nb, enb⟩ : ∃ nb, wd.heap.size = nb := ⟨_, rfl⟩
 obtain ⟨wb, ebw⟩ : ∃ wb, wd.alloc (.cells #[.int .i64 0, .pointer (some ⟨t.f, 0, none⟩), .pointer none] 101) = wb := ⟨_, rfl⟩
 obtain ⟨hb, vb, kb, sb⟩ := he.box hi HT.out ebw
 rw [enb] at hb vb sb hwW hNw
 obtain ⟨A, q, q', eK⟩ := OwnV.shape3 (hb.r k hk)
 obtain ⟨Zb, eZ⟩ : ∃ Zb, (z.k k).map VeI.b = Zb := ⟨_, rfl⟩
 have kd2 : Keep (fun _ => False) wb wb.drew := (Keep.refl _ _).drew
 have crd : wb.drew.cell? ⟨m, 12 + k, none⟩ = some (.slice A q q') := by have := hb.a.ck k hk; rw [eK] at this; exact this
 have cra : (wb.drew.alloc (.cells #[.pointer (some ⟨nb, 0, none⟩)] 85)).cell? ⟨m, 12 + k, none⟩ = some (.slice A q q') := ((Keep.refl (fun _ => False) wb.drew).alloc _).cell crd id
 have OM := Lib.hid (show OwnM 1 (fun b => [ptrV b]) 85 wb.drew (.slice A q q') Zb from by
  have := own_m ((hb.r k hk).keep kd2 (fun _ _ => id))
  rw [eZ, eK] at this
  exact this)
 have LEN := Lib.hid (show Zb.length ≤ 100000 by rw [← eZ, List.length_map]; exact len)
 have AFT := Lib.hid (app_after (o := o) (w0 := w) (val := val) (N := N) hb hk eK eZ (by simp) (by
   have : t.f ≠ nb := fun e => by have := OFF.out.2; rw [e, OZ.out nb hwW] at this; cases this
   simp [this, OFF.out.2]) vb (fun j x hj hx e => by
   obtain ⟨y, hy, e2⟩ := mem j x hj hx
   have := (OV.out j y hj hy).1
   rw [← e2, e, OZ.out nb hwW] at this
   cases this) (by
   have : N ≠ nb := by omega
   simp [this, ON0.out]) (by omega) (RE.out.keep kb id) (KE.trans (kb.mono fun _ e => e.elim)) (fun g hg => by
   by_cases e : g = nb
   ·right; rw [e]; exact hwW
   ·left; simpa [e] using hg) hwW kd2)
 have ONB := Lib.hid (OZ.out nb hwW)
 have hk2 : (k : Int) < 64 := by omega
 have crb : wb.cell? ⟨m, 12 + k, none⟩ = some (.slice A q q') := crd
 have hmw : m < wb.heap.size := lt_of_cell (a := ⟨m, 12 + k, none⟩) crd
 clear hb vb kb sb eK eZ kd2 hd he mem len KE hwW hNw
 go_wp2_with fail
 refine wp_region_held_drew (S := fun w' => True) (by kernel_rfl) trivial (fun hHeld => ?_)
 refine wpAnyH_take (i := 0) (v := ?qvu7) rfl (by kernel_rfl) (by kernel_rfl) (by kernel_rfl) (fun _ _ _ h => h) (Or.inl ⟨by rfl, ?qyu7⟩) (by assumption) ?qru7; case qyu7 => ((intro w hSw; (try dsimp only at hSw); go_simp); try (with_reducible rfl))
 ((try simp only [List.getElem_toArray]); (try simp only [List.getElem_cons_succ]); (try simp only [List.getElem_cons_zero]); (try simp only [Act.put]); (try simp only [List.setIfInBounds_toArray]); (try simp only [List.set_cons_succ]); (try simp only [List.set_cons_zero]))
 refine wpAnyH_take (i := 1) (v := ?qvu8) rfl (by kernel_rfl) (by kernel_rfl) (by kernel_rfl) (fun _ _ _ h => h) (Or.inl ⟨by rfl, ?qyu8⟩) (by assumption) ?qru8; case qyu8 => ((intro w hSw; (try dsimp only at hSw); go_simp); try (with_reducible rfl))
 ((try simp only [List.getElem_toArray]); (try simp only [List.getElem_cons_succ]); (try simp only [List.getElem_cons_zero]); (try simp only [Act.put]); (try simp only [List.setIfInBounds_toArray]); (try simp only [List.set_cons_succ]); (try simp only [List.set_cons_zero]))
 refine wpAnyH_take (i := 2) (v := ?qvu9) rfl (by kernel_rfl) (by kernel_rfl) (by kernel_rfl) (fun _ _ _ h => h) (Or.inl ⟨by rfl, ?qyu9⟩) (by assumption) ?qru9; case qyu9 => ((intro w hSw; (try dsimp only at hSw); go_simp); try (with_reducible rfl))
 ((try simp only [List.getElem_toArray]); (try simp only [List.getElem_cons_succ]); (try simp only [List.getElem_cons_zero]); (try simp only [Act.put]); (try simp only [List.setIfInBounds_toArray]); (try simp only [List.set_cons_succ]); (try simp only [List.set_cons_zero]))
 refine wpAnyH_take (i := 3) (v := ?qvu10) rfl (by kernel_rfl) (by kernel_rfl) (by kernel_rfl) (fun _ _ _ h => h) (Or.inl ⟨by rfl, ?qyu10⟩) (by assumption) ?qru10; case qyu10 => ((intro w hSw; (try dsimp only at hSw); go_simp); try (with_reducible rfl))
 ((try simp only [List.getElem_toArray]); (try simp only [List.getElem_cons_succ]); (try simp only [List.getElem_cons_zero]); (try simp only [Act.put]); (try simp only [List.setIfInBounds_toArray]); (try simp only [List.set_cons_succ]); (try simp only [List.set_cons_zero]))
 refine wpAnyH_take (i := 4) (v := ?qvu11) rfl (by kernel_rfl) (by kernel_rfl) (by kernel_rfl) (fun _ _ _ h => h) (Or.inl ⟨by rfl, ?qyu11⟩) (by assumption) ?qru11; case qyu11 => ((intro w hSw; (try dsimp only at hSw); go_simp); try (with_reducible rfl))
 ((try simp only [List.getElem_toArray]); (try simp only [List.getElem_cons_succ]); (try simp only [List.getElem_cons_zero]); (try simp only [Act.put]); (try simp only [List.setIfInBounds_toArray]); (try simp only [List.set_cons_succ]); (try simp only [List.set_cons_zero]))
 refine wpAnyH_take (i := 5) (v := ?qvu12) rfl (by kernel_rfl) (by kernel_rfl) (by kernel_rfl) (fun _ _ _ h => h) (Or.inl ⟨by rfl, ?qyu12⟩) (by assumption) ?qru12; case qyu12 => ((intro w hSw; (try dsimp only at hSw); go_simp); try (with_reducible rfl))
 ((try simp only [List.getElem_toArray]); (try simp only [List.getElem_cons_succ]); (try simp only [List.getElem_cons_zero]); (try simp only [Act.put]); (try simp only [List.setIfInBounds_toArray]); (try simp only [List.set_cons_succ]); (try simp only [List.set_cons_zero]))
 refine wpAnyH_take (i := 6) (v := ?qvu13) rfl (by kernel_rfl) (by kernel_rfl) (by kernel_rfl) (fun _ _ _ h => h) (Or.inl ⟨by rfl, ?qyu13⟩) (by assumption) ?qru13; case qyu13 => ((intro w hSw; (try dsimp only at hSw); go_simp); try (with_reducible rfl))
 ((try simp only [List.getElem_toArray]); (try simp only [List.getElem_cons_succ]); (try simp only [List.getElem_cons_zero]); (try simp only [Act.put]); (try simp only [List.setIfInBounds_toArray]); (try simp only [List.set_cons_succ]); (try simp only [List.set_cons_zero]))
 refine wpAnyH_take (i := 8) (v := ?qvu14) rfl (by kernel_rfl) (by kernel_rfl) (by kernel_rfl) (fun _ _ _ h => h) (Or.inl ⟨by rfl, ?qyu14⟩) (by assumption) ?qru14; case qyu14 => ((intro w hSw; (try dsimp only at hSw); go_simp); try (with_reducible rfl))
 ((try simp only [List.getElem_toArray]); (try simp only [List.getElem_cons_succ]); (try simp only [List.getElem_cons_zero]); (try simp only [Act.put]); (try simp only [List.setIfInBounds_toArray]); (try simp only [List.set_cons_succ]); (try simp only [List.set_cons_zero]))
 refine wpAnyH_take (i := 11) (v := ?qvu15) rfl (by kernel_rfl) (by kernel_rfl) (by kernel_rfl) (fun _ _ _ h => h) (Or.inl ⟨by rfl, ?qyu15⟩) (by assumption) ?qru15; case qyu15 => ((intro w hSw; (try dsimp only at hSw); go_simp); try (with_reducible rfl))
 ((try simp only [List.getElem_toArray]); (try simp only [List.getElem_cons_succ]); (try simp only [List.getElem_cons_zero]); (try simp only [Act.put]); (try simp only [List.setIfInBounds_toArray]); (try simp only [List.set_cons_succ]); (try simp only [List.set_cons_zero]))
 refine wpAnyH_take (i := 12) (v := ?qvu16) rfl (by kernel_rfl) (by kernel_rfl) (by kernel_rfl) (fun _ _ _ h => h) (Or.inl ⟨by rfl, ?qyu16⟩) (by assumption) ?qru16; case qyu16 => ((intro w hSw; (try dsimp only at hSw); go_simp); try (with_reducible rfl))
 ((try simp only [List.getElem_toArray]); (try simp only [List.getElem_cons_succ]); (try simp only [List.getElem_cons_zero]); (try simp only [Act.put]); (try simp only [List.setIfInBounds_toArray]); (try simp only [List.set_cons_succ]); (try simp only [List.set_cons_zero]))
 refine wpAnyH_ready (rs := [7, 9]) (by kernel_rfl) (by simp) ?_
 refine AllReadyH.cons rfl (fun K hK => ?_) (AllReadyH.cons rfl (fun K hK => ?_) AllReadyH.nil)
 ·go_simp
  refine hK.out _ _ trivial (fun hHeld => ?_)
  clear hK K
  ((try simp only [List.getElem_toArray]); (try simp only [List.getElem_cons_succ]); (try simp only [List.getElem_cons_zero]); (try simp only [Act.put]); (try simp only [List.setIfInBounds_toArray]); (try simp only [List.set_cons_succ]); (try simp only [List.set_cons_zero]))
  refine wpAnyH_ready (rs := [9]) (by kernel_rfl) (by simp) ?_
  refine AllReadyH.cons rfl (fun K hK => ?_) AllReadyH.nil
  go_simp
  refine hK.out _ _ trivial (fun hHeld => ?_)
  clear hK K
  ((try simp only [List.getElem_toArray]); (try simp only [List.getElem_cons_succ]); (try simp only [List.getElem_cons_zero]); (try simp only [Act.put]); (try simp only [List.setIfInBounds_toArray]); (try simp only [List.set_cons_succ]); (try simp only [List.set_cons_zero]))
  refine wpAnyH_ready (rs := [10]) (by kernel_rfl) (by simp) ?_
  refine AllReadyH.cons rfl (fun K hK => ?_) AllReadyH.nil
  refine step_pushM Try.underlying51 info_ve rfl (by decide) (by decide) (fun _ => rfl) (by intro p u hu; simp at hu; subst hu; rfl) rfl (.tmp 51) (.tmp 53) rfl _ Zb (by rfl) OM.out nb (by rfl) LEN.out ?_
  intro g4 c4 y4 o4 k4 hg4
  obtain ⟨wg, eg, ⟨um, cm4⟩, fm4, n0, n2, m0, m2, FB⟩ := AFT.out g4 c4 y4 o4 k4 hg4
  have FB := Lib.hid FB
  clear o4 k4 hg4
  refine hK.out _ _ trivial (fun hHeld => ?_)
  clear hK K
  ((try simp only [List.getElem_toArray]); (try simp only [List.getElem_cons_succ]); (try simp only [List.getElem_cons_zero]); (try simp only [Act.put]); (try simp only [List.setIfInBounds_toArray]); (try simp only [List.set_cons_succ]); (try simp only [List.set_cons_zero]))
  refine wpAnyH_take (i := 13) (v := ?qvu17) rfl (by kernel_rfl) (by kernel_rfl) (by kernel_rfl) (fun _ _ _ h => h) (Or.inl ⟨by rfl, ?qyu17⟩) (by assumption) ?qru17; case qyu17 => ((intro w hSw; (try dsimp only at hSw); go_simp); try (with_reducible rfl))
  ((try simp only [List.getElem_toArray]); (try simp only [List.getElem_cons_succ]); (try simp only [List.getElem_cons_zero]); (try simp only [Act.put]); (try simp only [List.setIfInBounds_toArray]); (try simp only [List.set_cons_succ]); (try simp only [List.set_cons_zero]))
  refine wpAnyH_ready (rs := [14]) (by kernel_rfl) (by simp) ?_
  refine AllReadyH.cons rfl (fun K hK => ?_) AllReadyH.nil
  go_simp
  go_simp
  refine hK.out _ _ trivial (fun hHeld => ?_)
  clear hK K
  ((try simp only [List.getElem_toArray]); (try simp only [List.getElem_cons_succ]); (try simp only [List.getElem_cons_zero]); (try simp only [Act.put]); (try simp only [List.setIfInBounds_toArray]); (try simp only [List.set_cons_succ]); (try simp only [List.set_cons_zero]))
  refine wpAnyH_done (by kernel_rfl) ?_ _
  obtain ⟨W2, e2, R6', k6, K', o', a6, n6, oN6⟩ := FB.out
  have R6 := Lib.hid R6'
  have A6 := Lib.hid a6
  obtain ⟨q0, q1, q2, q3, q4, q5⟩ := R6.out
  clear a6 R6'
  go_wp2
  (obtain ⟨W7, eW7⟩ : ∃ W7, (((((W2.setCell ⟨N, 0, none⟩ (.int .i64 0)).setCell ⟨N, 1, none⟩ (.int .i64 0)).setCell ⟨N, 2, none⟩ (.slice none 0 0)).setCell ⟨N, 3, none⟩ (.int .i64 0)).setCell ⟨N, 4, none⟩ (.int .i64 0)) = W7 := ⟨_, rfl⟩; obtain ⟨⟨v0, v1, v2, v3, v4, _⟩, k7⟩ := res_set R6.out _ _ _ _ _ eW7; rw [eW7]; refine bodyPost_ret (v := .agg #[.int .i64 0, .int .i64 0, .slice none 0 0, .int .i64 0, .int .i64 0]) (by simp [results, Try.results63, go_sem, v0, v1, v2, v3, v4]) rfl ?_)
  exact ⟨.slice none 0 0, _, K', o', rfl, ⟨nb, ONB.out, rfl⟩, OwnM.nil, (fun g hg => by cases hg), A6.out.keep k7 (fun g hg e => by have e : g = N := e; rw [e, oN6] at hg; exact hg rfl), k6.older' k7 (Nat.le_of_eq EN.out), n6⟩
 ·go_simp
  refine hK.out _ _ trivial (fun hHeld => ?_)
  clear hK K
  ((try simp only [List.getElem_toArray]); (try simp only [List.getElem_cons_succ]); (try simp only [List.getElem_cons_zero]); (try simp only [Act.put]); (try simp only [List.setIfInBounds_toArray]); (try simp only [List.set_cons_succ]); (try simp only [List.set_cons_zero]))
  refine wpAnyH_ready (rs := [7]) (by kernel_rfl) (by simp) ?_
  refine AllReadyH.cons rfl (fun K hK => ?_) AllReadyH.nil
  go_simp
  refine hK.out _ _ trivial (fun hHeld => ?_)
  clear hK K
  ((try simp only [List.getElem_toArray]); (try simp only [List.getElem_cons_succ]); (try simp only [List.getElem_cons_zero]); (try simp only [Act.put]); (try simp only [List.setIfInBounds_toArray]); (try simp only [List.set_cons_succ]); (try simp only [List.set_cons_zero]))
  refine wpAnyH_ready (rs := [10]) (by kernel_rfl) (by simp) ?_
  refine AllReadyH.cons rfl (fun K hK => ?_) AllReadyH.nil
  refine step_pushM Try.underlying51 info_ve rfl (by decide) (by decide) (fun _ => rfl) (by intro p u hu; simp at hu; subst hu; rfl) rfl (.tmp 51) (.tmp 53) rfl _ Zb (by rfl) OM.out nb (by rfl) LEN.out ?_
  intro g4 c4 y4 o4 k4 hg4
  obtain ⟨wg, eg, ⟨um, cm4⟩, fm4, n0, n2, m0, m2, FB⟩ := AFT.out g4 c4 y4 o4 k4 hg4
  have FB := Lib.hid FB
  clear o4 k4 hg4
  refine hK.out _ _ trivial (fun hHeld => ?_)
  clear hK K
  ((try simp only [List.getElem_toArray]); (try simp only [List.getElem_cons_succ]); (try simp only [List.getElem_cons_zero]); (try simp only [Act.put]); (try simp only [List.setIfInBounds_toArray]); (try simp only [List.set_cons_succ]); (try simp only [List.set_cons_zero]))
  refine wpAnyH_take (i := 13) (v := ?qvu18) rfl (by kernel_rfl) (by kernel_rfl) (by kernel_rfl) (fun _ _ _ h => h) (Or.inl ⟨by rfl, ?qyu18⟩) (by assumption) ?qru18; case qyu18 => ((intro w hSw; (try dsimp only at hSw); go_simp); try (with_reducible rfl))
  ((try simp only [List.getElem_toArray]); (try simp only [List.getElem_cons_succ]); (try simp only [List.getElem_cons_zero]); (try simp only [Act.put]); (try simp only [List.setIfInBounds_toArray]); (try simp only [List.set_cons_succ]); (try simp only [List.set_cons_zero]))
  refine wpAnyH_ready (rs := [14]) (by kernel_rfl) (by simp) ?_
  refine AllReadyH.cons rfl (fun K hK => ?_) AllReadyH.nil
  go_simp
  go_simp
  refine hK.out _ _ trivial (fun hHeld => ?_)
  clear hK K
  ((try simp only [List.getElem_toArray]); (try simp only [List.getElem_cons_succ]); (try simp only [List.getElem_cons_zero]); (try simp only [Act.put]); (try simp only [List.setIfInBounds_toArray]); (try simp only [List.set_cons_succ]); (try simp only [List.set_cons_zero]))
  refine wpAnyH_done (by kernel_rfl) ?_ _
  obtain ⟨W2, e2, R6', k6, K', o', a6, n6, oN6⟩ := FB.out
  have R6 := Lib.hid R6'
  have A6 := Lib.hid a6
  obtain ⟨q0, q1, q2, q3, q4, q5⟩ := R6.out
  clear a6 R6'
  go_wp2
  (obtain ⟨W7, eW7⟩ : ∃ W7, (((((W2.setCell ⟨N, 0, none⟩ (.int .i64 0)).setCell ⟨N, 1, none⟩ (.int .i64 0)).setCell ⟨N, 2, none⟩ (.slice none 0 0)).setCell ⟨N, 3, none⟩ (.int .i64 0)).setCell ⟨N, 4, none⟩ (.int .i64 0)) = W7 := ⟨_, rfl⟩; obtain ⟨⟨v0, v1, v2, v3, v4, _⟩, k7⟩ := res_set R6.out _ _ _ _ _ eW7; rw [eW7]; refine bodyPost_ret (v := .agg #[.int .i64 0, .int .i64 0, .slice none 0 0, .int .i64 0, .int .i64 0]) (by simp [results, Try.results63, go_sem, v0, v1, v2, v3, v4]) rfl ?_)
  exact ⟨.slice none 0 0, _, K', o', rfl, ⟨nb, ONB.out, rfl⟩, OwnM.nil, (fun g hg => by cases hg), A6.out.keep k7 (fun g hg e => by have e : g = N := e; rw [e, oN6] at hg; exact hg rfl), k6.older' k7 (Nat.le_of_eq EN.out), n6⟩
set_option maxRecDepth 100000 in
set_option maxHeartbeats 2000000 in
theorem put_seen (h : LdAt w m K o z) {i : Nat} (hi : i < 8) (ht : z.s i = some t) {k : Nat} (hk : k < 64) (hl : ∀ k, k < 64 → (z.k k).length ≤ 99999) (hq : (z.k k).find? (madeV t) = none) (hu : usedL z 64 ≤ 100000) (hs : (usedL z 64 : Int) ≠ z.slots) {u : VeI} (hu2 : u ∈ z.k k) (val : Int) :
  Calls Try.prog 63 #[.pointer (some ⟨m, 0, none⟩), .pointer (some ⟨t.b, 0, none⟩), .int .i64 k, .int .i64 val, (.pointer (some ⟨u.b, 0, none⟩))] w (LdEnd w m o re0 fun z' => ∃ nb, o nb = 0 ∧ z' = newZ (turnZ z k u.b (endV t.f)) k ⟨nb, val, t.f, none⟩) := by
 have hl : ∀ k, k < 64 → (z.k k).length ≤ 100000 := fun k hk => by have := hl k hk; omega
 obtain ⟨M, eM, rb, kM⟩ := res_box w; have hM := h.quiet kM; have C := find_any hM hk (hl k hk) (hold_made (hM.t i t hi ht) (hM.tf hi ht)); have ON := Lib.hid (show ∀ g, o g ≠ 0 → g ≠ w.heap.size from fun g hg e => by have := h.lt g hg; omega); obtain ⟨N, eN⟩ : ∃ N, w.heap.size = N := ⟨_, rfl⟩; rw [eN] at rb ON; rw [hq] at C; dsimp only [Option.map, ptrO] at C; have KM := Lib.hid kM; have HM := Lib.hid hM; have RB := Lib.hid rb; have EN := Lib.hid eN; have HT := Lib.hid ht; have HQ := Lib.hid hq
 have US := Lib.hid fun w1 (k1 : Keep (fun _ => False) M w1) (d : Nat) => used_same (hM.quiet (k1.trans (drewN_keep _ w1 d))) hu
 have C0 := Lib.hid fun w1 (k1 : Keep (fun _ => False) M w1) => k1.cell hM.a.c0 id
 obtain ⟨u0, eu⟩ : ∃ u0 : Nat, usedL z 64 = u0 := ⟨_, rfl⟩
 rw [eu] at hs US
 obtain ⟨sl, esl⟩ : ∃ sl, z.slots = sl := ⟨_, rfl⟩
 rw [esl] at hs C0
 have d : ((u0 : Int) == sl) = false := by simpa using hs
 have HL := Lib.hid hl
 have OFF := Lib.hid (h.oT i t hi ht)
 have ON0 := Lib.hid (show o N = 0 from by
  cases q : o N with
  | zero => rfl
  | succ n => exact absurd rfl (ON.out N (by rw [q]; omega)))
 have OZ := Lib.hid fun g (hg : w.heap.size ≤ g) => (show o g = 0 from by
  cases q : o g with
  | zero => rfl
  | succ n => have := h.lt g (by rw [q]; omega); omega)
 have OV := Lib.hid fun k v (hk : k < 64) (hv : v ∈ z.k k) => h.oV k v hk hv
 have HU := Lib.hid hu2
 have OU := Lib.hid (h.oV k u hk hu2).1
 clear h hM kM rb ht hq hl hs hu eu esl hu2
 go_enter Try.func63, Try.ntmps63
 go_wp2_with fail
 refine C.mono ?_
 rintro e w1 ⟨rfl, k1⟩
 clear C eM
 have U := US.out w1 k1
 have c0 := C0.out w1 k1
 have K1 := Lib.hid k1
 clear k1
 go_wp2_with fail
 go_quiet ((go_at_call 31; exact Calls.quiet_of_same (U _)))
 have kd := drewN_keep (fun _ => False) w1 nq
 obtain ⟨wd, ed⟩ : ∃ wd, w1.drewN nq = wd := ⟨_, rfl⟩
 rw [ed] at kd ⊢
 have KD := Lib.hid (K1.out.trans kd)
 clear U c0 kd ed K1
 have hd := HM.out.quiet KD.out
 have RD := Lib.hid (RB.out.keep KD.out id)
 have qe := (eql_nilV (w := wd) (a := u.b)).2
 have c2 := (hd.v k u hk HU.out).c2
 have f2 := (hd.v k u hk HU.out).fz 2
 have cf := (hd.t i t hi HT.out).cf
 obtain ⟨we, ew⟩ : ∃ we, wd.setCell ⟨u.b, 2, none⟩ (.pointer (some ⟨t.f, 0, none⟩)) = we := ⟨_, rfl⟩
 have ke : Keep (fun g => g = u.b) wd we := by rw [← ew]; exact keep_one wd ⟨u.b, 2, none⟩ _
 have he : LdAt we m K o (turnZ z k u.b (endV t.f)) := by rw [← ew]; exact hd.end2 hk HU.out hi HT.out
 have RE := Lib.hid (RD.out.keep ke (fun e => by have := OU.out; rw [← e, ON0.out] at this; cases this))
 have KE : Keep (fun g => o g ≠ 0) w we := (KM.out.trans KD.out).trans' (ke.mono fun g e => by have e : g = u.b := e; rw [e, OU.out]; decide)
 have cfe := (he.t i t hi HT.out).cf
 have mem : ∀ j x, j < 64 → x ∈ (turnZ z k u.b (endV t.f)).k j → ∃ y ∈ z.k j, x.b = y.b := fun j x hj hx => by
  have hx : x ∈ putK z.k k (turnB u.b (endV t.f) (z.k k)) j := hx
  by_cases e : j = k
  ·subst e
   rw [putK_self] at hx
   rcases turnB_mem hx with ⟨v, hv, _, e⟩ | ⟨q, _⟩
   ·exact ⟨v, hv, by rw [e]; rfl⟩
   ·exact ⟨x, q, rfl⟩
  ·rw [putK_ne _ _ e] at hx; exact ⟨x, hx, rfl⟩
 have len : ((turnZ z k u.b (endV t.f)).k k).length ≤ 100000 := by
  show (putK z.k k (turnB u.b (endV t.f) (z.k k)) k).length ≤ _
  rw [putK_self]; unfold turnB; rw [List.length_map]; exact HL.out k hk
 have hNw : N < we.heap.size := lt_of_cell RE.out.r0
 have hwW : w.heap.size ≤ we.heap.size := KE.size
 obtain ⟨nb, enb⟩ : ∃ nb, we.heap.size = nb := ⟨_, rfl⟩
 obtain ⟨wb, ebw⟩ : ∃ wb, we.alloc (.cells #[.int .i64 0, .pointer (some ⟨t.f, 0, none⟩), .pointer none] 101) = wb := ⟨_, rfl⟩
 obtain ⟨hb, vb, kb, sb⟩ := he.box hi HT.out ebw
 rw [enb] at hb vb sb hwW hNw
 obtain ⟨A, q, q', eK⟩ := OwnV.shape3 (hb.r k hk)
 obtain ⟨Zb, eZ⟩ : ∃ Zb, ((turnZ z k u.b (endV t.f)).k k).map VeI.b = Zb := ⟨_, rfl⟩
 have kd2 : Keep (fun _ => False) wb wb.drew := (Keep.refl _ _).drew
 have crd : wb.drew.cell? ⟨m, 12 + k, none⟩ = some (.slice A q q') := by have := hb.a.ck k hk; rw [eK] at this; exact this
 have cra : (wb.drew.alloc (.cells #[.pointer (some ⟨nb, 0, none⟩)] 85)).cell? ⟨m, 12 + k, none⟩ = some (.slice A q q') := ((Keep.refl (fun _ => False) wb.drew).alloc _).cell crd id
 have OM := Lib.hid (show OwnM 1 (fun b => [ptrV b]) 85 wb.drew (.slice A q q') Zb from by
  have := own_m ((hb.r k hk).keep kd2 (fun _ _ => id))
  rw [eZ, eK] at this
  exact this)
 have LEN := Lib.hid (show Zb.length ≤ 100000 by rw [← eZ, List.length_map]; exact len)
 have AFT := Lib.hid (app_after (o := o) (w0 := w) (val := val) (N := N) hb hk eK eZ (by simp) (by
   have : t.f ≠ nb := fun e => by have := OFF.out.2; rw [e, OZ.out nb hwW] at this; cases this
   simp [this, OFF.out.2]) vb (fun j x hj hx e => by
   obtain ⟨y, hy, e2⟩ := mem j x hj hx
   have := (OV.out j y hj hy).1
   rw [← e2, e, OZ.out nb hwW] at this
   cases this) (by
   have : N ≠ nb := by omega
   simp [this, ON0.out]) (by omega) (RE.out.keep kb id) (KE.trans (kb.mono fun _ e => e.elim)) (fun g hg => by
   by_cases e : g = nb
   ·right; rw [e]; exact hwW
   ·left; simpa [e] using hg) hwW kd2)
 have ONB := Lib.hid (OZ.out nb hwW)
 have hk2 : (k : Int) < 64 := by omega
 have crb : wb.cell? ⟨m, 12 + k, none⟩ = some (.slice A q q') := crd
 have hmw : m < wb.heap.size := lt_of_cell (a := ⟨m, 12 + k, none⟩) crd
 clear hb vb kb sb eK eZ kd2 hd he mem len KE hwW hNw
 go_wp2_with fail
 refine wp_region_held_drew (S := fun w' => True) (by kernel_rfl) trivial (fun hHeld => ?_)
 refine wpAnyH_take (i := 0) (v := ?qvu19) rfl (by kernel_rfl) (by kernel_rfl) (by kernel_rfl) (fun _ _ _ h => h) (Or.inl ⟨by rfl, ?qyu19⟩) (by assumption) ?qru19; case qyu19 => ((intro w hSw; (try dsimp only at hSw); go_simp); try (with_reducible rfl))
 ((try simp only [List.getElem_toArray]); (try simp only [List.getElem_cons_succ]); (try simp only [List.getElem_cons_zero]); (try simp only [Act.put]); (try simp only [List.setIfInBounds_toArray]); (try simp only [List.set_cons_succ]); (try simp only [List.set_cons_zero]))
 refine wpAnyH_take (i := 1) (v := ?qvu20) rfl (by kernel_rfl) (by kernel_rfl) (by kernel_rfl) (fun _ _ _ h => h) (Or.inl ⟨by rfl, ?qyu20⟩) (by assumption) ?qru20; case qyu20 => ((intro w hSw; (try dsimp only at hSw); go_simp); try (with_reducible rfl))
 ((try simp only [List.getElem_toArray]); (try simp only [List.getElem_cons_succ]); (try simp only [List.getElem_cons_zero]); (try simp only [Act.put]); (try simp only [List.setIfInBounds_toArray]); (try simp only [List.set_cons_succ]); (try simp only [List.set_cons_zero]))
 refine wpAnyH_take (i := 2) (v := ?qvu21) rfl (by kernel_rfl) (by kernel_rfl) (by kernel_rfl) (fun _ _ _ h => h) (Or.inl ⟨by rfl, ?qyu21⟩) (by assumption) ?qru21; case qyu21 => ((intro w hSw; (try dsimp only at hSw); go_simp); try (with_reducible rfl))
 ((try simp only [List.getElem_toArray]); (try simp only [List.getElem_cons_succ]); (try simp only [List.getElem_cons_zero]); (try simp only [Act.put]); (try simp only [List.setIfInBounds_toArray]); (try simp only [List.set_cons_succ]); (try simp only [List.set_cons_zero]))
 refine wpAnyH_take (i := 3) (v := ?qvu22) rfl (by kernel_rfl) (by kernel_rfl) (by kernel_rfl) (fun _ _ _ h => h) (Or.inl ⟨by rfl, ?qyu22⟩) (by assumption) ?qru22; case qyu22 => ((intro w hSw; (try dsimp only at hSw); go_simp); try (with_reducible rfl))
 ((try simp only [List.getElem_toArray]); (try simp only [List.getElem_cons_succ]); (try simp only [List.getElem_cons_zero]); (try simp only [Act.put]); (try simp only [List.setIfInBounds_toArray]); (try simp only [List.set_cons_succ]); (try simp only [List.set_cons_zero]))
 refine wpAnyH_take (i := 4) (v := ?qvu23) rfl (by kernel_rfl) (by kernel_rfl) (by kernel_rfl) (fun _ _ _ h => h) (Or.inl ⟨by rfl, ?qyu23⟩) (by assumption) ?qru23; case qyu23 => ((intro w hSw; (try dsimp only at hSw); go_simp); try (with_reducible rfl))
 ((try simp only [List.getElem_toArray]); (try simp only [List.getElem_cons_succ]); (try simp only [List.getElem_cons_zero]); (try simp only [Act.put]); (try simp only [List.setIfInBounds_toArray]); (try simp only [List.set_cons_succ]); (try simp only [List.set_cons_zero]))
 refine wpAnyH_take (i := 5) (v := ?qvu24) rfl (by kernel_rfl) (by kernel_rfl) (by kernel_rfl) (fun _ _ _ h => h) (Or.inl ⟨by rfl, ?qyu24⟩) (by assumption) ?qru24; case qyu24 => ((intro w hSw; (try dsimp only at hSw); go_simp); try (with_reducible rfl))
 ((try simp only [List.getElem_toArray]); (try simp only [List.getElem_cons_succ]); (try simp only [List.getElem_cons_zero]); (try simp only [Act.put]); (try simp only [List.setIfInBounds_toArray]); (try simp only [List.set_cons_succ]); (try simp only [List.set_cons_zero]))
 refine wpAnyH_take (i := 6) (v := ?qvu25) rfl (by kernel_rfl) (by kernel_rfl) (by kernel_rfl) (fun _ _ _ h => h) (Or.inl ⟨by rfl, ?qyu25⟩) (by assumption) ?qru25; case qyu25 => ((intro w hSw; (try dsimp only at hSw); go_simp); try (with_reducible rfl))
 ((try simp only [List.getElem_toArray]); (try simp only [List.getElem_cons_succ]); (try simp only [List.getElem_cons_zero]); (try simp only [Act.put]); (try simp only [List.setIfInBounds_toArray]); (try simp only [List.set_cons_succ]); (try simp only [List.set_cons_zero]))
 refine wpAnyH_take (i := 8) (v := ?qvu26) rfl (by kernel_rfl) (by kernel_rfl) (by kernel_rfl) (fun _ _ _ h => h) (Or.inl ⟨by rfl, ?qyu26⟩) (by assumption) ?qru26; case qyu26 => ((intro w hSw; (try dsimp only at hSw); go_simp); try (with_reducible rfl))
 ((try simp only [List.getElem_toArray]); (try simp only [List.getElem_cons_succ]); (try simp only [List.getElem_cons_zero]); (try simp only [Act.put]); (try simp only [List.setIfInBounds_toArray]); (try simp only [List.set_cons_succ]); (try simp only [List.set_cons_zero]))
 refine wpAnyH_take (i := 11) (v := ?qvu27) rfl (by kernel_rfl) (by kernel_rfl) (by kernel_rfl) (fun _ _ _ h => h) (Or.inl ⟨by rfl, ?qyu27⟩) (by assumption) ?qru27; case qyu27 => ((intro w hSw; (try dsimp only at hSw); go_simp); try (with_reducible rfl))
 ((try simp only [List.getElem_toArray]); (try simp only [List.getElem_cons_succ]); (try simp only [List.getElem_cons_zero]); (try simp only [Act.put]); (try simp only [List.setIfInBounds_toArray]); (try simp only [List.set_cons_succ]); (try simp only [List.set_cons_zero]))
 refine wpAnyH_take (i := 12) (v := ?qvu28) rfl (by kernel_rfl) (by kernel_rfl) (by kernel_rfl) (fun _ _ _ h => h) (Or.inl ⟨by rfl, ?qyu28⟩) (by assumption) ?qru28; case qyu28 => ((intro w hSw; (try dsimp only at hSw); go_simp); try (with_reducible rfl))
 ((try simp only [List.getElem_toArray]); (try simp only [List.getElem_cons_succ]); (try simp only [List.getElem_cons_zero]); (try simp only [Act.put]); (try simp only [List.setIfInBounds_toArray]); (try simp only [List.set_cons_succ]); (try simp only [List.set_cons_zero]))
 refine wpAnyH_ready (rs := [7, 9]) (by kernel_rfl) (by simp) ?_
 refine AllReadyH.cons rfl (fun K hK => ?_) (AllReadyH.cons rfl (fun K hK => ?_) AllReadyH.nil)
 ·go_simp
  refine hK.out _ _ trivial (fun hHeld => ?_)
  clear hK K
  ((try simp only [List.getElem_toArray]); (try simp only [List.getElem_cons_succ]); (try simp only [List.getElem_cons_zero]); (try simp only [Act.put]); (try simp only [List.setIfInBounds_toArray]); (try simp only [List.set_cons_succ]); (try simp only [List.set_cons_zero]))
  refine wpAnyH_ready (rs := [9]) (by kernel_rfl) (by simp) ?_
  refine AllReadyH.cons rfl (fun K hK => ?_) AllReadyH.nil
  go_simp
  refine hK.out _ _ trivial (fun hHeld => ?_)
  clear hK K
  ((try simp only [List.getElem_toArray]); (try simp only [List.getElem_cons_succ]); (try simp only [List.getElem_cons_zero]); (try simp only [Act.put]); (try simp only [List.setIfInBounds_toArray]); (try simp only [List.set_cons_succ]); (try simp only [List.set_cons_zero]))
  refine wpAnyH_ready (rs := [10]) (by kernel_rfl) (by simp) ?_
  refine AllReadyH.cons rfl (fun K hK => ?_) AllReadyH.nil
  refine step_pushM Try.underlying51 info_ve rfl (by decide) (by decide) (fun _ => rfl) (by intro p u hu; simp at hu; subst hu; rfl) rfl (.tmp 51) (.tmp 53) rfl _ Zb (by rfl) OM.out nb (by rfl) LEN.out ?_
  intro g4 c4 y4 o4 k4 hg4
  obtain ⟨wg, eg, ⟨um, cm4⟩, fm4, n0, n2, m0, m2, FB⟩ := AFT.out g4 c4 y4 o4 k4 hg4
  have FB := Lib.hid FB
  clear o4 k4 hg4
  refine hK.out _ _ trivial (fun hHeld => ?_)
  clear hK K
  ((try simp only [List.getElem_toArray]); (try simp only [List.getElem_cons_succ]); (try simp only [List.getElem_cons_zero]); (try simp only [Act.put]); (try simp only [List.setIfInBounds_toArray]); (try simp only [List.set_cons_succ]); (try simp only [List.set_cons_zero]))
  refine wpAnyH_take (i := 13) (v := ?qvu29) rfl (by kernel_rfl) (by kernel_rfl) (by kernel_rfl) (fun _ _ _ h => h) (Or.inl ⟨by rfl, ?qyu29⟩) (by assumption) ?qru29; case qyu29 => ((intro w hSw; (try dsimp only at hSw); go_simp); try (with_reducible rfl))
  ((try simp only [List.getElem_toArray]); (try simp only [List.getElem_cons_succ]); (try simp only [List.getElem_cons_zero]); (try simp only [Act.put]); (try simp only [List.setIfInBounds_toArray]); (try simp only [List.set_cons_succ]); (try simp only [List.set_cons_zero]))
  refine wpAnyH_ready (rs := [14]) (by kernel_rfl) (by simp) ?_
  refine AllReadyH.cons rfl (fun K hK => ?_) AllReadyH.nil
  go_simp
  go_simp
  refine hK.out _ _ trivial (fun hHeld => ?_)
  clear hK K
  ((try simp only [List.getElem_toArray]); (try simp only [List.getElem_cons_succ]); (try simp only [List.getElem_cons_zero]); (try simp only [Act.put]); (try simp only [List.setIfInBounds_toArray]); (try simp only [List.set_cons_succ]); (try simp only [List.set_cons_zero]))
  refine wpAnyH_done (by kernel_rfl) ?_ _
  obtain ⟨W2, e2, R6', k6, K', o', a6, n6, oN6⟩ := FB.out
  have R6 := Lib.hid R6'
  have A6 := Lib.hid a6
  obtain ⟨q0, q1, q2, q3, q4, q5⟩ := R6.out
  clear a6 R6'
  go_wp2
  (obtain ⟨W7, eW7⟩ : ∃ W7, (((((W2.setCell ⟨N, 0, none⟩ (.int .i64 0)).setCell ⟨N, 1, none⟩ (.int .i64 0)).setCell ⟨N, 2, none⟩ (.slice none 0 0)).setCell ⟨N, 3, none⟩ (.int .i64 0)).setCell ⟨N, 4, none⟩ (.int .i64 0)) = W7 := ⟨_, rfl⟩; obtain ⟨⟨v0, v1, v2, v3, v4, _⟩, k7⟩ := res_set R6.out _ _ _ _ _ eW7; rw [eW7]; refine bodyPost_ret (v := .agg #[.int .i64 0, .int .i64 0, .slice none 0 0, .int .i64 0, .int .i64 0]) (by simp [results, Try.results63, go_sem, v0, v1, v2, v3, v4]) rfl ?_)
  exact ⟨.slice none 0 0, _, K', o', rfl, ⟨nb, ONB.out, rfl⟩, OwnM.nil, (fun g hg => by cases hg), A6.out.keep k7 (fun g hg e => by have e : g = N := e; rw [e, oN6] at hg; exact hg rfl), k6.older' k7 (Nat.le_of_eq EN.out), n6⟩
 ·go_simp
  refine hK.out _ _ trivial (fun hHeld => ?_)
  clear hK K
  ((try simp only [List.getElem_toArray]); (try simp only [List.getElem_cons_succ]); (try simp only [List.getElem_cons_zero]); (try simp only [Act.put]); (try simp only [List.setIfInBounds_toArray]); (try simp only [List.set_cons_succ]); (try simp only [List.set_cons_zero]))
  refine wpAnyH_ready (rs := [7]) (by kernel_rfl) (by simp) ?_
  refine AllReadyH.cons rfl (fun K hK => ?_) AllReadyH.nil
  go_simp
  refine hK.out _ _ trivial (fun hHeld => ?_)
  clear hK K
  ((try simp only [List.getElem_toArray]); (try simp only [List.getElem_cons_succ]); (try simp only [List.getElem_cons_zero]); (try simp only [Act.put]); (try simp only [List.setIfInBounds_toArray]); (try simp only [List.set_cons_succ]); (try simp only [List.set_cons_zero]))
  refine wpAnyH_ready (rs := [10]) (by kernel_rfl) (by simp) ?_
  refine AllReadyH.cons rfl (fun K hK => ?_) AllReadyH.nil
  refine step_pushM Try.underlying51 info_ve rfl (by decide) (by decide) (fun _ => rfl) (by intro p u hu; simp at hu; subst hu; rfl) rfl (.tmp 51) (.tmp 53) rfl _ Zb (by rfl) OM.out nb (by rfl) LEN.out ?_
  intro g4 c4 y4 o4 k4 hg4
  obtain ⟨wg, eg, ⟨um, cm4⟩, fm4, n0, n2, m0, m2, FB⟩ := AFT.out g4 c4 y4 o4 k4 hg4
  have FB := Lib.hid FB
  clear o4 k4 hg4
  refine hK.out _ _ trivial (fun hHeld => ?_)
  clear hK K
  ((try simp only [List.getElem_toArray]); (try simp only [List.getElem_cons_succ]); (try simp only [List.getElem_cons_zero]); (try simp only [Act.put]); (try simp only [List.setIfInBounds_toArray]); (try simp only [List.set_cons_succ]); (try simp only [List.set_cons_zero]))
  refine wpAnyH_take (i := 13) (v := ?qvu30) rfl (by kernel_rfl) (by kernel_rfl) (by kernel_rfl) (fun _ _ _ h => h) (Or.inl ⟨by rfl, ?qyu30⟩) (by assumption) ?qru30; case qyu30 => ((intro w hSw; (try dsimp only at hSw); go_simp); try (with_reducible rfl))
  ((try simp only [List.getElem_toArray]); (try simp only [List.getElem_cons_succ]); (try simp only [List.getElem_cons_zero]); (try simp only [Act.put]); (try simp only [List.setIfInBounds_toArray]); (try simp only [List.set_cons_succ]); (try simp only [List.set_cons_zero]))
  refine wpAnyH_ready (rs := [14]) (by kernel_rfl) (by simp) ?_
  refine AllReadyH.cons rfl (fun K hK => ?_) AllReadyH.nil
  go_simp
  go_simp
  refine hK.out _ _ trivial (fun hHeld => ?_)
  clear hK K
  ((try simp only [List.getElem_toArray]); (try simp only [List.getElem_cons_succ]); (try simp only [List.getElem_cons_zero]); (try simp only [Act.put]); (try simp only [List.setIfInBounds_toArray]); (try simp only [List.set_cons_succ]); (try simp only [List.set_cons_zero]))
  refine wpAnyH_done (by kernel_rfl) ?_ _
  obtain ⟨W2, e2, R6', k6, K', o', a6, n6, oN6⟩ := FB.out
  have R6 := Lib.hid R6'
  have A6 := Lib.hid a6
  obtain ⟨q0, q1, q2, q3, q4, q5⟩ := R6.out
  clear a6 R6'
  go_wp2
  (obtain ⟨W7, eW7⟩ : ∃ W7, (((((W2.setCell ⟨N, 0, none⟩ (.int .i64 0)).setCell ⟨N, 1, none⟩ (.int .i64 0)).setCell ⟨N, 2, none⟩ (.slice none 0 0)).setCell ⟨N, 3, none⟩ (.int .i64 0)).setCell ⟨N, 4, none⟩ (.int .i64 0)) = W7 := ⟨_, rfl⟩; obtain ⟨⟨v0, v1, v2, v3, v4, _⟩, k7⟩ := res_set R6.out _ _ _ _ _ eW7; rw [eW7]; refine bodyPost_ret (v := .agg #[.int .i64 0, .int .i64 0, .slice none 0 0, .int .i64 0, .int .i64 0]) (by simp [results, Try.results63, go_sem, v0, v1, v2, v3, v4]) rfl ?_)
  exact ⟨.slice none 0 0, _, K', o', rfl, ⟨nb, ONB.out, rfl⟩, OwnM.nil, (fun g hg => by cases hg), A6.out.keep k7 (fun g hg e => by have e : g = N := e; rw [e, oN6] at hg; exact hg rfl), k6.older' k7 (Nat.le_of_eq EN.out), n6⟩
end
end Go.Proofs.Ytalkfnblnlcklaa
/- Package model as landed, in memory: newTxn, New, Begin. Condition: times below 2^41. -/
namespace Go.Proofs.Ytalkfnblnlcklaa
open Go.ChangeShapes Go.WideShapes Go.ChangeAt Go.RowKit
set_option linter.unusedVariables false
set_option linter.unusedSimpArgs false
section
variable {w w' w2 : World} {m g n c : Nat} {K : Nat → Value} {o : Nat → Nat} {z : LdI} {T : Nat → Prop} {F : Nat → FtI} {P : VeI → Bool} {t : TtI} {fv : Value} {l : List VeI}
def ttC (id' level begin' : Int) (f : Nat) : List Value := [.int .i64 id', .int .i64 level, .int .u64 begin', .int .i64 0] ++ List.replicate 64 (.bool false) ++ [.pointer (some ⟨f, 0, none⟩)]
set_option maxRecDepth 100000 in
theorem build_tt (id' level begin' : Int) (f : Nat) : ((((Try.zeroCells90.setIfInBounds 0 (.int .i64 id')).setIfInBounds 1 (.int .i64 level)).setIfInBounds 2 (.int .u64 begin')).setIfInBounds 68 (.pointer (some ⟨f, 0, none⟩))) = (ttC id' level begin' f).toArray := by kernel_rfl
theorem ttC_at (id' level begin' : Int) (f : Nat) : (ttC id' level begin' f)[0]? = some (.int .i64 id') ∧ (ttC id' level begin' f)[1]? = some (.int .i64 level) ∧ (ttC id' level begin' f)[2]? = some (.int .u64 begin') ∧ (ttC id' level begin' f)[3]? = some (.int .i64 0) ∧ (ttC id' level begin' f)[68]? = some (.pointer (some ⟨f, 0, none⟩)) ∧ ∀ k, k < 64 → (ttC id' level begin' f)[4 + k]? = some (.bool false) := by
 refine ⟨rfl, rfl, rfl, rfl, rfl, fun k hk => ?_⟩
 unfold ttC
 rw [List.getElem?_append_left (by simp; omega), List.getElem?_append_right (by simp)]
 rw [List.getElem?_replicate]
 simp
 omega
/-- What newTxn makes. -/
def NewT (w : World) (id' level begin' : Int) (e : Ending) (w' : World) : Prop := ∃ tb tf, e = .returned (.pointer (some ⟨tb, 0, none⟩)) ∧ w.heap.size ≤ tb ∧ w.heap.size ≤ tf ∧ tb ≠ tf ∧ TtAt w' ⟨tb, id', level, begin', 0, fun _ => false, tf⟩ ∧ FtAt w' tf ⟨1, 0⟩ ∧ Keep (fun _ => False) w w' ∧ w'.heap.size = w.heap.size + 2 ∧ tb < w'.heap.size ∧ tf < w'.heap.size
set_option maxRecDepth 100000 in
theorem newTxn_any (id' level begin' : Int) (w : World) : Calls Try.prog 30 #[.int .i64 id', .int .i64 level, .int .u64 begin'] w (NewT w id' level begin') := by
 obtain ⟨w1, e1⟩ : ∃ w1, w.alloc (.cells #[.int .u32 0, .int .i32 0, .int .u32 0, .int .i64 1, .int .u64 0] 117) = w1 := ⟨_, rfl⟩
 obtain ⟨f, ef⟩ : ∃ f, w.heap.size = f := ⟨_, rfl⟩
 have s1 : w1.heap.size = f + 1 := by rw [← e1]; simp [ef]
 have k1 : Keep (fun _ => False) w w1 := by rw [← e1]; exact (Keep.refl _ _).alloc _
 have F1 : FtAt w1 f ⟨1, 0⟩ := by
  rw [← e1, ← ef]
  exact ⟨by simp, by simp, fun i => by simp, fun _ => ⟨by simp, by simp⟩⟩
 obtain ⟨w2, e2⟩ : ∃ w2, w1.alloc (.cells (ttC id' level begin' f).toArray 90) = w2 := ⟨_, rfl⟩
 have k2 : Keep (fun _ => False) w1 w2 := by rw [← e2]; exact (Keep.refl _ _).alloc _
 have s2 : w2.heap.size = f + 2 := by rw [← e2]; simp [s1]
 have T2 : TtAt w2 ⟨w1.heap.size, id', level, begin', 0, fun _ => false, f⟩ := by
  obtain ⟨a0, a1, a2, a3, a4, a5⟩ := ttC_at id' level begin' f
  have hc : ∀ (i : Nat) (u : Value), (ttC id' level begin' f)[i]? = some u → w2.cell? ⟨w1.heap.size, i, none⟩ = some u := fun i u h => by rw [← e2]; simpa using h
  exact ⟨hc _ _ a0, hc _ _ a1, hc _ _ a2, hc _ _ a3, fun k hk => hc _ _ (a5 k hk), hc _ _ a4, fun i => by rw [← e2]; simp⟩
 have FIN := Lib.hid (show NewT w id' level begin' (.returned (.pointer (some ⟨w1.heap.size, 0, none⟩))) w2 from ⟨_, f, rfl, by omega, by omega, by omega, T2, F1.keep k2 id, k1.trans k2, by omega, by omega, by omega⟩)
 obtain ⟨tb, etb⟩ : ∃ tb, w1.heap.size = tb := ⟨_, rfl⟩
 rw [etb] at FIN
 obtain ⟨A, eA⟩ : ∃ A, ((((Try.zeroCells90.setIfInBounds 0 (.int .i64 id')).setIfInBounds 1 (.int .i64 level)).setIfInBounds 2 (.int .u64 begin')).setIfInBounds 68 (.pointer (some ⟨f, 0, none⟩))) = A := ⟨_, rfl⟩
 rw [← build_tt, eA] at e2
 clear s1 k1 F1 k2 s2 T2
 go_enter Try.func30, Try.ntmps30
 go_wp2
 go_ret
 obtain ⟨a, f2, e0, r⟩ := FIN.out
 cases e0
 exact ⟨_, f2, rfl, r⟩
/-- A transaction begins, in blocks of its own. -/
def begZ (z : LdI) (i : Nat) (level : Int) (tb tf : Nat) : LdI := { z with clock := z.clock + 1, begun := z.begun + 1, s := putT z.s i (some ⟨tb, z.begun + 1, level, z.clock + 1, 0, fun _ => false, tf⟩), F := updF z.F tf ⟨1, 0⟩ }
theorem LdAt.newT (h : LdAt w m K o z) {i : Nat} (hi : i < 8) {tb tf : Nat} {t : TtI} (k : Keep (fun _ => False) w w2) (h1 : w.heap.size ≤ tb) (h2 : w.heap.size ≤ tf) (hne : tb ≠ tf) (eb : t.b = tb) (ef : t.f = tf) (T2 : TtAt w2 t) (F2 : FtAt w2 tf ⟨1, 0⟩) :
  LdAt (w2.setCell ⟨m, 4 + i, none⟩ (.pointer (some ⟨tb, 0, none⟩))) m K (fun g => if g = tb then 70 + i else if g = tf then 81 else o g) { z with s := putT z.s i (some t), F := updF z.F tf ⟨1, 0⟩ } := by
 have lb : tb < w2.heap.size := by have := T2.lt; rw [eb] at this; exact this
 have lf := F2.lt
 have a := h.fresh k (fun g => if g = tb then 70 + i else if g = tf then 81 else o g) (updF z.F tf ⟨1, 0⟩) (fun g hg => by rw [if_neg (by omega), if_neg (by omega)]) (fun g hg => updF_ne _ _ (by omega)) (fun g hg => by
  by_cases e : g = tb
  ·omega
  ·by_cases e2 : g = tf
   ·omega
   ·have hg : (if g = tb then 70 + i else if g = tf then 81 else o g) ≠ 0 := hg
    rw [if_neg e, if_neg e2] at hg
    exact Nat.lt_of_lt_of_le (h.lt g hg) k.size) (fun g hg e => by
  by_cases e1 : g = tb
  ·have e : (if g = tb then 70 + i else if g = tf then 81 else o g) = 81 := e
   rw [if_pos e1] at e; omega
  ·by_cases e2 : g = tf
   ·rw [e2, updF_self]; exact F2
   ·have e : (if g = tb then 70 + i else if g = tf then 81 else o g) = 81 := e
    rw [if_neg e1, if_neg e2] at e
    have := h.lt g (by rw [e]; decide)
    omega)
 have b := a.ses hi (some t) (fun u hu => by
  cases hu
  rw [eb, ef]
  exact ⟨T2, by rw [if_pos rfl], by rw [if_neg (Ne.symm hne), if_pos rfl]⟩)
 rw [show ptrO ((some t).map TtI.b) = .pointer (some ⟨tb, 0, none⟩) by rw [← eb]; rfl] at b
 exact b
def BegP (w : World) (m : Nat) (K : Nat → Value) (o : Nat → Nat) (z : LdI) (i : Nat) (level : Int) (e : Ending) (w' : World) : Prop :=
 e = .returned (.tuple #[.int .i64 (z.begun + 1), .int .i64 0]) ∧ ∃ tb tf o', o tb = 0 ∧ o tf = 0 ∧ LdAt w' m K o' (begZ z i level tb tf) ∧ Keep (fun g => o g ≠ 0) w w' ∧ ∀ g, o' g ≠ 0 → o g ≠ 0 ∨ w.heap.size ≤ g
theorem begin_core (h : LdAt w m K o z) {i : Nat} (hi : i < 8) (level : Int) {tb tf : Nat} {w0 : World} (K0 : Keep (fun g => o g ≠ 0) w0 w) (z0 : LdI) (hz : z = { z0 with clock := z0.clock + 1, begun := z0.begun + 1 }) (k : Keep (fun _ => False) w w2) (h1 : w.heap.size ≤ tb) (h2 : w.heap.size ≤ tf) (hne : tb ≠ tf) (T2 : TtAt w2 ⟨tb, z0.begun + 1, level, z0.clock + 1, 0, fun _ => false, tf⟩) (F2 : FtAt w2 tf ⟨1, 0⟩) :
  ∃ w4, w2.setCell ⟨m, 4 + i, none⟩ (.pointer (some ⟨tb, 0, none⟩)) = w4 ∧ w4.cell? ⟨m, 3, none⟩ = some (.int .i64 (z0.begun + 1)) ∧ (∃ u, w2.cell? ⟨m, 4 + i, none⟩ = some u) ∧ w2.frozen? ⟨m, 4 + i, none⟩ = false ∧ o tb = 0 ∧ o tf = 0 ∧ ∃ o', LdAt w4 m K o' (begZ z0 i level tb tf) ∧ Keep (fun g => o g ≠ 0) w0 w4 ∧ ∀ g, o' g ≠ 0 → o g ≠ 0 ∨ w0.heap.size ≤ g := by
 have a := h.newT hi k h1 h2 hne rfl rfl T2 F2
 have c3 := (h.quiet k).a.c3
 have hm := (h.quiet k).a
 obtain ⟨w4, e4⟩ : ∃ w4, w2.setCell ⟨m, 4 + i, none⟩ (.pointer (some ⟨tb, 0, none⟩)) = w4 := ⟨_, rfl⟩
 have k4 := keep_one w2 ⟨m, 4 + i, none⟩ (.pointer (some ⟨tb, 0, none⟩))
 have zero : ∀ g, w.heap.size ≤ g → o g = 0 := fun g hg => by
  cases q : o g with
  | zero => rfl
  | succ n => have := h.lt g (by rw [q]; omega); omega
 rw [e4] at a k4
 refine ⟨w4, e4, ?_, ⟨_, hm.cs i hi⟩, hm.fz _, zero tb h1, zero tf h2, (fun g => if g = tb then 70 + i else if g = tf then 81 else o g), ?_, (K0.trans (k.mono fun _ e => e.elim)).trans (k4.mono fun g e => ?_), fun g hg => ?_⟩
 ·have := a.a.c3
  have e : ({ z with s := putT z.s i (some ⟨tb, z0.begun + 1, level, z0.clock + 1, 0, fun _ => false, tf⟩), F := updF z.F tf ⟨1, 0⟩ } : LdI).begun = z0.begun + 1 := by rw [hz]
  rw [e] at this
  exact this
 ·have e : ({ z with s := putT z.s i (some ⟨tb, z0.begun + 1, level, z0.clock + 1, 0, fun _ => false, tf⟩), F := updF z.F tf ⟨1, 0⟩ } : LdI) = begZ z0 i level tb tf := by rw [hz]; rfl
  rw [e] at a
  exact a
 ·have e : g = m := e
  rw [e, h.om]; decide
 ·have hg : (if g = tb then 70 + i else if g = tf then 81 else o g) ≠ 0 := hg
  by_cases e : g = tb
  ·exact .inr (by rw [e]; exact Nat.le_trans K0.size h1)
  ·by_cases e2 : g = tf
   ·exact .inr (by rw [e2]; exact Nat.le_trans K0.size h2)
   ·rw [if_neg e, if_neg e2] at hg; exact .inl hg
end
end Go.Proofs.Ytalkfnblnlcklaa
