/- Several texts, one behind the other: LdA, LdB3. -/
import Derived.Test.YtalkfnblnlcklaaModelBaseDZao
import Derived.Test.YtalkfnblnlcklaaModelBaseDZan
import Derived.Test.YtalkfnblnlcklaaModelBaseDZaf
import Derived.Test.YtalkfnblnlcklaaModelBaseDZad
import Derived.Laws.Rows
/- Package model as landed, in memory, second part: a whole Model (LdAt), and what a store into one of its blocks leaves. No further condition. -/
namespace Go.Proofs.Ytalkfnblnlcklaa
open Go.ChangeShapes Go.WideShapes Go.ChangeAt Go.RowKit
set_option linter.unusedVariables false
set_option linter.unusedSimpArgs false

/-- A whole array out of the midst of a block. -/
theorem run_loadVar_mid {P : Program} (w : World) (a : Addr) (ty : TypeId) (cs : List Value) (d : TypeDesc) (h : ∀ j v, cs[j]? = some v → w.cell? (a.add j) = some v)
    (hu : P.underlying ty = some d) (hd : (match d with | .struct _ | .array _ _ => true | _ => false) = true) (hi : (P.info? ty).map (·.size) = some cs.length) : (loadVar ty a).run P w = .ok (.agg cs.toArray) w := by
  have hl : (loadCells a cs.length).run P w = .ok cs.toArray w := run_loadCells_list (P := P) w a cs h
  cases hq : P.info? ty with
  | none => simp [hq] at hi
  | some i =>
    have hs : i.size = cs.length := by simpa [hq] using hi
    have hagg : (isAgg ty).run P w = .ok true w := by
      unfold isAgg
      rw [Sem.run_bind, run_underlying hu w]
      cases d <;> simp_all
    simp [loadVar, Sem.run_bind, hagg, sizeOf, typeInfo, hq, hs, hl]
theorem wpList_load_mid {P : Program} {ops : Array Oper} {rest : List Oper} {o : Oper} {a : Act} {w : World} {Q : Exit → Act → World → Prop} (hgd : o.guard = none) (ty : TypeId) (x : Operand) (ho : o.op = .load ty x)
  (p : Addr) (hx : a.eval x = .pointer (some p)) (cs : List Value) (d : TypeDesc) (hc : ∀ j v, cs[j]? = some v → w.cell? (p.add j) = some v)
  (hu : P.underlying ty = some d) (hd : (match d with | .struct _ | .array _ _ => true | _ => false) = true) (hi : (P.info? ty).map (·.size) = some cs.length)
  (h : wpList P ops Q rest (a.put o.dst (.agg cs.toArray)) w) : wpList P ops Q (o :: rest) a w :=
 wpList_plain hgd fun _ hK => by
  unfold Oper.wp execOp
  simp only [ho, hx, Instr.loadAt, Instr.sureAddr, Sem.run_bind, Sem.run_pure, Result.andThen_ok, run_loadVar_mid w p ty cs d hc hu hd hi]
  exact hK _ _ h
/-- The cells of a Model. -/
structure MdM (w : World) (m : Nat) (K : Nat → Value) (z : LdI) : Prop where
 c0 : w.cell? ⟨m, 0, none⟩ = some (.int .i64 z.slots)
 c1 : w.cell? ⟨m, 1, none⟩ = some (.int .u64 z.limit)
 c2 : w.cell? ⟨m, 2, none⟩ = some (.int .u64 z.clock)
 c3 : w.cell? ⟨m, 3, none⟩ = some (.int .i64 z.begun)
 cs : ∀ i, i < 8 → w.cell? ⟨m, 4 + i, none⟩ = some (ptrO ((z.s i).map TtI.b))
 ck : ∀ k, k < 64 → w.cell? ⟨m, 12 + k, none⟩ = some (K k)
 fz : ∀ i, w.frozen? ⟨m, i, none⟩ = false
abbrev OwnV (w : World) (v : Value) (l : List VeI) : Prop := Own ptrV 85 w v (l.map VeI.b)
/-- A Model in memory; o: whose each block is. -/
structure LdAt (w : World) (m : Nat) (K : Nat → Value) (o : Nat → Nat) (z : LdI) : Prop where
 a : MdM w m K z
 r : ∀ k, k < 64 → OwnV w (K k) (z.k k)
 t : ∀ i t, i < 8 → z.s i = some t → TtAt w t
 v : ∀ k v, k < 64 → v ∈ z.k k → VeAt w v
 f : ∀ g, o g = 81 → FtAt w g (z.F g)
 om : o m = 1
 oK : ∀ k g, k < 64 → (K k).ownBlock = some g → o g = 2 + k
 oT : ∀ i t, i < 8 → z.s i = some t → o t.b = 70 + i ∧ o t.f = 81
 oV : ∀ k v, k < 64 → v ∈ z.k k → o v.b = 80 ∧ o v.mr = 81 ∧ ∀ e, v.en = some e → o e = 81
 nd : ∀ k k' u v, k < 64 → k' < 64 → u ∈ z.k k → v ∈ z.k k' → u.b = v.b → k = k' ∧ u = v
 lt : ∀ g, o g ≠ 0 → g < w.heap.size
section
variable {w w' : World} {m : Nat} {K : Nat → Value} {o : Nat → Nat} {z : LdI} {T : Nat → Prop}
theorem MdM.lt (h : MdM w m K z) : m < w.heap.size := lt_of_cell (a := ⟨m, 0, none⟩) h.c0
theorem MdM.keep (h : MdM w m K z) (k : Keep T w w') (hn : ¬ T m) : MdM w' m K z :=
 ⟨k.cell h.c0 hn, k.cell h.c1 hn, k.cell h.c2 hn, k.cell h.c3 hn, fun i hi => k.cell (h.cs i hi) hn, fun j hj => k.cell (h.ck j hj) hn, fun i => (k.frozen (a := ⟨m, i, none⟩) h.lt hn).trans (h.fz i)⟩
theorem LdAt.keep (h : LdAt w m K o z) (k : Keep T w w') (hn : ∀ g, o g ≠ 0 → ¬ T g) : LdAt w' m K o z :=
 ⟨h.a.keep k (hn _ (by rw [h.om]; decide)), fun j hj => (h.r j hj).keep k (fun g hg => hn g (by rw [h.oK j g hj hg]; omega)), fun i t hi ht => (h.t i t hi ht).keep k (hn _ (by rw [(h.oT i t hi ht).1]; omega)), fun j v hj hv => (h.v j v hj hv).keep k (hn _ (by rw [(h.oV j v hj hv).1]; decide)), fun g hg => (h.f g hg).keep k (hn g (by rw [hg]; decide)), h.om, h.oK, h.oT, h.oV, h.nd, fun g hg => Nat.lt_of_lt_of_le (h.lt g hg) k.size⟩
theorem LdAt.quiet (h : LdAt w m K o z) (k : Keep (fun _ => False) w w') : LdAt w' m K o z := h.keep k fun _ _ => id
theorem LdAt.ver (h : LdAt w m K o z) {k : Nat} {v : VeI} (hk : k < 64) (hv : v ∈ z.k k) : VeF w z.F v :=
 ⟨h.v k v hk hv, h.f _ (h.oV k v hk hv).2.1, fun e he => h.f _ ((h.oV k v hk hv).2.2 e he)⟩
theorem LdAt.tf (h : LdAt w m K o z) {i : Nat} {t : TtI} (hi : i < 8) (ht : z.s i = some t) : FtAt w t.f (z.F t.f) := h.f _ (h.oT i t hi ht).2
/-- A call leaves a Model, and only its blocks, and new ones, have turned. -/
def LdTo (w : World) (m : Nat) (o : Nat → Nat) (z : LdI) (w' : World) : Prop := ∃ K' o', LdAt w' m K' o' z ∧ Keep (fun g => o g ≠ 0) w w' ∧ (∀ g, o' g ≠ 0 → o g ≠ 0 ∨ w.heap.size ≤ g) ∧ ∀ g, o g = 81 → o' g = 81
theorem LdAt.to (h : LdAt w' m K o z) (k : Keep (fun g => o g ≠ 0) w w') : LdTo w m o z w' := ⟨K, o, h, k, fun g hg => .inl hg, fun _ => id⟩
theorem LdAt.same (h : LdAt w m K o z) (k : Keep (fun _ => False) w w') : LdTo w m o z w' := (h.quiet k).to (k.mono fun _ e => e.elim)
theorem LdTo.then {z1 z2 : LdI} {w1 w2 : World} (h : LdTo w m o z1 w1) (h2 : ∀ K' o', LdAt w1 m K' o' z1 → LdTo w1 m o' z2 w2) : LdTo w m o z2 w2 := by
 obtain ⟨K1, o1, a1, k1, n1, f1⟩ := h
 obtain ⟨K2, o2, a2, k2, n2, f2⟩ := h2 K1 o1 a1
 refine ⟨K2, o2, a2, ⟨k2.os.trans k1.os, k2.tape.trans k1.tape, k2.output.trans k1.output, Nat.le_trans k1.size k2.size, fun g hg hn => ?_⟩, fun g hg => ?_, fun g hg => f2 g (f1 g hg)⟩
 ·refine (k2.block g (Nat.lt_of_lt_of_le hg k1.size) fun c => ?_).trans (k1.block g hg hn)
  rcases n1 g c with e | e
  ·exact hn e
  ·omega
 ·rcases n2 g hg with e | e
  ·exact n1 g e
  ·exact .inr (Nat.le_trans k1.size e)
def putV (K : Nat → Value) (k : Nat) (v : Value) : Nat → Value := fun j => if j = k then v else K j
/-- A store into the Model's own cells. -/
theorem LdAt.store_m {off : Nat} {u : Value} {z' : LdI} {K' : Nat → Value} (h : LdAt w m K o z) (ha : MdM (w.setCell ⟨m, off, none⟩ u) m K' z') (hr : ∀ j, j < 64 → OwnV w (K' j) (z'.k j) ∧ ∀ g, (K' j).ownBlock = some g → o g = 2 + j)
  (ht : ∀ i t, i < 8 → z'.s i = some t → TtAt w t ∧ o t.b = 70 + i ∧ o t.f = 81) (hv : ∀ k v, k < 64 → v ∈ z'.k k → VeAt w v ∧ o v.b = 80 ∧ o v.mr = 81 ∧ ∀ e, v.en = some e → o e = 81) (hF : z'.F = z.F)
  (nd : ∀ k k' u v, k < 64 → k' < 64 → u ∈ z'.k k → v ∈ z'.k k' → u.b = v.b → k = k' ∧ u = v) : LdAt (w.setCell ⟨m, off, none⟩ u) m K' o z' := by
 have k := keep_one w ⟨m, off, none⟩ u
 have far : ∀ g, o g ≠ 1 → ¬ g = m := fun g hg e => hg (by rw [e]; exact h.om)
 exact ⟨ha, fun j hj => (hr j hj).1.keep k (fun g hg => far g (by rw [(hr j hj).2 g hg]; omega)), fun i t hi hs => (ht i t hi hs).1.keep k (far _ (by rw [(ht i t hi hs).2.1]; omega)), fun j v hj hs => (hv j v hj hs).1.keep k (far _ (by rw [(hv j v hj hs).2.1]; decide)), fun g hg => by rw [hF]; exact (h.f g hg).keep k (far g (by rw [hg]; decide)), h.om, fun j g hj => (hr j hj).2 g, fun i t hi hs => (ht i t hi hs).2, fun j v hj hs => (hv j v hj hs).2, nd, fun g hg => Nat.lt_of_lt_of_le (h.lt g hg) k.size⟩
theorem MdM.clock (h : MdM w m K z) (c : Int) : MdM (w.setCell ⟨m, 2, none⟩ (.int .u64 c)) m K { z with clock := c } :=
 ⟨by rw [World.cell?_setCell_other _ _ _ _ (by first | (simp; done) | (simp; omega))]; exact h.c0, by rw [World.cell?_setCell_other _ _ _ _ (by first | (simp; done) | (simp; omega))]; exact h.c1, World.cell?_setCell_same _ _ _ h.c2, by rw [World.cell?_setCell_other _ _ _ _ (by first | (simp; done) | (simp; omega))]; exact h.c3, fun i hi => by rw [World.cell?_setCell_other _ _ _ _ (by first | (simp; done) | (simp; omega))]; exact h.cs i hi, fun i hi => by rw [World.cell?_setCell_other _ _ _ _ (by first | (simp; done) | (simp; omega))]; exact h.ck i hi, fun i => by rw [World.frozen?_setCell]; exact h.fz i⟩
theorem MdM.begun (h : MdM w m K z) (c : Int) : MdM (w.setCell ⟨m, 3, none⟩ (.int .i64 c)) m K { z with begun := c } :=
 ⟨by rw [World.cell?_setCell_other _ _ _ _ (by first | (simp; done) | (simp; omega))]; exact h.c0, by rw [World.cell?_setCell_other _ _ _ _ (by first | (simp; done) | (simp; omega))]; exact h.c1, by rw [World.cell?_setCell_other _ _ _ _ (by first | (simp; done) | (simp; omega))]; exact h.c2, World.cell?_setCell_same _ _ _ h.c3, fun i hi => by rw [World.cell?_setCell_other _ _ _ _ (by first | (simp; done) | (simp; omega))]; exact h.cs i hi, fun i hi => by rw [World.cell?_setCell_other _ _ _ _ (by first | (simp; done) | (simp; omega))]; exact h.ck i hi, fun i => by rw [World.frozen?_setCell]; exact h.fz i⟩
theorem MdM.ses (h : MdM w m K z) {i : Nat} (hi : i < 8) (t : Option TtI) : MdM (w.setCell ⟨m, 4 + i, none⟩ (ptrO (t.map TtI.b))) m K { z with s := putT z.s i t } := by
 refine ⟨by rw [World.cell?_setCell_other _ _ _ _ (by first | (simp; done) | (simp; omega))]; exact h.c0, by rw [World.cell?_setCell_other _ _ _ _ (by first | (simp; done) | (simp; omega))]; exact h.c1, by rw [World.cell?_setCell_other _ _ _ _ (by first | (simp; done) | (simp; omega))]; exact h.c2, by rw [World.cell?_setCell_other _ _ _ _ (by first | (simp; done) | (simp; omega))]; exact h.c3, fun j hj => ?_, fun j hj => by rw [World.cell?_setCell_other _ _ _ _ (by first | (simp; done) | (simp; omega))]; exact h.ck j hj, fun i => by rw [World.frozen?_setCell]; exact h.fz i⟩
 show _ = some (ptrO ((putT z.s i t j).map TtI.b))
 by_cases e : j = i
 ·subst e
  rw [putT_self]
  exact World.cell?_setCell_same _ _ _ (h.cs j hj)
 ·rw [putT_ne _ _ e, World.cell?_setCell_other _ _ _ _ (by first | (simp; done) | (simp; omega))]; exact h.cs j hj
theorem MdM.key (h : MdM w m K z) {k : Nat} (hk : k < 64) (v : Value) : MdM (w.setCell ⟨m, 12 + k, none⟩ v) m (putV K k v) z := by
 refine ⟨by rw [World.cell?_setCell_other _ _ _ _ (by first | (simp; done) | (simp; omega))]; exact h.c0, by rw [World.cell?_setCell_other _ _ _ _ (by first | (simp; done) | (simp; omega))]; exact h.c1, by rw [World.cell?_setCell_other _ _ _ _ (by first | (simp; done) | (simp; omega))]; exact h.c2, by rw [World.cell?_setCell_other _ _ _ _ (by first | (simp; done) | (simp; omega))]; exact h.c3, fun j hj => by rw [World.cell?_setCell_other _ _ _ _ (by first | (simp; done) | (simp; omega))]; exact h.cs j hj, fun j hj => ?_, fun i => by rw [World.frozen?_setCell]; exact h.fz i⟩
 unfold putV
 by_cases e : j = k
 ·subst e
  rw [if_pos rfl]
  exact World.cell?_setCell_same _ _ _ (h.ck j hj)
 ·rw [if_neg e, World.cell?_setCell_other _ _ _ _ (by first | (simp; done) | (simp; omega))]; exact h.ck j hj
theorem LdAt.mono_z {z' : LdI} (h : LdAt w m K o z) (ha : MdM w m K z') (hs : z'.s = z.s) (hk : z'.k = z.k) (hF : z'.F = z.F) : LdAt w m K o z' :=
 ⟨ha, by rw [hk]; exact h.r, by rw [hs]; exact h.t, by rw [hk]; exact h.v, by rw [hF]; exact h.f, h.om, h.oK, by rw [hs]; exact h.oT, by rw [hk]; exact h.oV, by rw [hk]; exact h.nd, h.lt⟩
theorem LdAt.clock (h : LdAt w m K o z) (c : Int) : LdAt (w.setCell ⟨m, 2, none⟩ (.int .u64 c)) m K o { z with clock := c } :=
 h.store_m (h.a.clock c) (fun j hj => ⟨h.r j hj, fun g => h.oK j g hj⟩) (fun i t hi ht => ⟨h.t i t hi ht, h.oT i t hi ht⟩) (fun k v hk hv => ⟨h.v k v hk hv, h.oV k v hk hv⟩) rfl h.nd
theorem LdAt.begun (h : LdAt w m K o z) (c : Int) : LdAt (w.setCell ⟨m, 3, none⟩ (.int .i64 c)) m K o { z with begun := c } :=
 h.store_m (h.a.begun c) (fun j hj => ⟨h.r j hj, fun g => h.oK j g hj⟩) (fun i t hi ht => ⟨h.t i t hi ht, h.oT i t hi ht⟩) (fun k v hk hv => ⟨h.v k v hk hv, h.oV k v hk hv⟩) rfl h.nd
theorem LdAt.ses (h : LdAt w m K o z) {i : Nat} (hi : i < 8) (t : Option TtI) (ht : ∀ u, t = some u → TtAt w u ∧ o u.b = 70 + i ∧ o u.f = 81) : LdAt (w.setCell ⟨m, 4 + i, none⟩ (ptrO (t.map TtI.b))) m K o { z with s := putT z.s i t } :=
 h.store_m (h.a.ses hi t) (fun j hj => ⟨h.r j hj, fun g => h.oK j g hj⟩) (fun j u hj hu => by
  by_cases e : j = i
  ·subst e
   have hu : putT z.s j t j = some u := hu
   rw [putT_self] at hu
   exact ht u hu
  ·have hu : putT z.s i t j = some u := hu
   rw [putT_ne _ _ e] at hu
   exact ⟨h.t j u hj hu, h.oT j u hj hu⟩) (fun k v hk hv => ⟨h.v k v hk hv, h.oV k v hk hv⟩) rfl h.nd
/-- A key's slice is another one. -/
theorem LdAt.key (h : LdAt w m K o z) {k : Nat} (hk : k < 64) (v : Value) (l : List VeI) (hr : OwnV w v l) (hg : ∀ g, v.ownBlock = some g → o g = 2 + k) (hl : ∀ u ∈ l, VeAt w u ∧ o u.b = 80 ∧ o u.mr = 81 ∧ ∀ e, u.en = some e → o e = 81)
  (nd : ∀ k1 k2 u v, k1 < 64 → k2 < 64 → u ∈ putK z.k k l k1 → v ∈ putK z.k k l k2 → u.b = v.b → k1 = k2 ∧ u = v) : LdAt (w.setCell ⟨m, 12 + k, none⟩ v) m (putV K k v) o { z with k := putK z.k k l } := by
 have ha := h.a.key hk v
 refine h.store_m ⟨ha.c0, ha.c1, ha.c2, ha.c3, ha.cs, ha.ck, ha.fz⟩ (fun j hj => ?_) (fun i t hi ht => ⟨h.t i t hi ht, h.oT i t hi ht⟩) (fun j u hj hu => ?_) rfl nd
 ·show OwnV w (putV K k v j) (putK z.k k l j) ∧ ∀ g, (putV K k v j).ownBlock = some g → o g = 2 + j
  unfold putV
  by_cases e : j = k
  ·subst e; rw [if_pos rfl, putK_self]; exact ⟨hr, hg⟩
  ·rw [if_neg e, putK_ne _ _ e]; exact ⟨h.r j hj, fun g => h.oK j g hj⟩
 ·have hu : u ∈ putK z.k k l j := hu
  by_cases e : j = k
  ·subst e; rw [putK_self] at hu; exact hl u hu
  ·rw [putK_ne _ _ e] at hu; exact ⟨h.v j u hj hu, h.oV j u hj hu⟩
/-- A store into a transaction. -/
theorem LdAt.txn (h : LdAt w m K o z) {i : Nat} {t : TtI} (hi : i < 8) (ht : z.s i = some t) (t' : TtI) (hb : t'.b = t.b) (hf : t'.f = t.f) {off : Nat} {u : Value} (hT : TtAt (w.setCell ⟨t.b, off, none⟩ u) t') : LdAt (w.setCell ⟨t.b, off, none⟩ u) m K o { z with s := putT z.s i (some t') } := by
 have k := keep_one w ⟨t.b, off, none⟩ u
 have ob := (h.oT i t hi ht).1
 have far : ∀ g, o g ≠ 70 + i → ¬ g = t.b := fun g hg e => hg (by rw [e]; exact ob)
 have a := h.a.keep k (far m (by rw [h.om]; omega))
 refine ⟨⟨a.c0, a.c1, a.c2, a.c3, fun j hj => ?_, a.ck, a.fz⟩, fun j hj => (h.r j hj).keep k (fun g hg => far g (by rw [h.oK j g hj hg]; omega)), fun j v hj hv => ?_, fun j v hj hv => (h.v j v hj hv).keep k (far _ (by rw [(h.oV j v hj hv).1]; omega)), fun g hg => (h.f g hg).keep k (far g (by rw [hg]; omega)), h.om, h.oK, fun j v hj hv => ?_, h.oV, h.nd, fun g hg => Nat.lt_of_lt_of_le (h.lt g hg) k.size⟩
 ·rw [a.cs j hj]
  show _ = some (ptrO ((putT z.s i (some t') j).map TtI.b))
  by_cases e : j = i
  ·subst e; rw [putT_self, ht]; simp [hb]
  ·rw [putT_ne _ _ e]
 ·have hv : putT z.s i (some t') j = some v := hv
  by_cases e : j = i
  ·subst e; rw [putT_self] at hv; cases hv; exact hT
  ·rw [putT_ne _ _ e] at hv; exact (h.t j v hj hv).keep k (far _ (by rw [(h.oT j v hj hv).1]; omega))
 ·have hv : putT z.s i (some t') j = some v := hv
  by_cases e : j = i
  ·subst e; rw [putT_self] at hv; cases hv; rw [hb, hf]; exact h.oT j t hj ht
  ·rw [putT_ne _ _ e] at hv; exact h.oT j v hj hv
theorem TtAt.ops' {t : TtI} (h : TtAt w t) (n : Int) : TtAt (w.setCell ⟨t.b, 3, none⟩ (.int .i64 n)) { t with ops := n } :=
 ⟨by rw [World.cell?_setCell_other _ _ _ _ (by first | (simp; done) | (simp; omega))]; exact h.c0, by rw [World.cell?_setCell_other _ _ _ _ (by first | (simp; done) | (simp; omega))]; exact h.c1, by rw [World.cell?_setCell_other _ _ _ _ (by first | (simp; done) | (simp; omega))]; exact h.c2, World.cell?_setCell_same _ _ _ h.c3, fun i hi => by rw [World.cell?_setCell_other _ _ _ _ (by first | (simp; done) | (simp; omega))]; exact h.ca i hi, by rw [World.cell?_setCell_other _ _ _ _ (by first | (simp; done) | (simp; omega))]; exact h.cf, fun i => by rw [World.frozen?_setCell]; exact h.fz i⟩
theorem TtAt.again' {t : TtI} (h : TtAt w t) {k : Nat} (hk : k < 64) (r : Nat → Bool) (hr : r k = true) (ho : ∀ j, j ≠ k → r j = t.again j) : TtAt (w.setCell ⟨t.b, 4 + k, none⟩ (.bool true)) { t with again := r } := by
 refine ⟨by rw [World.cell?_setCell_other _ _ _ _ (by first | (simp; done) | (simp; omega))]; exact h.c0, by rw [World.cell?_setCell_other _ _ _ _ (by first | (simp; done) | (simp; omega))]; exact h.c1, by rw [World.cell?_setCell_other _ _ _ _ (by first | (simp; done) | (simp; omega))]; exact h.c2, by rw [World.cell?_setCell_other _ _ _ _ (by first | (simp; done) | (simp; omega))]; exact h.c3, fun i hi => ?_, by rw [World.cell?_setCell_other _ _ _ _ (by first | (simp; done) | (simp; omega))]; exact h.cf, fun i => by rw [World.frozen?_setCell]; exact h.fz i⟩
 by_cases e : i = k
 ·subst e
  show _ = some (Value.bool (r i))
  rw [hr]; exact World.cell?_setCell_same _ _ _ (h.ca i hi)
 ·show _ = some (Value.bool (r i))
  rw [World.cell?_setCell_other _ _ _ _ (by first | (simp; done) | (simp; omega)), ho i e]; exact h.ca i hi
theorem turnB_mem {b : Nat} {f : VeI → VeI} {l : List VeI} {u : VeI} (h : u ∈ turnB b f l) : (∃ v ∈ l, v.b = b ∧ u = f v) ∨ (u ∈ l ∧ u.b ≠ b) := by
 obtain ⟨v, hv, e⟩ := List.mem_map.1 h
 by_cases q : v.b = b
 ·rw [if_pos q] at e; exact .inl ⟨v, hv, q, e.symm⟩
 ·rw [if_neg q] at e; subst e; exact .inr ⟨hv, q⟩
/-- A store into a version. -/
theorem LdAt.vers (h : LdAt w m K o z) {k : Nat} {v : VeI} (hk : k < 64) (hv : v ∈ z.k k) (f : VeI → VeI) (hb : ∀ u, (f u).b = u.b) (hmr : (f v).mr = v.mr) (hen : ∀ e, (f v).en = some e → o e = 81) {off : Nat} {u : Value} (hV : VeAt (w.setCell ⟨v.b, off, none⟩ u) (f v)) :
  LdAt (w.setCell ⟨v.b, off, none⟩ u) m K o { z with k := putK z.k k (turnB v.b f (z.k k)) } := by
 have kk := keep_one w ⟨v.b, off, none⟩ u
 have ob := h.oV k v hk hv
 have far : ∀ g, o g ≠ 80 → ¬ g = v.b := fun g hg e => hg (by rw [e]; exact ob.1)
 have a := h.a.keep kk (far m (by rw [h.om]; omega))
 have one : ∀ v' ∈ z.k k, v'.b = v.b → v' = v := fun v' h' e => (h.nd k k v' v hk hk h' hv e).2
 have mem : ∀ j x, j < 64 → x ∈ putK z.k k (turnB v.b f (z.k k)) j → (j = k ∧ x = f v) ∨ (x ∈ z.k j ∧ x.b ≠ v.b) := fun j x hj hx => by
  by_cases e : j = k
  ·subst e
   rw [putK_self] at hx
   rcases turnB_mem hx with ⟨v', h', e1, e2⟩ | q
   ·rw [one v' h' e1] at e2; exact .inl ⟨rfl, e2⟩
   ·exact .inr q
  ·rw [putK_ne _ _ e] at hx
   exact .inr ⟨hx, fun c => e (h.nd j k x v hj hk hx hv c).1⟩
 refine ⟨⟨a.c0, a.c1, a.c2, a.c3, a.cs, a.ck, a.fz⟩, fun j hj => ?_, fun j t hj ht => (h.t j t hj ht).keep kk (far _ (by rw [(h.oT j t hj ht).1]; omega)), fun j x hj hx => ?_, fun g hg => (h.f g hg).keep kk (far g (by rw [hg]; omega)), h.om, h.oK, h.oT, fun j x hj hx => ?_, fun j j' x y hj hj' hx hy e => ?_, fun g hg => Nat.lt_of_lt_of_le (h.lt g hg) kk.size⟩
 ·have := (h.r j hj).keep kk (fun g hg => far g (by rw [h.oK j g hj hg]; omega))
  show OwnV _ (K j) (putK z.k k (turnB v.b f (z.k k)) j)
  by_cases e : j = k
  ·subst e
   rw [putK_self]
   have eb : (turnB v.b f (z.k j)).map VeI.b = (z.k j).map VeI.b := by
    unfold turnB
    rw [List.map_map]
    refine List.map_congr_left fun x hx => ?_
    show (if x.b = v.b then f x else x).b = x.b
    split
    ·exact hb x
    ·rfl
   unfold OwnV
   rw [eb]; exact this
  ·rw [putK_ne _ _ e]; exact this
 ·rcases mem j x hj hx with ⟨_, e⟩ | ⟨q, nb⟩
  ·rw [e]; exact hV
  ·exact (h.v j x hj q).keep kk nb
 ·rcases mem j x hj hx with ⟨_, e⟩ | ⟨q, nb⟩
  ·rw [e, hb, hmr]; exact ⟨ob.1, ob.2.1, hen⟩
  ·exact h.oV j x hj q
 ·rcases mem j x hj hx with ⟨e1, e2⟩ | ⟨q1, n1⟩
  ·rcases mem j' y hj' hy with ⟨e3, e4⟩ | ⟨q2, n2⟩
   ·exact ⟨e1.trans e3.symm, e2.trans e4.symm⟩
   ·rw [e2, hb] at e; exact absurd e.symm n2
  ·rcases mem j' y hj' hy with ⟨e3, e4⟩ | ⟨q2, n2⟩
   ·rw [e4, hb] at e; exact absurd e n1
   ·exact h.nd j j' x y hj hj' q1 q2 e
theorem VeAt.en' {v : VeI} (h : VeAt w v) (e : Option Nat) : VeAt (w.setCell ⟨v.b, 2, none⟩ (ptrO e)) { v with en := e } :=
 ⟨by rw [World.cell?_setCell_other _ _ _ _ (by first | (simp; done) | (simp; omega))]; exact h.c0, by rw [World.cell?_setCell_other _ _ _ _ (by first | (simp; done) | (simp; omega))]; exact h.c1, World.cell?_setCell_same _ _ _ h.c2, fun i => by rw [World.frozen?_setCell]; exact h.fz i⟩
theorem VeAt.val' {v : VeI} (h : VeAt w v) (n : Int) : VeAt (w.setCell ⟨v.b, 0, none⟩ (.int .i64 n)) { v with val := n } :=
 ⟨World.cell?_setCell_same _ _ _ h.c0, by rw [World.cell?_setCell_other _ _ _ _ (by first | (simp; done) | (simp; omega))]; exact h.c1, by rw [World.cell?_setCell_other _ _ _ _ (by first | (simp; done) | (simp; omega))]; exact h.c2, fun i => by rw [World.frozen?_setCell]; exact h.fz i⟩
/-- A fate is told. -/
theorem LdAt.fate (h : LdAt w m K o z) {g : Nat} (hg : o g = 81) (k : Keep (fun j => j = g) w w') {x : FtI} (hx : FtAt w' g x) : LdAt w' m K o { z with F := updF z.F g x } := by
 have far : ∀ j, o j ≠ 81 → ¬ j = g := fun j hj e => hj (by rw [e]; exact hg)
 have a := h.a.keep k (far m (by rw [h.om]; omega))
 refine ⟨⟨a.c0, a.c1, a.c2, a.c3, a.cs, a.ck, a.fz⟩, fun j hj => (h.r j hj).keep k (fun d hd => far d (by rw [h.oK j d hj hd]; omega)), fun j t hj ht => (h.t j t hj ht).keep k (far _ (by rw [(h.oT j t hj ht).1]; omega)), fun j v hj hv => (h.v j v hj hv).keep k (far _ (by rw [(h.oV j v hj hv).1]; omega)), fun d hd => ?_, h.om, h.oK, h.oT, h.oV, h.nd, fun d hd => Nat.lt_of_lt_of_le (h.lt d hd) k.size⟩
 show FtAt w' d (updF z.F g x d)
 by_cases e : d = g
 ·subst e; rw [updF_self]; exact hx
 ·rw [updF_ne _ _ e]; exact (h.f d hd).keep k e
/-- New blocks have owners. -/
theorem LdAt.fresh (h : LdAt w m K o z) (k : Keep (fun _ => False) w w') (o' : Nat → Nat) (F' : Nat → FtI) (hold : ∀ g, g < w.heap.size → o' g = o g) (hF : ∀ g, g < w.heap.size → F' g = z.F g) (hlt : ∀ g, o' g ≠ 0 → g < w'.heap.size) (hf : ∀ g, w.heap.size ≤ g → o' g = 81 → FtAt w' g (F' g)) : LdAt w' m K o' { z with F := F' } := by
 have h' := h.quiet k
 have old : ∀ g n, o g = n → n ≠ 0 → o' g = n := fun g n e hn => by rw [hold g (h.lt g (by rw [e]; exact hn))]; exact e
 refine ⟨⟨h'.a.c0, h'.a.c1, h'.a.c2, h'.a.c3, h'.a.cs, h'.a.ck, h'.a.fz⟩, h'.r, h'.t, h'.v, fun g hg => ?_, old _ _ h.om (by decide), fun j g hj hg => old _ _ (h.oK j g hj hg) (by omega), fun i t hi ht => ⟨old _ _ (h.oT i t hi ht).1 (by omega), old _ _ (h.oT i t hi ht).2 (by decide)⟩, fun j v hj hv => ⟨old _ _ (h.oV j v hj hv).1 (by decide), old _ _ (h.oV j v hj hv).2.1 (by decide), fun e he => old _ _ ((h.oV j v hj hv).2.2 e he) (by decide)⟩, h.nd, hlt⟩
 by_cases q : g < w.heap.size
 ·show FtAt w' g (F' g)
  rw [hF g q]
  exact h'.f g (by rw [← hold g q]; exact hg)
 ·exact hf g (by omega) hg
end
end Go.Proofs.Ytalkfnblnlcklaa
/- Package model as landed, in memory: New. No condition. -/
namespace Go.Proofs.Ytalkfnblnlcklaa
open Go.ChangeShapes Go.WideShapes Go.ChangeAt Go.RowKit
set_option linter.unusedVariables false
set_option linter.unusedSimpArgs false
section
variable {w : World}
def newZ0 (slots limit : Int) : LdI := ⟨slots, limit, 0, 0, fun _ => none, fun _ => [], fun _ => ⟨4, 0⟩⟩
def newL (slots limit : Int) : List Value := [.int .i64 slots, .int .u64 limit, .int .u64 0, .int .i64 0] ++ List.replicate 8 (.pointer none) ++ List.replicate 64 (.slice none 0 0)
theorem newL_at (slots limit : Int) : (newL slots limit)[0]? = some (.int .i64 slots) ∧ (newL slots limit)[1]? = some (.int .u64 limit) ∧ (newL slots limit)[2]? = some (.int .u64 0) ∧ (newL slots limit)[3]? = some (.int .i64 0) ∧ (∀ i, i < 8 → (newL slots limit)[4 + i]? = some (.pointer none)) ∧ ∀ k, k < 64 → (newL slots limit)[12 + k]? = some (.slice none 0 0) := by
 refine ⟨rfl, rfl, rfl, rfl, fun k hk => ?_, fun k hk => ?_⟩
 ·unfold newL
  rw [List.getElem?_append_left (by simp <;> omega), List.getElem?_append_right (by simp <;> omega), List.getElem?_replicate]
  simp
  omega
 ·unfold newL
  rw [List.getElem?_append_right (by simp <;> omega), List.getElem?_replicate]
  simp
  omega
set_option maxRecDepth 100000 in
theorem new_arr (slots limit : Int) : ((Try.zeroCells54.setIfInBounds 0 (.int .i64 slots)).setIfInBounds 1 (.int .u64 limit)) = (newL slots limit).toArray := by kernel_rfl
theorem newL_ld (w : World) (slots limit : Int) : ∃ o, LdAt (w.alloc (.cells (newL slots limit).toArray 54)) w.heap.size (fun _ => .slice none 0 0) o (newZ0 slots limit) ∧ ∀ g, o g ≠ 0 → g = w.heap.size := by
 obtain ⟨a0, a1, a2, a3, a4, a5⟩ := newL_at slots limit
 have hc : ∀ (i : Nat) (u : Value), (newL slots limit)[i]? = some u → (w.alloc (.cells (newL slots limit).toArray 54)).cell? ⟨w.heap.size, i, none⟩ = some u := fun i u h => by simpa using h
 refine ⟨fun g => if g = w.heap.size then 1 else 0, ⟨⟨hc _ _ a0, hc _ _ a1, hc _ _ a2, hc _ _ a3, fun i hi => hc _ _ (a4 i hi), fun k hk => hc _ _ (a5 k hk), fun i => by simp⟩, fun k hk => Own.nil, fun i t hi ht => (by cases ht), fun k v hk hv => (by cases hv), fun g hg => ?_, if_pos rfl, fun k g hk hg => (by cases hg), fun i t hi ht => (by cases ht), fun k v hk hv => (by cases hv), fun k k' u v hk hk' hu => (by cases hu), fun g hg => ?_⟩, fun g hg => ?_⟩
 ·have hg : (if g = w.heap.size then 1 else 0) = 81 := hg
  split at hg <;> cases hg
 ·have hg : (if g = w.heap.size then 1 else 0) ≠ 0 := hg
  by_cases e : g = w.heap.size
  ·rw [e]; simp
  ·rw [if_neg e] at hg; exact absurd rfl hg
 ·have hg : (if g = w.heap.size then 1 else 0) ≠ 0 := hg
  by_cases e : g = w.heap.size
  ·exact e
  ·rw [if_neg e] at hg; exact absurd rfl hg
theorem new_no (slots limit : Int) (h : confI slots limit = false) (w : World) : Calls Try.prog 5 #[cfV slots limit] w fun e w' => e = .returned (.tuple #[.pointer none, .int .i64 1]) ∧ Keep (fun _ => False) w w' := by
 have h := of_decide_eq_false h
 have k1 : Keep (fun _ => False) w (w.alloc (.cells #[.int .i64 slots, .int .u64 limit] 29)) := (Keep.refl _ _).alloc _
 unfold cfV
 by_cases h1 : slots < 1
 ·have d1 : decide (slots < 1) = true := decide_eq_true h1
  clear h
  go_enter Try.func5, Try.ntmps5; go_wp2; refine bodyPost_ret (v := .tuple #[.pointer none, .int .i64 1]) (by simp [results, Try.results5, go_sem]) rfl ?_; exact ⟨rfl, k1⟩
 ·have d1 : decide (slots < 1) = false := decide_eq_false h1
  by_cases h2 : 256 < slots
  ·have d2 : decide (256 < slots) = true := decide_eq_true h2
   clear h
   go_enter Try.func5, Try.ntmps5; go_wp2; refine bodyPost_ret (v := .tuple #[.pointer none, .int .i64 1]) (by simp [results, Try.results5, go_sem]) rfl ?_; exact ⟨rfl, k1⟩
  ·have d2 : decide (256 < slots) = false := decide_eq_false h2
   by_cases h3 : limit < 1
   ·have d3 : decide (limit < 1) = true := decide_eq_true h3
    clear h
    go_enter Try.func5, Try.ntmps5; go_wp2; refine bodyPost_ret (v := .tuple #[.pointer none, .int .i64 1]) (by simp [results, Try.results5, go_sem]) rfl ?_; exact ⟨rfl, k1⟩
   ·have d3 : decide (limit < 1) = false := decide_eq_false h3
    have d4 : decide (1099511627776 < limit) = true := by rw [decide_eq_true_iff]; omega
    clear h
    go_enter Try.func5, Try.ntmps5; go_wp2; refine bodyPost_ret (v := .tuple #[.pointer none, .int .i64 1]) (by simp [results, Try.results5, go_sem]) rfl ?_; exact ⟨rfl, k1⟩
theorem new_yes (slots limit : Int) (h : confI slots limit = true) (w : World) : Calls Try.prog 5 #[cfV slots limit] w fun e w' => ∃ m o, e = .returned (.tuple #[.pointer (some ⟨m, 0, none⟩), .int .i64 0]) ∧ w.heap.size ≤ m ∧ LdAt w' m (fun _ => .slice none 0 0) o (newZ0 slots limit) ∧ (∀ g, o g ≠ 0 → g = m) ∧ Keep (fun _ => False) w w' := by
 obtain ⟨h1, h2, h3, h4⟩ := of_decide_eq_true h
 have d1 : decide (slots < 1) = false := decide_eq_false (by omega)
 have d2 : decide (256 < slots) = false := decide_eq_false (by omega)
 have d3 : decide (limit < 1) = false := decide_eq_false (by omega)
 have d4 : decide (1099511627776 < limit) = false := decide_eq_false (by omega)
 unfold cfV
 obtain ⟨W1, e1⟩ : ∃ W1, w.alloc (.cells #[.int .i64 slots, .int .u64 limit] 29) = W1 := ⟨_, rfl⟩
 have k1 : Keep (fun _ => False) w W1 := by rw [← e1]; exact (Keep.refl _ _).alloc _
 have c0 : W1.cell? ⟨w.heap.size, 0, none⟩ = some (.int .i64 slots) := by rw [← e1]; simp
 have c1 : W1.cell? ⟨w.heap.size, 1, none⟩ = some (.int .u64 limit) := by rw [← e1]; simp
 have s1 : w.heap.size ≤ W1.heap.size := k1.size
 obtain ⟨o, ho, hg⟩ := newL_ld W1 slots limit
 have FIN := Lib.hid ho
 have K1 := Lib.hid k1
 have S1 := Lib.hid s1
 have G1 := Lib.hid hg
 clear h h1 h2 h3 h4 k1 s1 ho hg
 go_enter Try.func5, Try.ntmps5
 go_wp2
 rw [new_arr]
 refine bodyPost_ret (v := .tuple #[.pointer (some ⟨W1.heap.size, 0, none⟩), .int .i64 0]) (by simp [results, Try.results5, go_sem]) rfl ?_
 exact ⟨_, o, rfl, S1.out, FIN.out, G1.out, K1.out.trans ((Keep.refl _ _).alloc _)⟩
end
end Go.Proofs.Ytalkfnblnlcklaa
