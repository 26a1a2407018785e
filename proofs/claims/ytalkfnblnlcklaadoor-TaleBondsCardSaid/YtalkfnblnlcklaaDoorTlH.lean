/- Package tale: events in memory, a history in memory: blocks with owners' labels. No condition. -/
import Derived.Test.YtalkfnblnlcklaaDoorTlI
import Derived.Test.YtalkfnblnlcklaaDoorAxD
import Derived.Test.YtalkfnblnlcklaaDoorPushM
import Derived.Test.YtalkfnblnlcklaaDoorOnce
namespace Go.Proofs.YtalkfnblnlcklaaDoor
open Go.ChangeShapes Go.WideShapes Go.ChangeAt Go.RowKit
set_option linter.unusedVariables false
set_option linter.unusedSimpArgs false
def evF (z : EvI × Value) : List Value := [.int .i64 z.1.kind, .int .i64 z.1.t, .int .u64 z.1.n, .int .i64 z.1.o.kind, .int .i64 z.1.o.key, .int .i64 z.1.o.hi, .int .i64 z.1.o.val, .int .i64 z.1.r.e, .int .i64 z.1.r.val, z.2, .int .i64 z.1.r.over, .int .i64 z.1.r.reason]
theorem evF_len (z : EvI × Value) : (evF z).length = 12 := rfl
theorem evF_one (A : Option Addr) (q c : Nat) (v : EvI) : ∀ u ∈ evF (v, .slice A q c), u.oneCell' = true := by
  intro u hu
  simp only [evF, List.mem_cons, List.not_mem_nil, or_false] at hu
  rcases hu with rfl | rfl | rfl | rfl | rfl | rfl | rfl | rfl | rfl | rfl | rfl | rfl <;> rfl
/-- An event as a value; u tells its Pairs. -/
def evV (v : EvI) (u : Value) : Value := .agg #[.int .i64 v.kind, .int .i64 v.t, .int .u64 v.n, .int .i64 v.o.kind, .int .i64 v.o.key, .int .i64 v.o.hi, .int .i64 v.o.val, .int .i64 v.r.e, .int .i64 v.r.val, u, .int .i64 v.r.over, .int .i64 v.r.reason]
/-- The slice value v reads as these events. -/
def EvsIn (w : World) (v : Value) (es : List EvI) : Prop := ∃ zs : List (EvI × Value), zs.map Prod.fst = es ∧ Lies 12 evF w v zs ∧ ∀ z ∈ zs, LPr w z.2 z.1.r.pairs
/-- An event's twelve cells. -/
structure Ev12 (w : World) (b off : Nat) (v : EvI) (u : Value) : Prop where
  c0 : w.cell? ⟨b, off, none⟩ = some (.int .i64 v.kind)
  c1 : w.cell? ⟨b, off + 1, none⟩ = some (.int .i64 v.t)
  c2 : w.cell? ⟨b, off + 2, none⟩ = some (.int .u64 v.n)
  c3 : w.cell? ⟨b, off + 3, none⟩ = some (.int .i64 v.o.kind)
  c4 : w.cell? ⟨b, off + 4, none⟩ = some (.int .i64 v.o.key)
  c5 : w.cell? ⟨b, off + 5, none⟩ = some (.int .i64 v.o.hi)
  c6 : w.cell? ⟨b, off + 6, none⟩ = some (.int .i64 v.o.val)
  c7 : w.cell? ⟨b, off + 7, none⟩ = some (.int .i64 v.r.e)
  c8 : w.cell? ⟨b, off + 8, none⟩ = some (.int .i64 v.r.val)
  c9 : w.cell? ⟨b, off + 9, none⟩ = some u
  c10 : w.cell? ⟨b, off + 10, none⟩ = some (.int .i64 v.r.over)
  c11 : w.cell? ⟨b, off + 11, none⟩ = some (.int .i64 v.r.reason)
section
variable {w w' : World} {v : Value} {es : List EvI} {S : Nat → Prop}
theorem Ev12.keep {b off : Nat} {x : EvI} {u : Value} (h : Ev12 w b off x u) (k : Keep S w w') (hn : ¬ S b) : Ev12 w' b off x u :=
  ⟨k.cell h.c0 hn, k.cell h.c1 hn, k.cell h.c2 hn, k.cell h.c3 hn, k.cell h.c4 hn, k.cell h.c5 hn, k.cell h.c6 hn, k.cell h.c7 hn, k.cell h.c8 hn, k.cell h.c9 hn, k.cell h.c10 hn, k.cell h.c11 hn⟩
theorem EvsIn.keep (h : EvsIn w v es) (k : Keep (fun _ => False) w w') : EvsIn w' v es := by
  obtain ⟨zs, e, l, q⟩ := h
  exact ⟨zs, e, l.keep k, fun z hz => (q z hz).keep k⟩
theorem EvsIn.form (h : EvsIn w v es) : ∃ A c, v = .slice A es.length c ∧ es.length ≤ c ∧ c ≤ maxLen ∧ (0 < es.length → ∃ b off, A = some ⟨b, off, none⟩ ∧ b < w.heap.size ∧ ∀ (j : Nat) (x : EvI), es[j]? = some x → ∃ A2 c2, LPr w (.slice A2 x.r.pairs.length c2) x.r.pairs ∧ Ev12 w b (off + j * 12) x (.slice A2 x.r.pairs.length c2)) := by
  obtain ⟨zs, rfl, ⟨A, c, rfl, h1, h2, h3, h4⟩, q⟩ := h
  rw [List.length_map]
  refine ⟨A, c, rfl, h1, h2, fun h0 => ?_⟩
  obtain ⟨b, off, rfl, hb, hc⟩ := h4 h0
  refine ⟨b, off, rfl, hb, fun j x hx => ?_⟩
  rw [List.getElem?_map, Option.map_eq_some_iff] at hx
  obtain ⟨z, hz, rfl⟩ := hx
  have L := q z (List.mem_of_getElem? hz)
  obtain ⟨A2, c2, e, _⟩ := L.form
  have g := hc j z hz
  rw [e] at L
  refine ⟨A2, c2, L, g 0 _ rfl, g 1 _ rfl, g 2 _ rfl, g 3 _ rfl, g 4 _ rfl, g 5 _ rfl, g 6 _ rfl, g 7 _ rfl, g 8 _ rfl, ?_, g 10 _ rfl, g 11 _ rfl⟩
  rw [← e]; exact g 9 _ rfl
theorem EvsIn.nil : EvsIn w (.slice none 0 0) [] := ⟨[], rfl, Lies.nil, (fun z hz => by cases hz)⟩
theorem EvsIn.take {A : Option Addr} {n c : Nat} (h : EvsIn w (.slice A n c) es) (i : Nat) (hi : i ≤ n) : EvsIn w (.slice A i c) (es.take i) := by
  obtain ⟨zs, e, l, q⟩ := h
  exact ⟨zs.take i, by rw [List.map_take, e], l.take i hi, fun z hz => q z (List.mem_of_mem_take hz)⟩
theorem EvsIn.drop {A A' : Option Addr} {n c : Nat} (h : EvsIn w (.slice A n c) es) (i : Nat) (hi : i ≤ n) (hA : A' = if c = i then A else A.map fun a => a.add (i * 12)) : EvsIn w (.slice A' (n - i) (c - i)) (es.drop i) := by
  obtain ⟨zs, e, l, q⟩ := h
  exact ⟨zs.drop i, by rw [List.map_drop, e], l.drop i hi hA, fun z hz => q z (List.mem_of_mem_drop hz)⟩
theorem ev_box (w : World) (x : EvI) (u : Value) : ∃ W, w.alloc (.cells #[.int .i64 x.kind, .int .i64 x.t, .int .u64 x.n, .int .i64 x.o.kind, .int .i64 x.o.key, .int .i64 x.o.hi, .int .i64 x.o.val, .int .i64 x.r.e, .int .i64 x.r.val, u, .int .i64 x.r.over, .int .i64 x.r.reason] 30) = W ∧ Ev12 W w.heap.size 0 x u ∧ Keep (fun _ => False) w W :=
  ⟨_, rfl, ⟨by simp, by simp, by simp, by simp, by simp, by simp, by simp, by simp, by simp, by simp, by simp, by simp⟩, (Keep.refl _ _).alloc _⟩
end
def ptrV (b : Nat) : Value := .pointer (some ⟨b, 0, none⟩)
def pF (b : Nat) : List Value := [ptrV b]
theorem pF_len (b : Nat) : (pF b).length = 1 := rfl
theorem pF_one (b : Nat) : ∀ u ∈ pF b, u.oneCell' = true := by
  intro u hu
  simp only [pF, List.mem_cons, List.not_mem_nil, or_false] at hu
  subst hu
  rfl
theorem info_tn : (Tryd.prog.info? 56).map (fun i => (i.zero, i.size, i.bytes)) = some (some (.pointer none), 1, 8) := by kernel_rfl
abbrev OwnT (w : World) (v : Value) (L : List Nat) : Prop := OwnM 1 pF 56 w v L
/-- Whether it has ended, as its Once has it. -/
def dnT (s : Int) : Int := if s = 1 then 0 else 1
/-- A transaction's cells at block b; u: its bonds' slice. -/
structure TnAt (w : World) (b : Nat) (t : TnI) (u : Value) : Prop where
  c0 : w.cell? ⟨b, 0, none⟩ = some (.int .i64 t.level)
  c1 : w.cell? ⟨b, 1, none⟩ = some (.int .u64 t.start)
  c2 : w.cell? ⟨b, 2, none⟩ = some (.int .u64 t.stop)
  c3 : w.cell? ⟨b, 3, none⟩ = some u
  c4 : w.cell? ⟨b, 4, none⟩ = some (.int .u32 (dnT t.state))
  c5 : w.cell? ⟨b, 5, none⟩ = some (.int .i32 0)
  c7 : w.cell? ⟨b, 7, none⟩ = some (.int .i64 t.state)
  fz : ∀ i, w.frozen? ⟨b, i, none⟩ = false
theorem TnAt.keep {w w' : World} {b : Nat} {t : TnI} {u : Value} {S : Nat → Prop} (h : TnAt w b t u) (k : Keep S w w') (hn : ¬ S b) : TnAt w' b t u :=
  ⟨k.cell h.c0 hn, k.cell h.c1 hn, k.cell h.c2 hn, k.cell h.c3 hn, k.cell h.c4 hn, k.cell h.c5 hn, k.cell h.c7 hn, fun i => (k.frozen (a := ⟨b, i, none⟩) (lt_of_cell (a := ⟨b, 0, none⟩) h.c0) hn).trans (h.fz i)⟩
/-- One transaction of a history: its block, its bonds. -/
structure TnIn (w : World) (o : Nat → Nat) (B : List Nat) (i b : Nat) (t : TnI) (u : Value) : Prop where
  ce : TnAt w b t u
  bo : OwnT w u (t.bonds.map fun j => B.getD j 0)
  ob : o b = 3 + 2 * i
  ou : ∀ g, u.ownBlock = some g → o g = 4 + 2 * i
  lt : ∀ j ∈ t.bonds, j < B.length
/-- A history at block h: B the transactions' blocks, va their row, K events behind it. -/
structure HsAt (w : World) (h : Nat) (o : Nat → Nat) (B : List Nat) (va : Value) (K : Nat) (z : HsI) : Prop where
  c0 : w.cell? ⟨h, 0, none⟩ = some va
  c1 : w.cell? ⟨h, 1, none⟩ = some (.int .u64 z.last)
  fz : ∀ i, w.frozen? ⟨h, i, none⟩ = false
  ow : OwnT w va B
  len : B.length = z.tx.length
  tx : ∀ (i : Nat) b, B[i]? = some b → ∃ u, TnIn w o B i b (z.at' i) u
  oh : o h = 1
  oa : ∀ g, va.ownBlock = some g → o g = 2
  fr : ∀ g, o g ≠ 0 → g < w.heap.size
  nb : z.tx.length ≤ K ∧ ∀ t ∈ z.tx, t.bonds.length ≤ K
section
variable {w w' : World} {h K i b : Nat} {o o' : Nat → Nat} {B : List Nat} {va u : Value} {z : HsI} {t : TnI} {S X : Nat → Prop}
theorem TnIn.keep (q : TnIn w o B i b t u) (k : Keep X w w') (hX : ∀ g, (o g = 3 + 2 * i ∨ o g = 4 + 2 * i) → ¬ X g) : TnIn w' o B i b t u :=
  ⟨q.ce.keep k (hX b (.inl q.ob)), OwnM.keep q.bo k (fun g hg => hX g (.inr (q.ou g hg))), q.ob, q.ou, q.lt⟩
theorem TnIn.relab (q : TnIn w o B i b t u) (he : ∀ g, (o g = 3 + 2 * i ∨ o g = 4 + 2 * i) → o' g = o g) : TnIn w o' B i b t u :=
  ⟨q.ce, q.bo, (he b (.inl q.ob)).trans q.ob, fun g hg => (he g (.inr (q.ou g hg))).trans (q.ou g hg), q.lt⟩
theorem HsAt.keep (H : HsAt w h o B va K z) (k : Keep X w w') (hX : ∀ g, o g ≠ 0 → ¬ X g) : HsAt w' h o B va K z :=
  ⟨k.cell H.c0 (hX h (by rw [H.oh]; decide)), k.cell H.c1 (hX h (by rw [H.oh]; decide)), fun i => (k.frozen (a := ⟨h, i, none⟩) (H.fr h (by rw [H.oh]; decide)) (hX h (by rw [H.oh]; decide))).trans (H.fz i), OwnM.keep H.ow k (fun g hg => hX g (by rw [H.oa g hg]; decide)), H.len, fun i b hb => by
    obtain ⟨u, q⟩ := H.tx i b hb
    exact ⟨u, q.keep k fun g hg => hX g (by omega)⟩, H.oh, H.oa, fun g hg => Nat.lt_of_lt_of_le (H.fr g hg) k.size, H.nb⟩
theorem HsAt.quiet (H : HsAt w h o B va K z) (k : Keep (fun _ => False) w w') : HsAt w' h o B va K z := H.keep k fun _ _ => id
theorem HsAt.up (H : HsAt w h o B va K z) {K' : Nat} (hK : K ≤ K') : HsAt w h o B va K' z := ⟨H.c0, H.c1, H.fz, H.ow, H.len, H.tx, H.oh, H.oa, H.fr, Nat.le_trans H.nb.1 hK, fun t ht => Nat.le_trans (H.nb.2 t ht) hK⟩
/-- The last time is turned. -/
theorem HsAt.draw (H : HsAt w h o B va K z) (n : Int) : HsAt (w.setCell ⟨h, 1, none⟩ (.int .u64 n)) h o B va K { z with last := n } := by
  have k := keep_one w ⟨h, 1, none⟩ (.int .u64 n)
  have no : ∀ g, o g ≠ 0 → o g ≠ 1 → ¬ g = h := fun g _ h1 e => h1 (e ▸ H.oh)
  refine ⟨(World.cell?_setCell_other _ _ _ _ (by simp)).trans H.c0, World.cell?_setCell_same _ _ _ H.c1, fun i => by rw [World.frozen?_setCell]; exact H.fz i, OwnM.keep H.ow k (fun g hg => no g (by rw [H.oa g hg]; decide) (by rw [H.oa g hg]; decide)), H.len, fun i b hb => ?_, H.oh, H.oa, fun g hg => Nat.lt_of_lt_of_le (H.fr g hg) k.size, H.nb⟩
  obtain ⟨u, q⟩ := H.tx i b hb
  exact ⟨u, q.keep k fun g hg => no g (by omega) (by omega)⟩
theorem HsAt.at_b (H : HsAt w h o B va K z) (hi : i < z.tx.length) : ∃ b, B[i]? = some b := ⟨_, List.getElem?_eq_getElem (by rw [H.len]; exact hi)⟩
theorem put_at {j : Nat} (hi : i < z.tx.length) : (z.put i t).at' j = if j = i then t else z.at' j := by
  show (z.tx.set i t).getD j _ = _
  unfold HsI.at'
  rw [List.getD_eq_getElem?_getD, List.getD_eq_getElem?_getD, List.getElem?_set]
  by_cases e : i = j
  · subst e; rw [if_pos rfl, if_pos hi, if_pos rfl]; rfl
  · rw [if_neg e, if_neg (fun c => e c.symm)]
/-- One transaction is turned, its bonds' slice stays; blocks that are nobody's may turn. -/
theorem HsAt.turn (H : HsAt w h o B va K z) (hb : B[i]? = some b) (k : Keep X w w') (hX : ∀ g, X g → g = b ∨ o g = 0) (ht : t.bonds = (z.at' i).bonds) (hc : ∀ u, TnAt w b (z.at' i) u → TnAt w' b t u) : HsAt w' h o B va K (z.put i t) := by
  obtain ⟨u, q⟩ := H.tx i b hb
  have hi : i < z.tx.length := by rw [← H.len]; exact (List.getElem?_eq_some_iff.1 hb).1
  have no : ∀ g, o g ≠ 0 → o g ≠ 3 + 2 * i → ¬ X g := fun g h0 h1 e => by
    rcases hX g e with c | c
    · exact h1 (c ▸ q.ob)
    · exact h0 c
  refine ⟨k.cell H.c0 (no h (by rw [H.oh]; decide) (by rw [H.oh]; omega)), k.cell H.c1 (no h (by rw [H.oh]; decide) (by rw [H.oh]; omega)), fun j => (k.frozen (a := ⟨h, j, none⟩) (H.fr h (by rw [H.oh]; decide)) (no h (by rw [H.oh]; decide) (by rw [H.oh]; omega))).trans (H.fz j), OwnM.keep H.ow k (fun g hg => no g (by rw [H.oa g hg]; decide) (by rw [H.oa g hg]; omega)), by rw [H.len, put_len], fun j c hj => ?_, H.oh, H.oa, fun g hg => Nat.lt_of_lt_of_le (H.fr g hg) k.size, by rw [put_len]; exact H.nb.1, fun x hx => ?_⟩
  · rw [put_at hi]
    by_cases e : j = i
    · subst e
      rw [if_pos rfl]
      rw [hb] at hj
      cases hj
      exact ⟨u, hc u q.ce, by rw [ht]; exact OwnM.keep q.bo k (fun g hg => no g (by rw [q.ou g hg]; omega) (by rw [q.ou g hg]; omega)), q.ob, q.ou, by rw [ht]; exact q.lt⟩
    · rw [if_neg e]
      obtain ⟨u', q'⟩ := H.tx j c hj
      exact ⟨u', q'.keep k fun g hg => no g (by omega) (by omega)⟩
  · rcases List.mem_or_eq_of_mem_set hx with c | c
    · exact H.nb.2 x c
    · rw [c, ht]
      exact H.nb.2 _ (List.mem_of_getElem? (at_lt hi))
/-- A new history. -/
theorem hs_new (w : World) (T : TypeId) : HsAt (w.alloc (.cells #[.slice none 0 0, .int .u64 0] T)) w.heap.size (fun j => if j = w.heap.size then 1 else 0) [] (.slice none 0 0) 0 hs0 := by
  refine ⟨by simp, by simp; rfl, fun i => by simp, OwnM.nil, rfl, (fun i b hb => by simp at hb), if_pos rfl, (fun g hg => by cases hg), fun g hg => ?_, Nat.le_refl _, (fun t ht => by cases ht)⟩
  by_cases e : g = w.heap.size
  · rw [e]; simp
  · have hg : (if g = w.heap.size then 1 else 0) ≠ 0 := hg
    rw [if_neg e] at hg
    exact absurd rfl hg
end
end Go.Proofs.YtalkfnblnlcklaaDoor
