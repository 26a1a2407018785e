/- Deals that the call itself gathers: a slice of transactions, each with a slice of calls of its own. No condition but lengths of 100,000 at most. -/
import Derived.Test.YtalkfnblnlcklaaDoorAxD
import Derived.Test.YtalkfnblnlcklaaDoorPushM
import Derived.Test.YtalkfnblnlcklaaDoorMdV
import Derived.Deep.AppendLies
namespace Go.Proofs.YtalkfnblnlcklaaDoor
open Go.ChangeShapes Go.WideShapes Go.ChangeAt Go.RowKit
set_option linter.unusedVariables false
theorem dealF_one (A : Option Addr) (q c : Nat) (d : DlI) : ∀ u ∈ dealF (d, .slice A q c), u.oneCell' = true := by
  intro u hu
  simp only [dealF, List.mem_cons, List.not_mem_nil, or_false] at hu
  rcases hu with rfl | rfl | rfl | rfl | rfl | rfl <;> rfl
theorem callF_one (A : Option Addr) (q c : Nat) (z : OpI × ReI) : ∀ u ∈ callF (z, .slice A q c), u.oneCell' = true := by
  intro u hu
  simp only [callF, List.mem_cons, List.not_mem_nil, or_false] at hu
  rcases hu with rfl | rfl | rfl | rfl | rfl | rfl | rfl | rfl | rfl <;> rfl
theorem info_dl : (Tryd.prog.info? 73).map (fun i => (i.zero, i.size, i.bytes)) = some (some (.agg #[.int .i64 0, .int .i64 0, .int .i64 0, .int .u64 0, .int .u64 0, .slice none 0 0]), 6, 64) := by kernel_rfl
theorem info_cl : (Tryd.prog.info? 76).map (fun i => (i.zero, i.size, i.bytes)) = some (some (.agg #[.int .i64 0, .int .i64 0, .int .i64 0, .int .i64 0, .int .i64 0, .int .i64 0, .slice none 0 0, .int .i64 0, .int .i64 0]), 9, 88) := by kernel_rfl
/-- An append of one element of several cells, at a step of a region that draws its order. -/
theorem step_pushM1 {α : Type} {mm : Nat} {f : α → List Value} {t e : TypeId} {z : Value} {bytes : Nat} (hu : Tryd.prog.underlying t = some (.slice e)) (hinfo : (Tryd.prog.info? e).map (fun i => (i.zero, i.size, i.bytes)) = some (some z, mm, bytes))
    (hz : z.cells.size = mm) (hm : 0 < mm) (hby : bytes ≤ 128) (hf : ∀ x, (f x).length = mm) {w : World} {ops : Array Oper} {o : Oper} {a : Act} {K : Act → World → Prop} {Q : Exit → Act → World → Prop} {E : Prop} (hgd : o.guard = none) (s x : Operand)
    (ho : o.op = .call { callee := .builtin .append, args := #[s, x], argTypes := #[t, t] })
    (v : Value) (zs : List α) (hs : a.eval s = v) (hown : OwnM mm f e w v zs) (y : α) (h1 : ∀ u ∈ f y, u.oneCell' = true) (hx : a.eval x = .slice (some ⟨w.heap.size, 0, none⟩) 1 1) (hl : zs.length ≤ 100000)
    (h : ∀ g c w', OwnM mm f e w' (.slice (some ⟨g, 0, none⟩) (zs.length + 1) c) (zs ++ [y]) → Keep (fun j => v.ownBlock = some j) w w' → (v.ownBlock = some g ∨ w.heap.size ≤ g) → K (a.put o.dst (.slice (some ⟨g, 0, none⟩) (zs.length + 1) c)) w') :
    if Region.wanted o (yielded ops a.tmps) = true then Oper.wp Tryd.prog o a (w.alloc (.cells (f y).toArray e)) K Q else E := by
  obtain ⟨i0, hi0, hz0, hz1, hz2⟩ := info_parts hinfo
  refine step_append_lies _ hgd s x t ho 0 e i0 z mm bytes hu hi0 hz0 hz1 hz2 hz hm v zs.length (zs.flatMap f) hs (World.ownsRow.alloc hown _) ⟨w.heap.size, 0, none⟩ 1 1 (f y) hx (by rw [hf]; omega) (pushM_lies e w y) h1 (by decide) (by unfold maxLen; omega)
    (by have : (zs.length + 1) * bytes ≤ 100001 * 128 := Nat.mul_le_mul (by omega) hby
        omega) (Nat.zero_le _) (w.heap.size + 1) (by simp) ?_
  intro g c w' o1 gr hg _
  have e1 : OwnM mm f e w' (.slice (some ⟨g, 0, none⟩) (zs.length + 1) c) (zs ++ [y]) := by
    unfold OwnM
    simpa using o1
  have k0 := Keep.alloc (Keep.refl (fun j => v.ownBlock = some j) w) (.cells (f y).toArray e)
  exact h g c w' e1 (k0.trans ⟨gr.os, gr.tape, gr.output, gr.size, fun j hj hn => gr.block j hj (fun e => hn e.symm)⟩) (hg.imp_right (by omega))
/-- A value that is a slice. -/
def IsSl (v : Value) : Prop := ∃ A q c, v = .slice A q c
/-- The calls of the transaction at place k. -/
structure OpsOut (w : World) (o : Nat → Nat) (k : Nat) (v : Value) (cs : List (OpI × ReI)) (ys : List ((OpI × ReI) × Value)) : Prop where
  eq : ys.map Prod.fst = cs
  own : OwnM 9 callF 76 w v ys
  lab : ∀ g, v.ownBlock = some g → o g = 2 * k + 2
  pr : ∀ y ∈ ys, OwnPr w y.2 y.1.2.pairs ∧ ∀ g, y.2.ownBlock = some g → o g = 3
/-- The transactions so far; o: whose a block is (1: the row's; 2k + 2: the k-th one's calls; 3: a call's Pairs). -/
structure DO (B : Nat) (w : World) (S : Nat → Prop) (o : Nat → Nat) (u : Value) (zs : List (DlI × Value)) : Prop where
  own : OwnM 6 dealF 73 w u zs
  lab : ∀ g, u.ownBlock = some g → o g = 1
  ops : ∀ (k : Nat) z, zs[k]? = some z → ∃ ys, OpsOut w o k z.2 z.1.ops ys
  free : ∀ g, o g ≠ 0 → g < w.heap.size ∧ ¬ S g
  low : ∀ g, o g ≠ 0 → B ≤ g
def DOut (B : Nat) (w : World) (S : Nat → Prop) (u : Value) (ds : List DlI) : Prop := ∃ zs o, zs.map Prod.fst = ds ∧ DO B w S o u zs
section
variable {w w' : World} {S S' X : Nat → Prop} {o : Nat → Nat} {u v : Value} {ds : List DlI} {zs : List (DlI × Value)} {cs : List (OpI × ReI)} {ys : List ((OpI × ReI) × Value)} {k B : Nat}
theorem OpsOut.keep (h : OpsOut w o k v cs ys) (kk : Keep X w w') (hX : ∀ g, o g ≠ 0 → (o g = 2 * k + 2 ∨ o g = 3) → ¬ X g) : OpsOut w' o k v cs ys :=
  ⟨h.eq, OwnM.keep h.own kk (fun g hg => hX g (by rw [h.lab g hg]; omega) (.inl (h.lab g hg))), h.lab, fun y hy => ⟨OwnM.keep (h.pr y hy).1 kk (fun g hg => hX g (by rw [(h.pr y hy).2 g hg]; decide) (.inr ((h.pr y hy).2 g hg))), (h.pr y hy).2⟩⟩
theorem OpsOut.relab {o' : Nat → Nat} (h : OpsOut w o k v cs ys) (he : ∀ g, (o g = 2 * k + 2 ∨ o g = 3) → o' g = o g) : OpsOut w o' k v cs ys :=
  ⟨h.eq, h.own, fun g hg => (he g (.inl (h.lab g hg))).trans (h.lab g hg), fun y hy => ⟨(h.pr y hy).1, fun g hg => (he g (.inr ((h.pr y hy).2 g hg))).trans ((h.pr y hy).2 g hg)⟩⟩
theorem OpsOut.sl (h : OpsOut w o k v cs ys) : IsSl v := by
  rcases OwnM.form h.own with ⟨rfl, _⟩ | ⟨g, c, rfl, _⟩
  · exact ⟨_, _, _, rfl⟩
  · exact ⟨_, _, _, rfl⟩
theorem DO.keep (h : DO B w S o u zs) (kk : Keep X w w') (hX : ∀ g, o g ≠ 0 → ¬ X g) (hS : ∀ g, S' g → S g ∨ w.heap.size ≤ g) : DO B w' S' o u zs :=
  ⟨OwnM.keep h.own kk (fun g hg => hX g (by rw [h.lab g hg]; decide)), h.lab, fun k z hz => by
    obtain ⟨ys, q⟩ := h.ops k z hz
    exact ⟨ys, q.keep kk fun g hg _ => hX g hg⟩, fun g hg => ⟨Nat.lt_of_lt_of_le (h.free g hg).1 kk.size, fun c => by
    rcases hS g c with q | q
    · exact (h.free g hg).2 q
    · have := (h.free g hg).1; omega⟩, h.low⟩
theorem DO.quiet (h : DO B w S o u zs) (kk : Keep (fun _ => False) w w') : DO B w' S o u zs := h.keep kk (fun _ _ => id) fun _ hg => .inl hg
/-- A call of the Model's. -/
theorem DO.step (h : DO B w S o u zs) (kk : VKeep S S' w w') : DO B w' S' o u zs := h.keep kk.1 (fun g hg => (h.free g hg).2) kk.2
theorem DO.nil : DO B w S (fun _ => 0) (.slice none 0 0) [] :=
  ⟨OwnM.nil, (fun g hg => by cases hg), (fun k z hz => by simp at hz), fun g hg => absurd rfl hg, fun g hg => absurd rfl hg⟩
theorem DO.form (h : DO B w S o u zs) : ∃ A c, u = .slice A zs.length c ∧ (0 < zs.length → ∃ g, A = some ⟨g, 0, none⟩) := by
  rcases OwnM.form h.own with ⟨rfl, rfl⟩ | ⟨g, c, rfl, _⟩
  · exact ⟨none, 0, rfl, fun h => absurd h (Nat.lt_irrefl _)⟩
  · exact ⟨_, c, rfl, fun _ => ⟨g, rfl⟩⟩
/-- What is told in the end. -/
theorem DO.deals (h : DO B w S o u zs) : DealsIn w u (zs.map Prod.fst) := by
  refine ⟨zs, rfl, OwnM.lies dealF_len h.own, fun z hz => ?_⟩
  obtain ⟨k, hk⟩ := List.mem_iff_getElem?.1 hz
  obtain ⟨ys, q⟩ := h.ops k z hk
  exact ⟨ys, q.eq, OwnM.lies callF_len q.own, fun y hy => OwnM.lies prI_len (q.pr y hy).1⟩
theorem DOut.deals (h : DOut B w S u ds) : DealsIn w u ds := by
  obtain ⟨zs, o, rfl, h⟩ := h
  exact h.deals
theorem DOut.step (h : DOut B w S u ds) (kk : VKeep S S' w w') : DOut B w' S' u ds := by
  obtain ⟨zs, o, e, h⟩ := h
  exact ⟨zs, o, e, h.step kk⟩
theorem DOut.quiet (h : DOut B w S u ds) (kk : Keep (fun _ => False) w w') : DOut B w' S u ds := by
  obtain ⟨zs, o, e, h⟩ := h
  exact ⟨zs, o, e, h.quiet kk⟩
/-- One more transaction. -/
theorem DO.push (h : DO B w S o u zs) (hB : B ≤ w.heap.size) (hS : ∀ g, S g → g < w.heap.size) {d : DlI} (hd : d.ops = []) {g c : Nat} (ho : OwnM 6 dealF 73 w' (.slice (some ⟨g, 0, none⟩) (zs.length + 1) c) (zs ++ [(d, .slice none 0 0)])) (kk : Keep (fun j => u.ownBlock = some j) w w') (hg : u.ownBlock = some g ∨ w.heap.size ≤ g) :
    DO B w' S (fun j => if j = g then 1 else o j) (.slice (some ⟨g, 0, none⟩) (zs.length + 1) c) (zs ++ [(d, .slice none 0 0)]) := by
  have og : ∀ j, o j ≠ 0 → o j ≠ 1 → j ≠ g := fun j hj h1 e => by
    rcases hg with q | q
    · rw [e, h.lab g q] at h1; exact h1 rfl
    · have := (h.free j hj).1; omega
  refine ⟨ho, fun j hj => by cases hj; exact if_pos rfl, fun k z hz => ?_, fun j hj => ?_, fun j hj => ?_⟩
  · rw [List.getElem?_append] at hz
    split at hz
    · obtain ⟨ys, q⟩ := h.ops k z hz
      exact ⟨ys, (q.keep kk fun j hj hl c => by have := h.lab j c; omega).relab fun j hl => if_neg (og j (by omega) (by omega))⟩
    · have := List.mem_singleton.1 (List.mem_of_getElem? hz)
      subst this
      exact ⟨[], hd.symm, OwnM.nil, (fun g hg => by cases hg), (fun y hy => by cases hy)⟩
  · have hj : (if j = g then 1 else o j) ≠ 0 := hj
    by_cases e : j = g
    · subst e
      have lt : j < w'.heap.size := OwnM.lt ho rfl
      refine ⟨lt, fun c => ?_⟩
      rcases hg with q | q
      · exact (h.free j (by rw [h.lab j q]; decide)).2 c
      · have := hS j c; omega
    · rw [if_neg e] at hj
      exact ⟨Nat.lt_of_lt_of_le (h.free j hj).1 kk.size, (h.free j hj).2⟩
  · have hj : (if j = g then 1 else o j) ≠ 0 := hj
    by_cases e : j = g
    · subst e
      rcases hg with q | q
      · exact h.low j (by rw [h.lab j q]; decide)
      · omega
    · rw [if_neg e] at hj
      exact h.low j hj
/-- A transaction's cell is turned. -/
theorem DO.put {g n c j : Nat} (h : DO B w S o (.slice (some ⟨g, 0, none⟩) n c) zs) {z z' : DlI × Value} (hz : zs[k]? = some z) (hj : j < 6) {x : Value} (he : dealF z' = (dealF z).set j x) (h2 : ∃ ys, OpsOut w o k z'.2 z'.1.ops ys) :
    DO B (w.setCell ⟨g, k * 6 + j, none⟩ x) S o (.slice (some ⟨g, 0, none⟩) n c) (zs.set k z') := by
  obtain ⟨hk, ez⟩ := List.getElem?_eq_some_iff.1 hz
  have kk := keep_one w ⟨g, k * 6 + j, none⟩ x
  have og := h.lab g rfl
  refine ⟨OwnM.set dealF_len h.own k j hk hj x z' (by rw [ez]; exact he), h.lab, fun i y hy => ?_, fun i hi => ⟨Nat.lt_of_lt_of_le (h.free i hi).1 kk.size, (h.free i hi).2⟩, h.low⟩
  rw [List.getElem?_set] at hy
  have fin : ∀ (i : Nat) v cs, (∃ ys, OpsOut w o i v cs ys) → ∃ ys, OpsOut (w.setCell ⟨g, k * 6 + j, none⟩ x) o i v cs ys := fun i v cs ⟨ys, q⟩ => ⟨ys, q.keep kk fun b hb hl e => by have e : b = g := e; rw [e, og] at hl; omega⟩
  by_cases e : k = i
  · subst e
    rw [if_pos rfl, if_pos hk] at hy
    cases hy
    exact fin _ _ _ h2
  · rw [if_neg e] at hy
    exact fin _ _ _ (h.ops i y hy)
/-- What the cells of one transaction hold. -/
theorem DO.cell {g n c : Nat} (h : DO B w S o (.slice (some ⟨g, 0, none⟩) n c) zs) {z : DlI × Value} (hz : zs[k]? = some z) {j : Nat} (hj : j < 6) {x : Value} (hx : (dealF z)[j]? = some x) : w.cell? ⟨g, k * 6 + j, none⟩ = some x := by
  obtain ⟨hk, ez⟩ := List.getElem?_eq_some_iff.1 hz
  rw [OwnM.cell dealF_len h.own k j hk hj, ez]
  exact hx
theorem DO.fz {g n c : Nat} (h : DO B w S o (.slice (some ⟨g, 0, none⟩) n c) zs) (i : Nat) : w.frozen? ⟨g, i, none⟩ = false := OwnM.free h.own i
/-- One more call of a transaction. -/
theorem DO.call {g n c : Nat} (h : DO B w S o (.slice (some ⟨g, 0, none⟩) n c) zs) (hS : ∀ g, S g → g < w.heap.size) {z : DlI × Value} (hz : zs[k]? = some z) (q : OpsOut w o k z.2 z.1.ops ys) {y : (OpI × ReI) × Value} (hp : OwnPr w y.2 y.1.2.pairs) (hB : B ≤ w.heap.size) (hf : ∀ b, y.2.ownBlock = some b → o b = 0 ∧ ¬ S b ∧ B ≤ b)
    {g2 c2 : Nat} (ho : OwnM 9 callF 76 w' (.slice (some ⟨g2, 0, none⟩) (ys.length + 1) c2) (ys ++ [y])) (kk : Keep (fun j => z.2.ownBlock = some j) w w') (hg : z.2.ownBlock = some g2 ∨ w.heap.size ≤ g2) {d : DlI} (hd : d = { z.1 with ops := z.1.ops ++ [y.1] }) :
    (∃ x, w'.cell? ⟨g, k * 6 + 5, none⟩ = some x) ∧ w'.frozen? ⟨g, k * 6 + 5, none⟩ = false ∧ ∃ o', DO B (w'.setCell ⟨g, k * 6 + 5, none⟩ (.slice (some ⟨g2, 0, none⟩) (ys.length + 1) c2)) S o' (.slice (some ⟨g, 0, none⟩) n c) (zs.set k (d, .slice (some ⟨g2, 0, none⟩) (ys.length + 1) c2)) := by
  have og := h.lab g rfl
  have lg := (h.free g (by rw [og]; decide)).1
  have ng : ¬ z.2.ownBlock = some g := fun e => by rw [q.lab g e] at og; omega
  have c5 := h.cell hz (j := 5) (by decide) (x := z.2) rfl
  have z0 : ∀ b, y.2.ownBlock = some b → b < w.heap.size := fun b hb => OwnM.lt hp hb
  have bg : ∀ b, y.2.ownBlock = some b → b ≠ g2 := fun b hb e => by
    rcases hg with r | r
    · have := q.lab g2 r; have := (hf b hb).1; rw [e] at this; omega
    · have := z0 b hb; omega
  refine ⟨⟨z.2, kk.cell c5 ng⟩, (kk.frozen (a := ⟨g, k * 6 + 5, none⟩) lg ng).trans (h.fz _), fun j => if j = g2 then 2 * k + 2 else if y.2.ownBlock = some j then 3 else o j, ?_⟩
  have old : ∀ j, o j ≠ 0 → o j ≠ 2 * k + 2 → (if j = g2 then 2 * k + 2 else if y.2.ownBlock = some j then 3 else o j) = o j := fun j hj hl => by
    have e1 : j ≠ g2 := fun e => by
      rcases hg with r | r
      · exact hl (e ▸ q.lab g2 r)
      · have := (h.free j hj).1; omega
    rw [if_neg e1, if_neg (fun e => hj (hf j e).1)]
  have kc := kk.cell c5 ng
  have kset := keep_one w' ⟨g, k * 6 + 5, none⟩ (.slice (some ⟨g2, 0, none⟩) (ys.length + 1) c2)
  obtain ⟨hk, ez⟩ := List.getElem?_eq_some_iff.1 hz
  have own' := OwnM.keep h.own kk (fun b hb e => by cases hb; exact ng e)
  have lg2 : g2 ≠ g := fun e => by
    rcases hg with r | r
    · exact ng (e ▸ r)
    · omega
  refine ⟨OwnM.set dealF_len own' k 5 hk (by decide) _ _ (by rw [ez, hd]; rfl), fun b hb => by cases hb; exact (old g (by rw [og]; decide) (by omega)).trans og, fun i x hx => ?_, fun j hj => ?_, fun j hj => ?_⟩
  · rw [List.getElem?_set] at hx
    by_cases e : k = i
    · subst e
      rw [if_pos rfl, if_pos hk] at hx
      cases hx
      refine ⟨ys ++ [y], ⟨by rw [List.map_append, q.eq, hd]; rfl, OwnM.keep ho kset (fun b hb e => by cases hb; exact lg2 e), fun b hb => by cases hb; exact if_pos rfl, fun p hp' => ?_⟩⟩
      rcases List.mem_append.1 hp' with m | m
      · obtain ⟨p1, p2⟩ := q.pr p m
        refine ⟨OwnM.keep (OwnM.keep p1 kk (fun b hb e => by have := p2 b hb; have := q.lab b e; omega)) kset (fun b hb e => by have e : b = g := e; have := p2 b hb; rw [e, og] at this; omega), fun b hb => ?_⟩
        rw [old b (by rw [p2 b hb]; decide) (by rw [p2 b hb]; omega)]
        exact p2 b hb
      · rw [List.mem_singleton.1 m]
        refine ⟨OwnM.keep (OwnM.keep hp kk (fun b hb e => by have := (hf b hb).1; rw [q.lab b e] at this; omega)) kset (fun b hb e => by have e : b = g := e; have := (hf b hb).1; rw [e, og] at this; omega), fun b hb => ?_⟩
        rw [if_neg (bg b hb), if_pos hb]
    · rw [if_neg e] at hx
      obtain ⟨ys', r⟩ := h.ops i x hx
      refine ⟨ys', (((r.keep kk fun b hb hl e => by have := q.lab b e; omega).keep kset fun b hb hl e => by have e : b = g := e; rw [e, og] at hl; omega)).relab fun b hl => old b (by omega) (by omega)⟩
  · have hj : (if j = g2 then 2 * k + 2 else if y.2.ownBlock = some j then 3 else o j) ≠ 0 := hj
    have sz : w.heap.size ≤ (w'.setCell ⟨g, k * 6 + 5, none⟩ (.slice (some ⟨g2, 0, none⟩) (ys.length + 1) c2)).heap.size := Nat.le_trans kk.size kset.size
    by_cases e : j = g2
    · subst e
      refine ⟨Nat.lt_of_lt_of_le (OwnM.lt ho rfl) kset.size, fun c => ?_⟩
      rcases hg with r | r
      · exact (h.free j (by rw [q.lab j r]; omega)).2 c
      · have := hS j c; omega
    · rw [if_neg e] at hj
      by_cases e2 : y.2.ownBlock = some j
      · exact ⟨Nat.lt_of_lt_of_le (z0 j e2) sz, (hf j e2).2.1⟩
      · rw [if_neg e2] at hj
        exact ⟨Nat.lt_of_lt_of_le (h.free j hj).1 sz, (h.free j hj).2⟩
  · have hj : (if j = g2 then 2 * k + 2 else if y.2.ownBlock = some j then 3 else o j) ≠ 0 := hj
    by_cases e : j = g2
    · subst e
      rcases hg with r | r
      · exact h.low j (by rw [q.lab j r]; omega)
      · omega
    · rw [if_neg e] at hj
      by_cases e2 : y.2.ownBlock = some j
      · exact (hf j e2).2.2
      · rw [if_neg e2] at hj
        exact h.low j hj
end
end Go.Proofs.YtalkfnblnlcklaaDoor
