/- Package hash, fourth part: an Index, its Store and its Chains in memory, each block with a label of its owner's (1 the Store, 2 the Index, 3 the buckets, 4 + 2 b bucket b's row, 5 + 2 key the key's Chain); what a call leaves of it. -/
import Derived.Test.YtmfpjnlplimkeaaHsX
import Derived.Test.YtmfpjnlplimkeaaChK
namespace Go.Proofs.Ytmfpjnlplimkeaa
open Go.ChangeShapes Go.WideShapes Go.ChangeAt Go.RowKit
set_option linter.unusedVariables false

/-- The keys of bucket b among n, the one that was put last first. -/
def binN (n b : Int) (l : List Nat) : List Nat := (l.filter (fun (k : Nat) => decide (bktI (k : Int) n = b))).reverse
theorem bin_binN (n b : Int) (l : List Nat) : bin n b l = (binN n b l).map (fun (k : Nat) => (k : Int)) := by unfold bin binN; rw [List.map_reverse]
/-- The entries of bucket b. -/
def esF (n : Nat) (l : List Nat) (qf : Nat → Nat) (b : Nat) : List (Nat × Nat) := (binN n b l).map (fun k => (k, qf k))
theorem binN_mem {n b : Int} {l : List Nat} {k : Nat} : k ∈ binN n b l ↔ k ∈ l ∧ bktI (k : Int) n = b := by simp [binN]
theorem binN_nodup {n b : Int} {l : List Nat} (h : l.Nodup) : (binN n b l).Nodup := by
  unfold binN List.Nodup
  rw [List.pairwise_reverse]
  exact List.Pairwise.imp (fun h e => h e.symm) (h.filter _)
theorem esF_len (n : Nat) (l : List Nat) (qf : Nat → Nat) (b : Nat) : (esF n l qf b).length ≤ l.length := by
  simp only [esF, binN, List.length_map, List.length_reverse]
  exact List.length_filter_le _ _
/-- Where a key stands among its bucket's entries. -/
theorem place_in {n b : Nat} {l : List Nat} {qf : Nat → Nat} {key : Nat} (hk : key ∈ l) (hb : bktI key n = b) :
    ∃ j : Nat, placeE key (esF n l qf b) = j ∧ j < (esF n l qf b).length ∧ (esF n l qf b).getD j (0, 0) = (key, qf key) := by
  have hm : (key, qf key) ∈ esF n l qf b := List.mem_map.2 ⟨key, binN_mem.2 ⟨hk, hb⟩, rfl⟩
  have ha : (esF n l qf b).any (fun e => e.1 == key) = true := List.any_eq_true.2 ⟨_, hm, by simp⟩
  have hl : (esF n l qf b).findIdx (fun e => e.1 == key) < (esF n l qf b).length := List.findIdx_lt_length_of_exists ⟨_, hm, by simp⟩
  refine ⟨_, if_pos ha, hl, ?_⟩
  have h1 := List.findIdx_getElem (w := hl)
  rw [List.getD_eq_getElem?_getD, List.getElem?_eq_getElem hl, Option.getD_some]
  obtain ⟨k, _, he⟩ := List.mem_map.1 (List.getElem_mem hl)
  rw [← he] at h1 ⊢
  have : k = key := by simpa using h1
  rw [this]
theorem place_out {n b : Nat} {l : List Nat} {qf : Nat → Nat} {key : Nat} (hk : key ∉ l) : placeE key (esF n l qf b) = -1 := by
  refine if_neg fun ha => ?_
  obtain ⟨e, he, h1⟩ := List.any_eq_true.1 ha
  obtain ⟨k, hk2, rfl⟩ := List.mem_map.1 he
  have : k = key := by simpa using h1
  exact hk (this ▸ (binN_mem.1 hk2).1)
def upd {α : Type} (f : Nat → α) (k : Nat) (x : α) : Nat → α := fun j => if j = k then x else f j
theorem upd_at {α : Type} {f : Nat → α} {k : Nat} {x : α} : upd f k x k = x := if_pos rfl
theorem upd_ne {α : Type} {f : Nat → α} {k j : Nat} {x : α} (h : j ≠ k) : upd f k x j = f j := if_neg h
theorem esF_upd {n : Nat} {l : List Nat} {qf : Nat → Nat} {b key q : Nat} (hk : key ∉ l) : esF n l (upd qf key q) b = esF n l qf b := by
  unfold esF
  refine List.map_congr_left fun k hm => ?_
  rw [upd_ne (fun (e : k = key) => hk (by rw [← e]; exact (binN_mem.1 hm).1))]
theorem esF_add {n : Nat} {l : List Nat} {qf : Nat → Nat} {key q bk : Nat} (hk : key ∉ l) (hb : bktI key n = bk) :
    esF n (l ++ [key]) (upd qf key q) = upd (esF n l qf) bk ((key, q) :: esF n l qf bk) := by
  funext b
  by_cases e : b = bk
  · subst e
    rw [upd_at, ← esF_upd (q := q) hk]
    simp [esF, binN, hb, upd]
  · rw [upd_ne e, ← esF_upd (q := q) hk]
    have : ¬ ((bk : Int) = (b : Int)) := by omega
    simp [esF, binN, hb, this]
theorem esF_drop {n : Nat} {l : List Nat} {qf : Nat → Nat} {key bk j : Nat} (hn : l.Nodup) (hb : bktI key n = bk) (hj : j < (esF n l qf bk).length) (he : (esF n l qf bk).getD j (0, 0) = (key, qf key)) :
    esF n (l.filter (fun k => decide (k ≠ key))) qf = upd (esF n l qf) bk ((esF n l qf bk).eraseIdx j) := by
  funext b
  have hf : binN n b (l.filter (fun k => decide (k ≠ key))) = (binN n b l).filter (fun k => decide (k ≠ key)) := by
    unfold binN
    rw [List.filter_reverse, List.filter_filter, List.filter_filter]
    congr 2
    funext k
    exact Bool.and_comm _ _
  by_cases e : b = bk
  · subst e
    rw [upd_at]
    have hl : j < (binN n b l).length := by simpa [esF] using hj
    have hjk : (binN n b l)[j] = key := by
      rw [List.getD_eq_getElem?_getD, List.getElem?_eq_getElem hj] at he
      simp only [Option.getD_some, esF, List.getElem_map, Prod.mk.injEq] at he
      exact he.1
    have h1 : (binN n b l).filter (fun k => decide (k ≠ key)) = (binN n b l).eraseIdx j := by
      have h2 := (binN_nodup (n := n) (b := b) hn).erase_eq_filter key
      have h3 : (binN n b l).erase key = (binN n b l).eraseIdx j := by
        rw [← hjk]
        exact List.erase_eq_eraseIdx_of_idxOf (List.Nodup.idxOf_getElem (binN_nodup hn) j hl)
      rw [← h3, h2]
      congr 1
      funext k
      by_cases e : k = key <;> simp [e]
    unfold esF
    rw [hf, h1, List.eraseIdx_eq_take_drop_succ, List.eraseIdx_eq_take_drop_succ, List.map_append, List.map_take, List.map_drop]
  · rw [upd_ne e]
    have hno : key ∉ binN n b l := fun hm => by have := (binN_mem.1 hm).2; omega
    unfold esF
    rw [hf, List.filter_eq_self.2 (fun k hm => by simp; exact fun x => hno (x ▸ hm))]
/-- Labels anew: what is new bears l. -/
def relab (o : Nat → Nat) (N l : Nat) : Nat → Nat := fun g => if g < N then o g else l
theorem relab_lt {o : Nat → Nat} {N l g : Nat} (h : g < N) : relab o N l g = o g := if_pos h
theorem relab_ge {o : Nat → Nat} {N l g : Nat} (h : N ≤ g) : relab o N l g = l := if_neg (by omega)
structure Stp (w : World) (p : Nat) (s : RS) (o : Nat → Nat) : Prop where
  st : ∃ SV, VAt w p SV s ∧ ∀ g, SV g → o g = 1
structure Bks (w : World) (n : Nat) (mk : Option Nat) (vs : Nat → Value) (es : Nat → List (Nat × Nat)) (o : Nat → Nat) : Prop where
  has : HasB w n mk vs es
  lab : ∀ B, mk = some B → o B = 3 ∧ B < w.heap.size ∧ ∀ b, b < n → ∀ g, (vs b).ownBlock = some g → o g = 4 + 2 * b ∧ g < w.heap.size
structure Ch1 (w : World) (p q pa qa : Nat) (y C : Int) (o : Nat → Nat) (lb : Nat) : Prop where
  ar : ∃ c, Ar w pa qa [y] c ∧ 0 ≤ c ∧ c ≤ C
  ch : ChAt w q p pa 0
  n3 : q ≠ pa
  n4 : q ≠ qa
  l0 : o q = lb
  l1 : o pa = lb
  l2 : o qa = lb
section
variable {w w' : World} {p n : Nat} {s : RS} {o o' : Nat → Nat} {T : Nat → Prop} {mk : Option Nat} {vs : Nat → Value} {es : Nat → List (Nat × Nat)} {q pa qa lb : Nat} {y C C' : Int}
theorem Stp.keep (h : Stp w p s o) (k : Keep T w w') (ho : ∀ g, g < w.heap.size → o' g = o g) (hT : ∀ g, g < w.heap.size → T g → o g ≠ 1) : Stp w' p s o' := by
  obtain ⟨SV, hv, hl⟩ := h.st
  exact ⟨SV, hv.keep k (fun g hg x => hT g (hv.lt g hg) x (hl g hg)), fun g hg => (ho g (hv.lt g hg)).trans (hl g hg)⟩
theorem Bks.keep (h : Bks w n mk vs es o) (k : Keep T w w') (ho : ∀ g, g < w.heap.size → o' g = o g) (hT : ∀ g, g < w.heap.size → T g → o g ≠ 3 ∧ ∀ b, b < n → o g ≠ 4 + 2 * b) : Bks w' n mk vs es o' :=
  ⟨h.has.keep k (fun B e x => (hT B (h.lab B e).2.1 x).1 (h.lab B e).1) (fun B e b hb g hg x => (hT g ((h.lab B e).2.2 b hb g hg).2 x).2 b hb ((h.lab B e).2.2 b hb g hg).1),
    fun B e => ⟨(ho B (h.lab B e).2.1).trans (h.lab B e).1, Nat.lt_of_lt_of_le (h.lab B e).2.1 k.size, fun b hb g hg => ⟨(ho g ((h.lab B e).2.2 b hb g hg).2).trans ((h.lab B e).2.2 b hb g hg).1, Nat.lt_of_lt_of_le ((h.lab B e).2.2 b hb g hg).2 k.size⟩⟩⟩
theorem Ch1.lts (h : Ch1 w p q pa qa y C o lb) : q < w.heap.size ∧ pa < w.heap.size ∧ qa < w.heap.size := by
  obtain ⟨c, ha, _⟩ := h.ar
  exact ⟨lt_of_cell (a := ⟨q, 0, none⟩) h.ch.c0, ha.lt, ha.ws.lt⟩
theorem Ch1.keep (h : Ch1 w p q pa qa y C o lb) (k : Keep T w w') (ho : ∀ g, g < w.heap.size → o' g = o g) (hT : ∀ g, g < w.heap.size → T g → o g ≠ lb) (hC : C ≤ C') : Ch1 w' p q pa qa y C' o' lb := by
  obtain ⟨l0, l1, l2⟩ := h.lts
  obtain ⟨c, ha, c0, c1⟩ := h.ar
  exact ⟨⟨c, ha.keep k (fun x => hT _ l1 x h.l1) (fun x => hT _ l2 x h.l2), c0, by omega⟩, h.ch.keep k (fun x => hT _ l0 x h.l0), h.n3, h.n4, (ho _ l0).trans h.l0, (ho _ l1).trans h.l1, (ho _ l2).trans h.l2⟩
end
structure Hx (w : World) (x p n : Nat) (s : RS) (h : HS) (mk : Option Nat) (vs : Nat → Value) (qf pf af o : Nat → Nat) (C : Int) : Prop where
  ok : ROk s
  hk : HOk s h
  st : Stp w p s o
  ix : Idx w x p n mk
  ox : o x = 2
  bk : Bks w n mk vs (esF n h.put qf) o
  ch : ∀ k l, h.ch k = some l → Ch1 w p (qf k) (pf k) (af k) (l.headD 0) C o (5 + 2 * k)
  n0 : 1 ≤ n
  n1 : n ≤ 64
  c0 : 0 ≤ C
section
variable {w w' : World} {x p n : Nat} {s s' : RS} {h h' : HS} {mk : Option Nat} {vs : Nat → Value} {qf pf af o : Nat → Nat} {C C' : Int} {T : Nat → Prop}
theorem Hx.quiet (a : Hx w x p n s h mk vs qf pf af o C) (k : Keep T w w') (hT : ∀ g, g < w.heap.size → T g → o g = 0) (lb : Nat) : Hx w' x p n s h mk vs qf pf af (relab o w.heap.size lb) C :=
  ⟨a.ok, a.hk, a.st.keep k (fun g hg => relab_lt hg) (fun g hg x => by have := hT g hg x; omega), a.ix.keep k (fun x => by have := hT _ a.ix.lt x; have := a.ox; omega), (relab_lt a.ix.lt).trans a.ox,
    a.bk.keep k (fun g hg => relab_lt hg) (fun g hg x => by have := hT g hg x; exact ⟨by omega, fun b _ => by omega⟩), fun j l hl => (a.ch j l hl).keep k (fun g hg => relab_lt hg) (fun g hg x => by have := hT g hg x; omega) (Int.le_refl _), a.n0, a.n1, a.c0⟩
theorem Hx.up (a : Hx w x p n s h mk vs qf pf af o C) (hC : C ≤ C') : Hx w x p n s h mk vs qf pf af o C' :=
  ⟨a.ok, a.hk, a.st, a.ix, a.ox, a.bk, fun j l hl => (a.ch j l hl).keep (Keep.refl (fun _ => False) w) (fun g hg => rfl) (by simp) hC, a.n0, a.n1, Int.le_trans a.c0 hC⟩
/-- Behind a look: the buckets are there. -/
theorem Hx.looked (a : Hx w x p n s h mk vs qf pf af o C) {B : Nat} (L : LstP x p n mk vs (esF n h.put qf) w B w') : Hx w' x p n s h (some B) vs qf pf af (relab o w.heap.size 3) C := by
  obtain ⟨i2, b2, k2, m2⟩ := L
  have ho : ∀ g, g < w.heap.size → relab o w.heap.size 3 g = o g := fun g hg => relab_lt hg
  have hT : ∀ g, g < w.heap.size → g = x → o g = 2 := fun g _ e => e ▸ a.ox
  refine ⟨a.ok, a.hk, a.st.keep k2 ho (fun g hg e => by have := hT g hg e; omega), i2, (ho _ a.ix.lt).trans a.ox, ⟨b2, fun B' e => ?_⟩, fun j l hl => (a.ch j l hl).keep k2 ho (fun g hg e => by have := hT g hg e; omega) (Int.le_refl _), a.n0, a.n1, a.c0⟩
  cases e
  refine ⟨?_, b2.lt, fun b hb g hg => ?_⟩
  · rcases m2 with e | e
    · exact (ho _ (a.bk.lab B e).2.1).trans (a.bk.lab B e).1
    · exact relab_ge e
  · cases mk with
    | none =>
      have e : vs = (fun _ => .slice none 0 0) := a.bk.has.1
      rw [e] at hg
      cases hg
    | some B0 => exact ⟨(ho _ ((a.bk.lab B0 rfl).2.2 b hb g hg).2).trans ((a.bk.lab B0 rfl).2.2 b hb g hg).1, Nat.lt_of_lt_of_le ((a.bk.lab B0 rfl).2.2 b hb g hg).2 k2.size⟩
/-- A Chain with what it stands on. -/
theorem Hx.cg (a : Hx w x p n s h mk vs qf pf af o C) {key : Nat} {l : List Int} (hl : h.ch key = some l) : ∃ SV, CG w p SV s (pf key) (af key) [l.headD 0] C (qf key) 0 ∧ ∀ g, SV g → o g = 1 := by
  obtain ⟨SV, hv, hs⟩ := a.st.st
  have c := a.ch key l hl
  exact ⟨SV, ⟨hv, a.ok, c.ar, c.ch, by simp, fun x => by have := hs _ x; have := c.l1; omega, fun x => by have := hs _ x; have := c.l2; omega, fun x => by have := hs _ x; have := c.l0; omega, c.n3, c.n4⟩, hs⟩
/-- Behind a call of a Chain's. -/
theorem Hx.chain (a : Hx w x p n s h mk vs qf pf af o C) {key : Nat} {l l' : List Int} {y : Int} {SV SV' : Nat → Prop} (hl : h.ch key = some l) (hs : ∀ g, SV g → o g = 1) (g1 : CG w' p SV' s' (pf key) (af key) [y] C' (qf key) 0) (t : Turn (pf key) (af key) SV SV' w w') (hy : y = l'.headD 0) (hC : C ≤ C') (hk' : HOk s' (h.set key l')) :
    Hx w' x p n s' (h.set key l') mk vs qf pf af (relab o w.heap.size 1) C' := by
  have c := a.ch key l hl
  have ho : ∀ g, g < w.heap.size → relab o w.heap.size 1 g = o g := fun g hg => relab_lt hg
  have hT : ∀ g, g < w.heap.size → (SV g ∨ Two (pf key) (af key) g) → o g = 1 ∨ o g = 5 + 2 * key := fun g _ e => by
    rcases e with e | e | e
    · exact .inl (hs g e)
    · exact .inr (e ▸ c.l1)
    · exact .inr (e ▸ c.l2)
  refine ⟨g1.ok, hk', ⟨SV', g1.hv, fun g hg => ?_⟩, a.ix.keep t.k (fun e => by have := hT _ a.ix.lt e; have := a.ox; omega), (ho _ a.ix.lt).trans a.ox, a.bk.keep t.k ho (fun g hg e => by have := hT g hg e; exact ⟨by omega, fun b _ => by omega⟩), fun j l2 hl2 => ?_, a.n0, a.n1, Int.le_trans a.c0 hC⟩
  · rcases t.g g hg with e | e
    · by_cases hlt : g < w.heap.size
      · exact (ho g hlt).trans (hs g e)
      · exact relab_ge (by omega)
    · exact relab_ge e
  · by_cases e : j = key
    · subst e
      have e2 : l' = l2 := by have := HS.set_at (h := h) (key := j) (l := l'); rw [this] at hl2; cases hl2; rfl
      subst e2
      obtain ⟨l0, l1, l2⟩ := c.lts
      exact ⟨by rw [← hy]; exact g1.ar, g1.ch, c.n3, c.n4, (ho _ l0).trans c.l0, (ho _ l1).trans c.l1, (ho _ l2).trans c.l2⟩
    · rw [HS.set_ne e] at hl2
      exact (a.ch j l2 hl2).keep t.k ho (fun g hg x => by have := hT g hg x; omega) hC
/-- Behind a call of the Store's. -/
theorem Hx.store (a : Hx w x p n s h mk vs qf pf af o C) {SV SV' : Nat → Prop} (hs : ∀ g, SV g → o g = 1) (hv : VAt w' p SV' s') (ok : ROk s') (hk' : HOk s' h) (t : VKeep SV SV' w w') :
    Hx w' x p n s' h mk vs qf pf af (relab o w.heap.size 1) C := by
  have ho : ∀ g, g < w.heap.size → relab o w.heap.size 1 g = o g := fun g hg => relab_lt hg
  refine ⟨ok, hk', ⟨SV', hv, fun g hg => ?_⟩, a.ix.keep t.1 (fun e => by have := hs _ e; have := a.ox; omega), (ho _ a.ix.lt).trans a.ox, a.bk.keep t.1 ho (fun g hg e => by have := hs g e; exact ⟨by omega, fun b _ => by omega⟩), fun j l2 hl2 => (a.ch j l2 hl2).keep t.1 ho (fun g hg x => by have := hs g x; omega) (Int.le_refl _), a.n0, a.n1, a.c0⟩
  rcases t.2 g hg with e | e
  · by_cases hlt : g < w.heap.size
    · exact (ho g hlt).trans (hs g e)
    · exact relab_ge (by omega)
  · exact relab_ge e
end
end Go.Proofs.Ytmfpjnlplimkeaa
