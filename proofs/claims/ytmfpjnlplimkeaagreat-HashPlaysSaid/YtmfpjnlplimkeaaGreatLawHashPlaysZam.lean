/- Several texts, one behind the other: HsY, HsF. -/
import Derived.Test.YtmfpjnlplimkeaaGreatLawHashPlaysZal
import Derived.Test.YtmfpjnlplimkeaaGreatLawHashPlaysZaj
import Derived.Deep.RegionHeld3
/- Package hash, fourth part: an Index, its Store and its Chains in memory, each block with a label of its owner's (1 the Store, 2 the Index, 3 the buckets, 4 + 2 b bucket b's row, 5 + 2 key the key's Chain); what a call leaves of it. -/
namespace Go.Proofs.YtmfpjnlplimkeaaGreat
open Go.ChangeShapes Go.WideShapes Go.ChangeAt Go.RowKit
set_option linter.unusedVariables false

/-- The keys of bucket b among n, the one that was put last first. -/
def binN (n b : Int) (l : List Nat) : List Nat := (l.filter (fun (k : Nat) => decide (bktI (k : Int) n = b))).reverse
theorem bin_binN (n b : Int) (l : List Nat) : bin n b l = (binN n b l).map (fun (k : Nat) => (k : Int)) := by unfold bin binN; rw [List.map_reverse]
/-- The entries of bucket b. -/
def esF (n : Nat) (l : List Nat) (qf : Nat → Nat) (b : Nat) : List (Nat × Nat) := (binN n b l).map (fun k => (k, qf k))
theorem binN_mem {n b : Int} {l : List Nat} {k : Nat} : k ∈ binN n b l ↔ k ∈ l ∧ bktI (k : Int) n = b := by simp [binN]
theorem binN_nodup {n b : Int} {l : List Nat} (h : l.Nodup) : (binN n b l).Nodup := by
  unfold binN List.Nodup
  rw [List.pairwise_reverse]
  exact List.Pairwise.imp (fun h e => h e.symm) (h.filter _)
theorem esF_len (n : Nat) (l : List Nat) (qf : Nat → Nat) (b : Nat) : (esF n l qf b).length ≤ l.length := by
  simp only [esF, binN, List.length_map, List.length_reverse]
  exact List.length_filter_le _ _
/-- Where a key stands among its bucket's entries. -/
theorem place_in {n b : Nat} {l : List Nat} {qf : Nat → Nat} {key : Nat} (hk : key ∈ l) (hb : bktI key n = b) :
    ∃ j : Nat, placeE key (esF n l qf b) = j ∧ j < (esF n l qf b).length ∧ (esF n l qf b).getD j (0, 0) = (key, qf key) := by
  have hm : (key, qf key) ∈ esF n l qf b := List.mem_map.2 ⟨key, binN_mem.2 ⟨hk, hb⟩, rfl⟩
  have ha : (esF n l qf b).any (fun e => e.1 == key) = true := List.any_eq_true.2 ⟨_, hm, by simp⟩
  have hl : (esF n l qf b).findIdx (fun e => e.1 == key) < (esF n l qf b).length := List.findIdx_lt_length_of_exists ⟨_, hm, by simp⟩
  refine ⟨_, if_pos ha, hl, ?_⟩
  have h1 := List.findIdx_getElem (w := hl)
  rw [List.getD_eq_getElem?_getD, List.getElem?_eq_getElem hl, Option.getD_some]
  obtain ⟨k, _, he⟩ := List.mem_map.1 (List.getElem_mem hl)
  rw [← he] at h1 ⊢
  have : k = key := by simpa using h1
  rw [this]
theorem place_out {n b : Nat} {l : List Nat} {qf : Nat → Nat} {key : Nat} (hk : key ∉ l) : placeE key (esF n l qf b) = -1 := by
  refine if_neg fun ha => ?_
  obtain ⟨e, he, h1⟩ := List.any_eq_true.1 ha
  obtain ⟨k, hk2, rfl⟩ := List.mem_map.1 he
  have : k = key := by simpa using h1
  exact hk (this ▸ (binN_mem.1 hk2).1)
def upd {α : Type} (f : Nat → α) (k : Nat) (x : α) : Nat → α := fun j => if j = k then x else f j
theorem upd_at {α : Type} {f : Nat → α} {k : Nat} {x : α} : upd f k x k = x := if_pos rfl
theorem upd_ne {α : Type} {f : Nat → α} {k j : Nat} {x : α} (h : j ≠ k) : upd f k x j = f j := if_neg h
theorem esF_upd {n : Nat} {l : List Nat} {qf : Nat → Nat} {b key q : Nat} (hk : key ∉ l) : esF n l (upd qf key q) b = esF n l qf b := by
  unfold esF
  refine List.map_congr_left fun k hm => ?_
  rw [upd_ne (fun (e : k = key) => hk (by rw [← e]; exact (binN_mem.1 hm).1))]
theorem esF_add {n : Nat} {l : List Nat} {qf : Nat → Nat} {key q bk : Nat} (hk : key ∉ l) (hb : bktI key n = bk) :
    esF n (l ++ [key]) (upd qf key q) = upd (esF n l qf) bk ((key, q) :: esF n l qf bk) := by
  funext b
  by_cases e : b = bk
  · subst e
    rw [upd_at, ← esF_upd (q := q) hk]
    simp [esF, binN, hb, upd]
  · rw [upd_ne e, ← esF_upd (q := q) hk]
    have : ¬ ((bk : Int) = (b : Int)) := by omega
    simp [esF, binN, hb, this]
theorem esF_drop {n : Nat} {l : List Nat} {qf : Nat → Nat} {key bk j : Nat} (hn : l.Nodup) (hb : bktI key n = bk) (hj : j < (esF n l qf bk).length) (he : (esF n l qf bk).getD j (0, 0) = (key, qf key)) :
    esF n (l.filter (fun k => decide (k ≠ key))) qf = upd (esF n l qf) bk ((esF n l qf bk).eraseIdx j) := by
  funext b
  have hf : binN n b (l.filter (fun k => decide (k ≠ key))) = (binN n b l).filter (fun k => decide (k ≠ key)) := by
    unfold binN
    rw [List.filter_reverse, List.filter_filter, List.filter_filter]
    congr 2
    funext k
    exact Bool.and_comm _ _
  by_cases e : b = bk
  · subst e
    rw [upd_at]
    have hl : j < (binN n b l).length := by simpa [esF] using hj
    have hjk : (binN n b l)[j] = key := by
      rw [List.getD_eq_getElem?_getD, List.getElem?_eq_getElem hj] at he
      simp only [Option.getD_some, esF, List.getElem_map, Prod.mk.injEq] at he
      exact he.1
    have h1 : (binN n b l).filter (fun k => decide (k ≠ key)) = (binN n b l).eraseIdx j := by
      have h2 := (binN_nodup (n := n) (b := b) hn).erase_eq_filter key
      have h3 : (binN n b l).erase key = (binN n b l).eraseIdx j := by
        rw [← hjk]
        exact List.erase_eq_eraseIdx_of_idxOf (List.Nodup.idxOf_getElem (binN_nodup hn) j hl)
      rw [← h3, h2]
      congr 1
      funext k
      by_cases e : k = key <;> simp [e]
    unfold esF
    rw [hf, h1, List.eraseIdx_eq_take_drop_succ, List.eraseIdx_eq_take_drop_succ, List.map_append, List.map_take, List.map_drop]
  · rw [upd_ne e]
    have hno : key ∉ binN n b l := fun hm => by have := (binN_mem.1 hm).2; omega
    unfold esF
    rw [hf, List.filter_eq_self.2 (fun k hm => by simp; exact fun x => hno (x ▸ hm))]
/-- Labels anew: what is new bears l. -/
def relab (o : Nat → Nat) (N l : Nat) : Nat → Nat := fun g => if g < N then o g else l
theorem relab_lt {o : Nat → Nat} {N l g : Nat} (h : g < N) : relab o N l g = o g := if_pos h
theorem relab_ge {o : Nat → Nat} {N l g : Nat} (h : N ≤ g) : relab o N l g = l := if_neg (by omega)
structure Stp (w : World) (p : Nat) (s : RS) (o : Nat → Nat) : Prop where
  st : ∃ SV, VAt w p SV s ∧ ∀ g, SV g → o g = 1
structure Bks (w : World) (n : Nat) (mk : Option Nat) (vs : Nat → Value) (es : Nat → List (Nat × Nat)) (o : Nat → Nat) : Prop where
  has : HasB w n mk vs es
  lab : ∀ B, mk = some B → o B = 3 ∧ B < w.heap.size ∧ ∀ b, b < n → ∀ g, (vs b).ownBlock = some g → o g = 4 + 2 * b ∧ g < w.heap.size
structure Ch1 (w : World) (p q pa qa : Nat) (y C : Int) (o : Nat → Nat) (lb : Nat) : Prop where
  ar : ∃ c, Ar w pa qa [y] c ∧ 0 ≤ c ∧ c ≤ C
  ch : ChAt w q p pa 0
  n3 : q ≠ pa
  n4 : q ≠ qa
  l0 : o q = lb
  l1 : o pa = lb
  l2 : o qa = lb
section
variable {w w' : World} {p n : Nat} {s : RS} {o o' : Nat → Nat} {T : Nat → Prop} {mk : Option Nat} {vs : Nat → Value} {es : Nat → List (Nat × Nat)} {q pa qa lb : Nat} {y C C' : Int}
theorem Stp.keep (h : Stp w p s o) (k : Keep T w w') (ho : ∀ g, g < w.heap.size → o' g = o g) (hT : ∀ g, g < w.heap.size → T g → o g ≠ 1) : Stp w' p s o' := by
  obtain ⟨SV, hv, hl⟩ := h.st
  exact ⟨SV, hv.keep k (fun g hg x => hT g (hv.lt g hg) x (hl g hg)), fun g hg => (ho g (hv.lt g hg)).trans (hl g hg)⟩
theorem Bks.keep (h : Bks w n mk vs es o) (k : Keep T w w') (ho : ∀ g, g < w.heap.size → o' g = o g) (hT : ∀ g, g < w.heap.size → T g → o g ≠ 3 ∧ ∀ b, b < n → o g ≠ 4 + 2 * b) : Bks w' n mk vs es o' :=
  ⟨h.has.keep k (fun B e x => (hT B (h.lab B e).2.1 x).1 (h.lab B e).1) (fun B e b hb g hg x => (hT g ((h.lab B e).2.2 b hb g hg).2 x).2 b hb ((h.lab B e).2.2 b hb g hg).1),
    fun B e => ⟨(ho B (h.lab B e).2.1).trans (h.lab B e).1, Nat.lt_of_lt_of_le (h.lab B e).2.1 k.size, fun b hb g hg => ⟨(ho g ((h.lab B e).2.2 b hb g hg).2).trans ((h.lab B e).2.2 b hb g hg).1, Nat.lt_of_lt_of_le ((h.lab B e).2.2 b hb g hg).2 k.size⟩⟩⟩
theorem Ch1.lts (h : Ch1 w p q pa qa y C o lb) : q < w.heap.size ∧ pa < w.heap.size ∧ qa < w.heap.size := by
  obtain ⟨c, ha, _⟩ := h.ar
  exact ⟨lt_of_cell (a := ⟨q, 0, none⟩) h.ch.c0, ha.lt, ha.ws.lt⟩
theorem Ch1.keep (h : Ch1 w p q pa qa y C o lb) (k : Keep T w w') (ho : ∀ g, g < w.heap.size → o' g = o g) (hT : ∀ g, g < w.heap.size → T g → o g ≠ lb) (hC : C ≤ C') : Ch1 w' p q pa qa y C' o' lb := by
  obtain ⟨l0, l1, l2⟩ := h.lts
  obtain ⟨c, ha, c0, c1⟩ := h.ar
  exact ⟨⟨c, ha.keep k (fun x => hT _ l1 x h.l1) (fun x => hT _ l2 x h.l2), c0, by omega⟩, h.ch.keep k (fun x => hT _ l0 x h.l0), h.n3, h.n4, (ho _ l0).trans h.l0, (ho _ l1).trans h.l1, (ho _ l2).trans h.l2⟩
end
structure Hx (w : World) (x p n : Nat) (s : RS) (h : HS) (mk : Option Nat) (vs : Nat → Value) (qf pf af o : Nat → Nat) (C : Int) : Prop where
  ok : ROk s
  hk : HOk s h
  st : Stp w p s o
  ix : Idx w x p n mk
  ox : o x = 2
  bk : Bks w n mk vs (esF n h.put qf) o
  ch : ∀ k l, h.ch k = some l → Ch1 w p (qf k) (pf k) (af k) (l.headD 0) C o (5 + 2 * k)
  n0 : 1 ≤ n
  n1 : n ≤ 64
  c0 : 0 ≤ C
section
variable {w w' : World} {x p n : Nat} {s s' : RS} {h h' : HS} {mk : Option Nat} {vs : Nat → Value} {qf pf af o : Nat → Nat} {C C' : Int} {T : Nat → Prop}
theorem Hx.quiet (a : Hx w x p n s h mk vs qf pf af o C) (k : Keep T w w') (hT : ∀ g, g < w.heap.size → T g → o g = 0) (lb : Nat) : Hx w' x p n s h mk vs qf pf af (relab o w.heap.size lb) C :=
  ⟨a.ok, a.hk, a.st.keep k (fun g hg => relab_lt hg) (fun g hg x => by have := hT g hg x; omega), a.ix.keep k (fun x => by have := hT _ a.ix.lt x; have := a.ox; omega), (relab_lt a.ix.lt).trans a.ox,
    a.bk.keep k (fun g hg => relab_lt hg) (fun g hg x => by have := hT g hg x; exact ⟨by omega, fun b _ => by omega⟩), fun j l hl => (a.ch j l hl).keep k (fun g hg => relab_lt hg) (fun g hg x => by have := hT g hg x; omega) (Int.le_refl _), a.n0, a.n1, a.c0⟩
theorem Hx.up (a : Hx w x p n s h mk vs qf pf af o C) (hC : C ≤ C') : Hx w x p n s h mk vs qf pf af o C' :=
  ⟨a.ok, a.hk, a.st, a.ix, a.ox, a.bk, fun j l hl => (a.ch j l hl).keep (Keep.refl (fun _ => False) w) (fun g hg => rfl) (by simp) hC, a.n0, a.n1, Int.le_trans a.c0 hC⟩
/-- Behind a look: the buckets are there. -/
theorem Hx.looked (a : Hx w x p n s h mk vs qf pf af o C) {B : Nat} (L : LstP x p n mk vs (esF n h.put qf) w B w') : Hx w' x p n s h (some B) vs qf pf af (relab o w.heap.size 3) C := by
  obtain ⟨i2, b2, k2, m2⟩ := L
  have ho : ∀ g, g < w.heap.size → relab o w.heap.size 3 g = o g := fun g hg => relab_lt hg
  have hT : ∀ g, g < w.heap.size → g = x → o g = 2 := fun g _ e => e ▸ a.ox
  refine ⟨a.ok, a.hk, a.st.keep k2 ho (fun g hg e => by have := hT g hg e; omega), i2, (ho _ a.ix.lt).trans a.ox, ⟨b2, fun B' e => ?_⟩, fun j l hl => (a.ch j l hl).keep k2 ho (fun g hg e => by have := hT g hg e; omega) (Int.le_refl _), a.n0, a.n1, a.c0⟩
  cases e
  refine ⟨?_, b2.lt, fun b hb g hg => ?_⟩
  · rcases m2 with e | e
    · exact (ho _ (a.bk.lab B e).2.1).trans (a.bk.lab B e).1
    · exact relab_ge e
  · cases mk with
    | none =>
      have e : vs = (fun _ => .slice none 0 0) := a.bk.has.1
      rw [e] at hg
      cases hg
    | some B0 => exact ⟨(ho _ ((a.bk.lab B0 rfl).2.2 b hb g hg).2).trans ((a.bk.lab B0 rfl).2.2 b hb g hg).1, Nat.lt_of_lt_of_le ((a.bk.lab B0 rfl).2.2 b hb g hg).2 k2.size⟩
/-- A Chain with what it stands on. -/
theorem Hx.cg (a : Hx w x p n s h mk vs qf pf af o C) {key : Nat} {l : List Int} (hl : h.ch key = some l) : ∃ SV, CG w p SV s (pf key) (af key) [l.headD 0] C (qf key) 0 ∧ ∀ g, SV g → o g = 1 := by
  obtain ⟨SV, hv, hs⟩ := a.st.st
  have c := a.ch key l hl
  exact ⟨SV, ⟨hv, a.ok, c.ar, c.ch, by simp, fun x => by have := hs _ x; have := c.l1; omega, fun x => by have := hs _ x; have := c.l2; omega, fun x => by have := hs _ x; have := c.l0; omega, c.n3, c.n4⟩, hs⟩
/-- Behind a call of a Chain's. -/
theorem Hx.chain (a : Hx w x p n s h mk vs qf pf af o C) {key : Nat} {l l' : List Int} {y : Int} {SV SV' : Nat → Prop} (hl : h.ch key = some l) (hs : ∀ g, SV g → o g = 1) (g1 : CG w' p SV' s' (pf key) (af key) [y] C' (qf key) 0) (t : Turn (pf key) (af key) SV SV' w w') (hy : y = l'.headD 0) (hC : C ≤ C') (hk' : HOk s' (h.set key l')) :
    Hx w' x p n s' (h.set key l') mk vs qf pf af (relab o w.heap.size 1) C' := by
  have c := a.ch key l hl
  have ho : ∀ g, g < w.heap.size → relab o w.heap.size 1 g = o g := fun g hg => relab_lt hg
  have hT : ∀ g, g < w.heap.size → (SV g ∨ Two (pf key) (af key) g) → o g = 1 ∨ o g = 5 + 2 * key := fun g _ e => by
    rcases e with e | e | e
    · exact .inl (hs g e)
    · exact .inr (e ▸ c.l1)
    · exact .inr (e ▸ c.l2)
  refine ⟨g1.ok, hk', ⟨SV', g1.hv, fun g hg => ?_⟩, a.ix.keep t.k (fun e => by have := hT _ a.ix.lt e; have := a.ox; omega), (ho _ a.ix.lt).trans a.ox, a.bk.keep t.k ho (fun g hg e => by have := hT g hg e; exact ⟨by omega, fun b _ => by omega⟩), fun j l2 hl2 => ?_, a.n0, a.n1, Int.le_trans a.c0 hC⟩
  · rcases t.g g hg with e | e
    · by_cases hlt : g < w.heap.size
      · exact (ho g hlt).trans (hs g e)
      · exact relab_ge (by omega)
    · exact relab_ge e
  · by_cases e : j = key
    · subst e
      have e2 : l' = l2 := by have := HS.set_at (h := h) (key := j) (l := l'); rw [this] at hl2; cases hl2; rfl
      subst e2
      obtain ⟨l0, l1, l2⟩ := c.lts
      exact ⟨by rw [← hy]; exact g1.ar, g1.ch, c.n3, c.n4, (ho _ l0).trans c.l0, (ho _ l1).trans c.l1, (ho _ l2).trans c.l2⟩
    · rw [HS.set_ne e] at hl2
      exact (a.ch j l2 hl2).keep t.k ho (fun g hg x => by have := hT g hg x; omega) hC
/-- Behind a call of the Store's. -/
theorem Hx.store (a : Hx w x p n s h mk vs qf pf af o C) {SV SV' : Nat → Prop} (hs : ∀ g, SV g → o g = 1) (hv : VAt w' p SV' s') (ok : ROk s') (hk' : HOk s' h) (t : VKeep SV SV' w w') :
    Hx w' x p n s' h mk vs qf pf af (relab o w.heap.size 1) C := by
  have ho : ∀ g, g < w.heap.size → relab o w.heap.size 1 g = o g := fun g hg => relab_lt hg
  refine ⟨ok, hk', ⟨SV', hv, fun g hg => ?_⟩, a.ix.keep t.1 (fun e => by have := hs _ e; have := a.ox; omega), (ho _ a.ix.lt).trans a.ox, a.bk.keep t.1 ho (fun g hg e => by have := hs g e; exact ⟨by omega, fun b _ => by omega⟩), fun j l2 hl2 => (a.ch j l2 hl2).keep t.1 ho (fun g hg x => by have := hs g x; omega) (Int.le_refl _), a.n0, a.n1, a.c0⟩
  rcases t.2 g hg with e | e
  · by_cases hlt : g < w.heap.size
    · exact (ho g hlt).trans (hs g e)
    · exact relab_ge (by omega)
  · exact relab_ge e
end
end Go.Proofs.YtmfpjnlplimkeaaGreat
/- Package hash, fifth part: Find, Put and Drop of an Index in memory. -/
namespace Go.Proofs.YtmfpjnlplimkeaaGreat
open Go.ChangeShapes Go.WideShapes Go.ChangeAt Go.RowKit
set_option linter.unusedVariables false

section
variable {w w' : World} {x p n : Nat} {s s' : RS} {h h' : HS} {mk : Option Nat} {vs : Nat → Value} {qf pf af o : Nat → Nat} {C C' : Int} {T : Nat → Prop}
/-- What a look leaves of an Index. -/
def Seen (x p n : Nat) (s : RS) (h : HS) (vs : Nat → Value) (qf pf af o : Nat → Nat) (C : Int) (w w' : World) : Prop :=
  ∃ B, Hx w' x p n s h (some B) vs qf pf af (relab o w.heap.size 3) C ∧ Keep (fun j => j = x) w w'
theorem Hx.lookit (a : Hx w x p n s h mk vs qf pf af o C) (key b : Nat) (k1 : key ≤ 63) (eb : bktI key n = b) :
    Calls Tryz.prog 23 #[.pointer (some ⟨x, 0, none⟩), .int .i64 key] w fun e w' => ∃ B, e = .returned (.tuple #[.int .i64 b, .int .i64 (placeE key (esF n h.put qf b))]) ∧ LstP x p n mk vs (esF n h.put qf) w B w' :=
  look_any a.ix a.bk.has a.n0 a.n1 key b k1 eb (Nat.le_trans (esF_len _ _ _ _) (by have := a.hk.short; omega))
theorem Hx.bkt (a : Hx w x p n s h mk vs qf pf af o C) (key : Nat) (k1 : key ≤ 63) : ∃ b : Nat, bktI key n = b ∧ b < n := by
  have h0 := a.n0
  have h1 := a.n1
  have := bktI_b key n (by omega) (by omega) (by omega) (by omega)
  exact ⟨(bktI key n).toNat, by omega, by omega⟩
/-- The entry of a key, in memory. -/
theorem LstP.entry {B b key : Nat} {es : Nat → List (Nat × Nat)} (L : LstP x p n mk vs es w B w') (bn : b < n) {j : Nat} (hj : j < (es b).length) {y : Nat × Nat} (he : (es b).getD j (0, 0) = y) :
    ∃ g c, vs b = .slice (some ⟨g, 0, none⟩) (es b).length c ∧ w'.cell? ⟨g, j * 2, none⟩ = some (.int .i64 (y.1 : Int)) ∧ w'.cell? ⟨g, j * 2 + 1, none⟩ = some (.pointer (some ⟨y.2, 0, none⟩)) := by
  have r := L.2.1.row b bn
  rcases r.form with ⟨_, h2⟩ | ⟨g, c, h1, _⟩
  · rw [h2] at hj; exact absurd hj (Nat.not_lt_zero _)
  · rw [h1] at r
    have := r.two j hj
    rw [he] at this
    exact ⟨g, c, h1, this.1, this.2⟩
theorem find_yes (a : Hx w x p n s h mk vs qf pf af o C) (key : Nat) (hk : key ∈ h.put) :
    Calls Tryz.prog 13 #[.pointer (some ⟨x, 0, none⟩), .int .i64 key] w fun e w' => e = .returned (.tuple #[.pointer (some ⟨qf key, 0, none⟩), .bool true]) ∧ Seen x p n s h vs qf pf af o C w w' := by
  have k1 : key ≤ 63 := by have := a.hk.lt key hk; omega
  obtain ⟨b, eb, bn⟩ := a.bkt key k1
  have hl := a.lookit key b k1 eb
  obtain ⟨j, ej, hj, he⟩ := place_in (qf := qf) hk eb
  rw [ej] at hl
  go_enter Tryz.func13, Tryz.ntmps13
  go_wp2_with fail
  refine hl.mono ?_
  rintro e w1 ⟨B, rfl, L⟩
  have H : Seen x p n s h vs qf pf af o C w w1 := ⟨B, a.looked L, L.2.2.1⟩
  have c5 : w1.cell? ⟨x, 5, none⟩ = some (.slice (some ⟨B, 0, none⟩) n n) := L.1.c5
  have cb := L.2.1.cell b bn
  obtain ⟨g, c, ev, _, cq⟩ := L.entry (key := key) bn hj he
  rw [ev] at cb
  have b0 : (b : Int) < (n : Int) := by omega
  obtain ⟨m, em⟩ : ∃ m, (esF n h.put qf b).length = m := ⟨_, rfl⟩
  rw [em] at cb hj
  have j0 : (j : Int) < (m : Int) := by omega
  have H := Lib.hid H
  clear L hl eb ej he ev em
  go_wp2
  go_ret2
  exact ⟨rfl, H.out⟩
theorem find_no (a : Hx w x p n s h mk vs qf pf af o C) (key : Int) (hk : key < 0 ∨ 63 < key ∨ key.toNat ∉ h.put) :
    Calls Tryz.prog 13 #[.pointer (some ⟨x, 0, none⟩), .int .i64 key] w fun e w' => e = .returned (.tuple #[.pointer none, .bool false]) ∧ (Keep (fun _ => False) w w' ∨ Seen x p n s h vs qf pf af o C w w') := by
  by_cases hb : key < 0 ∨ 63 < key
  · have hl := look_no a.ix key hb
    go_enter Tryz.func13, Tryz.ntmps13
    go_wp2_with fail
    refine hl.mono ?_
    rintro e w1 ⟨rfl, k1⟩
    clear hl
    go_wp2
    go_ret2
    exact ⟨rfl, .inl k1⟩
  · obtain ⟨key, rfl⟩ : ∃ k : Nat, key = k := ⟨key.toNat, by omega⟩
    have hk2 : key ∉ h.put := by rcases hk with e | e | e; omega; omega; simpa using e
    obtain ⟨b, eb, bn⟩ := a.bkt key (by omega)
    have hl := a.lookit key b (by omega) eb
    rw [place_out hk2] at hl
    go_enter Tryz.func13, Tryz.ntmps13
    go_wp2_with fail
    refine hl.mono ?_
    rintro e w1 ⟨B, rfl, L⟩
    have H : Seen x p n s h vs qf pf af o C w w1 := ⟨B, a.looked L, L.2.2.1⟩
    have H := Lib.hid H
    clear L hl eb
    go_wp2
    go_ret2
    exact ⟨rfl, .inr H.out⟩
theorem put_old (a : Hx w x p n s h mk vs qf pf af o C) (key : Nat) (hk : key ∈ h.put) :
    Calls Tryz.prog 7 #[.pointer (some ⟨x, 0, none⟩), .int .i64 key] w fun e w' => e = .returned (.tuple #[.pointer (some ⟨qf key, 0, none⟩), .int .i64 0]) ∧ Seen x p n s h vs qf pf af o C w w' := by
  have k1 : key ≤ 63 := by have := a.hk.lt key hk; omega
  obtain ⟨b, eb, bn⟩ := a.bkt key k1
  have hl := a.lookit key b k1 eb
  obtain ⟨j, ej, hj, he⟩ := place_in (qf := qf) hk eb
  rw [ej] at hl
  go_enter Tryz.func7, Tryz.ntmps7
  go_wp2_with fail
  refine hl.mono ?_
  rintro e w1 ⟨B, rfl, L⟩
  have H : Seen x p n s h vs qf pf af o C w w1 := ⟨B, a.looked L, L.2.2.1⟩
  have c5 : w1.cell? ⟨x, 5, none⟩ = some (.slice (some ⟨B, 0, none⟩) n n) := L.1.c5
  have cb := L.2.1.cell b bn
  obtain ⟨g, c, ev, _, cq⟩ := L.entry (key := key) bn hj he
  rw [ev] at cb
  have b0 : (b : Int) < (n : Int) := by omega
  obtain ⟨m, em⟩ : ∃ m, (esF n h.put qf b).length = m := ⟨_, rfl⟩
  rw [em] at cb hj
  have j0 : (j : Int) < (m : Int) := by omega
  have H := Lib.hid H
  clear L hl eb ej he ev em
  go_wp2
  go_ret2
  exact ⟨rfl, H.out⟩
theorem put_no (a : Hx w x p n s h mk vs qf pf af o C) (key : Int) (hb : key < 0 ∨ 63 < key) :
    Calls Tryz.prog 7 #[.pointer (some ⟨x, 0, none⟩), .int .i64 key] w fun e w' => e = .returned (.tuple #[.pointer none, .int .i64 1]) ∧ Keep (fun _ => False) w w' := by
  have hl := look_no a.ix key hb
  go_enter Tryz.func7, Tryz.ntmps7
  go_wp2_with fail
  refine hl.mono ?_
  rintro e w1 ⟨rfl, k1⟩
  clear hl
  go_wp2
  go_ret2
  exact ⟨rfl, k1⟩
/-- A Chain on a word of its own, in new blocks. -/
theorem empty_any (a : Hx w x p n s h mk vs qf pf af o C) :
    Calls Tryz.prog 24 #[.pointer (some ⟨x, 0, none⟩)] w fun e w' => ∃ q pa qa, e = .returned (.pointer (some ⟨q, 0, none⟩)) ∧ Keep (fun _ => False) w w' ∧ w.heap.size ≤ q ∧ w.heap.size ≤ pa ∧ w.heap.size ≤ qa ∧ (∃ c, Ar w' pa qa [0] c ∧ 0 ≤ c ∧ c ≤ 0) ∧ ChAt w' q p pa 0 ∧ q ≠ pa ∧ q ≠ qa := by
  obtain ⟨SV, hv, hs⟩ := a.st.st
  have c0 := a.ix.c0
  go_enter Tryz.func24, Tryz.ntmps24
  go_wp2_with fail
  refine (new_ok 1 w (by omega) (by omega)).mono ?_
  rintro e w1 ⟨pa, qa, rfl, ha, ga, gq, b1⟩
  have k1 := Keep.of_below b1 (fun _ => False)
  have s1 := k1.size
  have hv1 := hv.keep k1 (by simp)
  have c01 := k1.cell c0 (by simp)
  have n0 : ¬ SV pa := fun x => by have := hv.lt _ x; omega
  have n1 : ¬ SV qa := fun x => by have := hv.lt _ x; omega
  have hn := cnew_ok (at' := 0) (C := 0) hv1 a.ok ha (by omega) (by omega) (by simp) n0 n1
  go_wp2_with fail
  refine hn.mono ?_
  rintro e w2 ⟨q, rfl, g2, gq2, k2⟩
  clear hn
  go_wp2
  go_ret
  refine ⟨q, pa, qa, rfl, k1.trans k2, by omega, ga, gq, g2.ar, g2.ch, g2.n3, g2.n4⟩
theorem Bks.set {w3 w4 : World} {o3 : Nat → Nat} {es : Nat → List (Nat × Nat)} {B b : Nat} (a : Bks w3 n (some B) vs es o3) (bn : b < n) {v' : Value} {e' : List (Nat × Nat)} (hins : OwnE w4 v' e') (k4 : Keep (fun j => (vs b).ownBlock = some j) w3 w4) (hg : ∀ g, v'.ownBlock = some g → (vs b).ownBlock = some g ∨ w3.heap.size ≤ g) :
    Bks (w4.setCell ⟨B, b, none⟩ v') n (some B) (upd vs b v') (upd es b e') (relab o3 w3.heap.size (4 + 2 * b)) ∧ Keep (fun j => (vs b).ownBlock = some j ∨ j = B) w3 (w4.setCell ⟨B, b, none⟩ v') := by
  have k5 := keep_one w4 ⟨B, b, none⟩ v'
  have kk : Keep (fun j => (vs b).ownBlock = some j ∨ j = B) w3 (w4.setCell ⟨B, b, none⟩ v') := (k4.mono (fun j hj => .inl hj)).trans (k5.mono (fun j hj => .inr hj))
  obtain ⟨oB, lB, ov⟩ := a.lab B rfl
  have hb : Bkt w3 n B vs es := a.has
  have nB : ∀ c, c < n → (vs c).ownBlock ≠ some B := fun c hc x => by have := (ov c hc B x).1; omega
  refine ⟨⟨⟨Nat.lt_of_lt_of_le lB kk.size, fun c hc => ?_, fun i => ?_, fun c hc => ?_⟩, fun B' e => ?_⟩, kk⟩
  · by_cases e : c = b
    · subst e
      rw [upd_at]
      exact World.cell?_setCell_same _ _ _ (k4.cell (hb.cell c hc) (nB c hc))
    · rw [upd_ne e, World.cell?_setCell_other _ _ _ _ (by simp)]
      exact k4.cell (hb.cell c hc) (nB b bn)
  · rw [World.frozen?_setCell]
    exact (k4.frozen (a := ⟨B, i, none⟩) lB (nB b bn)).trans (hb.fz i)
  · by_cases e : c = b
    · subst e
      rw [upd_at, upd_at]
      refine OwnM.keep hins k5 (fun g hg2 e2 => ?_)
      have e2 : g = B := e2
      subst e2
      rcases hg g hg2 with z | z
      · exact nB c hc z
      · omega
    · rw [upd_ne e, upd_ne e]
      refine OwnM.keep (hb.row c hc) kk (fun g hg2 e2 => ?_)
      rcases e2 with z | z
      · have := (ov c hc g hg2).1
        have := (ov b bn g z).1
        omega
      · exact nB c hc (z ▸ hg2)
  · cases e
    refine ⟨(relab_lt lB).trans oB, Nat.lt_of_lt_of_le lB kk.size, fun c hc g hg2 => ?_⟩
    by_cases e : c = b
    · subst e
      rw [upd_at] at hg2
      have l4 := OwnM.lt hins hg2
      refine ⟨?_, Nat.lt_of_lt_of_le l4 k5.size⟩
      rcases hg g hg2 with z | z
      · exact (relab_lt (ov c hc g z).2).trans (ov c hc g z).1
      · exact relab_ge z
    · rw [upd_ne e] at hg2
      have := ov c hc g hg2
      exact ⟨(relab_lt this.2).trans this.1, Nat.lt_of_lt_of_le this.2 kk.size⟩
theorem HOk.add (a : HOk s h) {key : Nat} (k0 : key < 64) (hk : key ∉ h.put) : HOk s (h.add key) := by
  refine ⟨fun k l e => ?_, fun k k' l l' hne e e' => ?_, fun k => ?_, fun k hm => ?_, ?_⟩
  · by_cases z : k = key
    · subst z; rw [HS.add_at] at e; cases e; exact Linked.nil s
    · rw [HS.add_ne z] at e; exact a.ln k l e
  · by_cases z : k = key
    · subst z; rw [HS.add_at] at e; cases e; simp
    · rw [HS.add_ne z] at e
      by_cases z' : k' = key
      · subst z'; rw [HS.add_at] at e'; cases e'; simp
      · rw [HS.add_ne z'] at e'; exact a.dj k k' l l' hne e e'
  · show k ∈ h.put ++ [key] ↔ _
    rw [List.mem_append, List.mem_singleton]
    by_cases z : k = key
    · subst z; rw [HS.add_at]; simp
    · rw [HS.add_ne z, ← a.pt k]; simp [z]
  · have hm : k ∈ h.put ++ [key] := hm
    rw [List.mem_append, List.mem_singleton] at hm
    rcases hm with z | z
    · exact a.lt k z
    · omega
  · show (h.put ++ [key]).Nodup
    rw [List.nodup_append]
    exact ⟨a.nd, by simp, fun x hx y hy e => hk (by rw [List.mem_singleton] at hy; rw [← hy, ← e]; exact hx)⟩
theorem HOk.drop (a : HOk s h) {key : Nat} : HOk s (h.drop key) := by
  refine ⟨fun k l e => ?_, fun k k' l l' hne e e' => ?_, fun k => ?_, fun k hm => ?_, a.nd.filter _⟩
  · by_cases z : k = key
    · subst z; rw [HS.drop_at] at e; cases e
    · rw [HS.drop_ne z] at e; exact a.ln k l e
  · by_cases z : k = key
    · subst z; rw [HS.drop_at] at e; cases e
    · rw [HS.drop_ne z] at e
      by_cases z' : k' = key
      · subst z'; rw [HS.drop_at] at e'; cases e'
      · rw [HS.drop_ne z'] at e'; exact a.dj k k' l l' hne e e'
  · show k ∈ h.put.filter (fun k => decide (k ≠ key)) ↔ _
    rw [List.mem_filter]
    by_cases z : k = key
    · subst z; rw [HS.drop_at]; simp
    · rw [HS.drop_ne z, ← a.pt k]; simp [z]
  · exact a.lt k (List.mem_filter.1 hm).1
theorem Hx.put {w3 w4 : World} {o3 : Nat → Nat} {B b key q pa qa : Nat} (a : Hx w3 x p n s h (some B) vs qf pf af o3 C) (k1 : key ≤ 63) (hk : key ∉ h.put) (eb : bktI key n = b) (bn : b < n) (hq : Ch1 w3 p q pa qa 0 C o3 (5 + 2 * key)) {v' : Value}
    (hins : OwnE w4 v' ((key, q) :: esF n h.put qf b)) (k4 : Keep (fun j => (vs b).ownBlock = some j) w3 w4) (hg : ∀ g, v'.ownBlock = some g → (vs b).ownBlock = some g ∨ w3.heap.size ≤ g) :
    Hx (w4.setCell ⟨B, b, none⟩ v') x p n s (h.add key) (some B) (upd vs b v') (upd qf key q) (upd pf key pa) (upd af key qa) (relab o3 w3.heap.size (4 + 2 * b)) C ∧ Keep (fun j => o3 j ≠ 0) w3 (w4.setCell ⟨B, b, none⟩ v') := by
  obtain ⟨b5, kk⟩ := a.bk.set bn hins k4 hg
  obtain ⟨oB, lB, ov⟩ := a.bk.lab B rfl
  have ho : ∀ g, g < w3.heap.size → relab o3 w3.heap.size (4 + 2 * b) g = o3 g := fun g hg => relab_lt hg
  have hT : ∀ g, ((vs b).ownBlock = some g ∨ g = B) → o3 g = 4 + 2 * b ∨ o3 g = 3 := fun g e => by
    rcases e with e | e
    · exact .inl (ov b bn g e).1
    · exact .inr (e ▸ oB)
  refine ⟨⟨a.ok, a.hk.add (by omega) hk, a.st.keep kk ho (fun g _ e => by have := hT g e; omega), a.ix.keep kk (fun e => by have := hT _ e; have := a.ox; omega), (ho _ a.ix.lt).trans a.ox, ?_, fun k l e => ?_, a.n0, a.n1, a.c0⟩, kk.mono (fun j e => by have := hT j e; omega)⟩
  · show Bks _ n (some B) _ (esF n (h.put ++ [key]) (upd qf key q)) _
    rw [esF_add hk eb]
    exact b5
  · by_cases z : k = key
    · subst z
      rw [HS.add_at] at e
      cases e
      rw [upd_at, upd_at, upd_at]
      exact hq.keep kk ho (fun g _ e => by have := hT g e; omega) (Int.le_refl _)
    · rw [HS.add_ne z] at e
      rw [upd_ne z, upd_ne z, upd_ne z]
      exact (a.ch k l e).keep kk ho (fun g _ e => by have := hT g e; omega) (Int.le_refl _)
theorem Hx.drop {w4 : World} {B b key j : Nat} (a : Hx w x p n s h (some B) vs qf pf af o C) (eb : bktI key n = b) (bn : b < n) (hj : j < (esF n h.put qf b).length) (he : (esF n h.put qf b).getD j (0, 0) = (key, qf key)) {v' : Value}
    (hdel : OwnE w4 v' ((esF n h.put qf b).eraseIdx j)) (k4 : Keep (fun j => (vs b).ownBlock = some j) w w4) (hg : ∀ g, v'.ownBlock = some g → (vs b).ownBlock = some g ∨ w.heap.size ≤ g) :
    Hx (w4.setCell ⟨B, b, none⟩ v') x p n s (h.drop key) (some B) (upd vs b v') qf pf af (relab o w.heap.size (4 + 2 * b)) C ∧ Keep (fun j => o j ≠ 0) w (w4.setCell ⟨B, b, none⟩ v') := by
  obtain ⟨b5, kk⟩ := a.bk.set bn hdel k4 hg
  obtain ⟨oB, lB, ov⟩ := a.bk.lab B rfl
  have ho : ∀ g, g < w.heap.size → relab o w.heap.size (4 + 2 * b) g = o g := fun g hg => relab_lt hg
  have hT : ∀ g, ((vs b).ownBlock = some g ∨ g = B) → o g = 4 + 2 * b ∨ o g = 3 := fun g e => by
    rcases e with e | e
    · exact .inl (ov b bn g e).1
    · exact .inr (e ▸ oB)
  refine ⟨⟨a.ok, a.hk.drop, a.st.keep kk ho (fun g _ e => by have := hT g e; omega), a.ix.keep kk (fun e => by have := hT _ e; have := a.ox; omega), (ho _ a.ix.lt).trans a.ox, ?_, fun k l e => ?_, a.n0, a.n1, a.c0⟩, kk.mono (fun j e => by have := hT j e; omega)⟩
  · show Bks _ n (some B) _ (esF n (h.put.filter (fun k => decide (k ≠ key))) qf) _
    rw [esF_drop a.hk.nd eb hj he]
    exact b5
  · by_cases z : k = key
    · subst z
      rw [HS.drop_at] at e
      cases e
    · rw [HS.drop_ne z] at e
      exact (a.ch k l e).keep kk ho (fun g _ e => by have := hT g e; omega) (Int.le_refl _)
theorem Keep.then {S : Nat → Prop} {w w1 w2 : World} (k1 : Keep S w w1) (k2 : Keep T w1 w2) (h : ∀ g, g < w.heap.size → T g → S g) : Keep S w w2 :=
  ⟨k2.os.trans k1.os, k2.tape.trans k1.tape, k2.output.trans k1.output, Nat.le_trans k1.size k2.size, fun g hg hn => (k2.block g (Nat.lt_of_lt_of_le hg k1.size) (fun x => hn (h g hg x))).trans (k1.block g hg hn)⟩
/-- What a call leaves of an Index whose blocks bear labels o: only labelled blocks have turned; the labels of old blocks stay. -/
def Goes (x p n : Nat) (w : World) (o : Nat → Nat) (w' : World) (s' : RS) (h' : HS) (qf' : Nat → Nat) (C' : Int) : Prop :=
  ∃ mk vs pf af o', Hx w' x p n s' h' mk vs qf' pf af o' C' ∧ Keep (fun g => o g ≠ 0) w w' ∧ ∀ g, g < w.heap.size → o' g = o g
set_option maxRecDepth 100000 in
theorem put_new (a : Hx w x p n s h mk vs qf pf af o C) (key : Nat) (k1 : key ≤ 63) (hk : key ∉ h.put) :
    Calls Tryz.prog 7 #[.pointer (some ⟨x, 0, none⟩), .int .i64 key] w fun e w' => ∃ q, e = .returned (.tuple #[.pointer (some ⟨q, 0, none⟩), .int .i64 0]) ∧ Goes x p n w o w' s (h.add key) (upd qf key q) C := by
  obtain ⟨b, eb, bn⟩ := a.bkt key k1
  have hl := a.lookit key b k1 eb
  have KEYB := Lib.hid k1
  clear k1
  rw [place_out hk] at hl
  go_enter Tryz.func7, Tryz.ntmps7
  go_wp2_with fail
  refine hl.mono ?_
  rintro e w1 ⟨B, rfl, L⟩
  have a1 := a.looked L
  have k1 := L.2.2.1
  clear hl L
  have hm := empty_any a1
  go_wp2_with fail
  refine hm.mono ?_
  rintro e w2 ⟨q, pa, qa, rfl, k2, gq, gpa, gqa, har, hch, n3, n4⟩
  clear hm
  have a2 := a1.quiet k2 (by simp) (5 + 2 * key)
  have c5 : w2.cell? ⟨x, 5, none⟩ = some (.slice (some ⟨B, 0, none⟩) n n) := a2.ix.c5
  have hbk : Bkt w2 n B vs (esF n h.put qf) := a2.bk.has
  obtain ⟨v, ev⟩ : ∃ v, vs b = v := ⟨_, rfl⟩
  have cb := hbk.cell b bn
  rw [ev] at cb
  have lB := hbk.lt
  have lx := a2.ix.lt
  obtain ⟨W3, eW3⟩ : ∃ W3, (w2.alloc (.cells #[.int .i64 key, .pointer (some ⟨q, 0, none⟩)] 80)).drew = W3 := ⟨_, rfl⟩
  have k3 : Keep (fun _ => False) w2 W3 := by rw [← eW3]; exact (Keep.alloc (Keep.refl _ w2) _).drew
  have a3 := a2.quiet k3 (by simp) 0
  have s1 := k1.size
  have s2 := k2.size
  have s3 := k3.size
  have cbA : ∀ o, (w2.alloc o).cell? ⟨B, b, none⟩ = some v := fun o => (Keep.alloc (Keep.refl (fun _ => False) w2) o).cell cb (by simp)
  have c53 : W3.cell? ⟨x, 5, none⟩ = some (.slice (some ⟨B, 0, none⟩) n n) := a3.ix.c5
  have hv3 : W3.heap[w2.heap.size]? = some (.cells (entC (key, q)).toArray 80 (0, 0)) := by
    rw [← eW3]
    exact (Array.getElem?_push_size : (w2.heap.push (.cells #[.int .i64 key, .pointer (some ⟨q, 0, none⟩)] 80))[w2.heap.size]? = _)
  have hb3 : Bkt W3 n B vs (esF n h.put qf) := a3.bk.has
  obtain ⟨oB, lB3, ov⟩ := a3.bk.lab B rfl
  have ov := ov b bn
  have ho3 := hb3.row b bn
  rw [ev] at ho3 ov
  have hins := insert_ent (vb := w2.heap.size) (e := (key, q)) ho3 (Nat.le_trans (esF_len _ _ _ _) (by have := a.hk.short; omega)) (fun e => by have := ov _ e; have : relab (relab (relab o w.heap.size 3) w1.heap.size (5 + 2 * key)) w2.heap.size 0 w2.heap.size = 0 := relab_ge (Nat.le_refl _); omega) hv3
  have hqc : Ch1 W3 p q pa qa 0 C (relab (relab (relab o w.heap.size 3) w1.heap.size (5 + 2 * key)) w2.heap.size 0) (5 + 2 * key) := by
    obtain ⟨c, ha, c0, c1⟩ := har
    have lq := lt_of_cell (a := ⟨q, 0, none⟩) hch.c0
    have lpa := ha.lt
    have lqa := ha.ws.lt
    exact ⟨⟨c, ha.keep k3 (by simp) (by simp), c0, by have := a.c0; omega⟩, hch.keep k3 (by simp), n3, n4, (relab_lt lq).trans (relab_ge gq), (relab_lt lpa).trans (relab_ge gpa), (relab_lt lqa).trans (relab_ge gqa)⟩
  have nx : ∀ j, v.ownBlock = some j → j ≠ x ∧ j ≠ B := fun j e => by
    have := (ov j e).1
    have := a3.ox
    constructor
    · intro z; subst z; omega
    · intro z; subst z; omega
  have cb3 := hb3.cell b bn
  rw [ev] at cb3
  have fb3 := hb3.fz b
  have xB : ¬ B = x := fun e => by have := a3.ox; rw [e] at oB; omega
  have b0 : (b : Int) < (n : Int) := by omega
  have FIN : ∀ w4 g c, OwnE w4 (.slice (some ⟨g, 0, none⟩) ((esF n h.put qf b).length + 1) c) ((key, q) :: esF n h.put qf b) → Keep (fun j => v.ownBlock = some j) W3 w4 → (v.ownBlock = some g ∨ W3.heap.size ≤ g) →
      Goes x p n w o (w4.setCell ⟨B, b, none⟩ (.slice (some ⟨g, 0, none⟩) ((esF n h.put qf b).length + 1) c)) s (h.add key) (upd qf key q) C := fun w4 g c o4 k4 hg4 => by
    rw [← ev] at k4 hg4
    obtain ⟨a5, k5⟩ := a3.put (by have := KEYB.out; omega) hk eb bn hqc o4 k4 (fun g' e => by cases e; exact hg4)
    refine ⟨_, _, _, _, _, a5, ?_, fun g' hg' => ?_⟩
    · have kx : Keep (fun g => o g ≠ 0) w w1 := k1.mono (fun j e => by rw [e, a.ox]; omega)
      refine ((kx.then k2 (by simp)).then k3 (by simp)).then k5 (fun g' hg' e => ?_)
      rw [relab_lt (by omega), relab_lt (by omega), relab_lt hg'] at e
      exact e
    · rw [relab_lt (by omega), relab_lt (by omega), relab_lt (by omega), relab_lt hg']
  have FIN := Lib.hid FIN
  have INS := Lib.hid hins
  clear hins hqc a3 a2 a1 hb3 hbk ho3 hv3 har hch k1 k2 k3 eb
  go_wp2_with fail
  refine wp_region_held_drew (S := (fun w' => w'.cell? ⟨x, 5, none⟩ = some (.slice (some ⟨B, 0, none⟩) n n))) (by kernel_rfl) c5 (fun hHeld => ?_)
  refine wpAnyH_take (i := 0) (v := ?qvu72) rfl (by kernel_rfl) (by kernel_rfl) (by kernel_rfl) (fun _ _ _ h => h) (Or.inl ⟨by rfl, ?qyu72⟩) (by assumption) ?qru72; case qyu72 => ((intro w hSw; (try dsimp only at hSw); go_simp); try (with_reducible rfl))
  ((try simp only [List.getElem_toArray]); (try simp only [List.getElem_cons_succ]); (try simp only [List.getElem_cons_zero]); (try simp only [Act.put]); (try simp only [List.setIfInBounds_toArray]); (try simp only [List.set_cons_succ]); (try simp only [List.set_cons_zero]))
  refine wpAnyH_take (i := 1) (v := ?qvu73) rfl (by kernel_rfl) (by kernel_rfl) (by kernel_rfl) (fun _ _ _ h => h) (Or.inl ⟨by rfl, ?qyu73⟩) (by assumption) ?qru73; case qyu73 => ((intro w hSw; (try dsimp only at hSw); go_simp); try (with_reducible rfl))
  ((try simp only [List.getElem_toArray]); (try simp only [List.getElem_cons_succ]); (try simp only [List.getElem_cons_zero]); (try simp only [Act.put]); (try simp only [List.setIfInBounds_toArray]); (try simp only [List.set_cons_succ]); (try simp only [List.set_cons_zero]))
  refine wpAnyH_take (i := 2) (v := ?qvu74) rfl (by kernel_rfl) (by kernel_rfl) (by kernel_rfl) (fun _ _ _ h => h) (Or.inl ⟨by rfl, ?qyu74⟩) (by assumption) ?qru74; case qyu74 => ((intro w hSw; (try dsimp only at hSw); go_simp); try (with_reducible rfl))
  ((try simp only [List.getElem_toArray]); (try simp only [List.getElem_cons_succ]); (try simp only [List.getElem_cons_zero]); (try simp only [Act.put]); (try simp only [List.setIfInBounds_toArray]); (try simp only [List.set_cons_succ]); (try simp only [List.set_cons_zero]))
  refine wpAnyH_take (i := 3) (v := ?qvu75) rfl (by kernel_rfl) (by kernel_rfl) (by kernel_rfl) (fun _ _ _ h => h) (Or.inl ⟨by rfl, ?qyu75⟩) (by assumption) ?qru75; case qyu75 => ((intro w hSw; (try dsimp only at hSw); go_simp); try (with_reducible rfl))
  ((try simp only [List.getElem_toArray]); (try simp only [List.getElem_cons_succ]); (try simp only [List.getElem_cons_zero]); (try simp only [Act.put]); (try simp only [List.setIfInBounds_toArray]); (try simp only [List.set_cons_succ]); (try simp only [List.set_cons_zero]))
  refine wpAnyH_take (i := 4) (v := ?qvu76) rfl (by kernel_rfl) (by kernel_rfl) (by kernel_rfl) (fun _ _ _ h => h) (Or.inl ⟨by rfl, ?qyu76⟩) (by assumption) ?qru76; case qyu76 => ((intro w hSw; (try dsimp only at hSw); go_simp); try (with_reducible rfl))
  ((try simp only [List.getElem_toArray]); (try simp only [List.getElem_cons_succ]); (try simp only [List.getElem_cons_zero]); (try simp only [Act.put]); (try simp only [List.setIfInBounds_toArray]); (try simp only [List.set_cons_succ]); (try simp only [List.set_cons_zero]))
  refine wpAnyH_take (i := 5) (v := ?qvu77) rfl (by kernel_rfl) (by kernel_rfl) (by kernel_rfl) (fun _ _ _ h => h) (Or.inl ⟨by rfl, ?qyu77⟩) (by assumption) ?qru77; case qyu77 => ((intro w hSw; (try dsimp only at hSw); go_simp); try (with_reducible rfl))
  ((try simp only [List.getElem_toArray]); (try simp only [List.getElem_cons_succ]); (try simp only [List.getElem_cons_zero]); (try simp only [Act.put]); (try simp only [List.setIfInBounds_toArray]); (try simp only [List.set_cons_succ]); (try simp only [List.set_cons_zero]))
  refine wpAnyH_take (i := 6) (v := ?qvu78) rfl (by kernel_rfl) (by kernel_rfl) (by kernel_rfl) (fun _ _ _ h => h) (Or.inl ⟨by rfl, ?qyu78⟩) (by assumption) ?qru78; case qyu78 => ((intro w hSw; (try dsimp only at hSw); go_simp); try (with_reducible rfl))
  ((try simp only [List.getElem_toArray]); (try simp only [List.getElem_cons_succ]); (try simp only [List.getElem_cons_zero]); (try simp only [Act.put]); (try simp only [List.setIfInBounds_toArray]); (try simp only [List.set_cons_succ]); (try simp only [List.set_cons_zero]))
  refine wpAnyH_take (i := 7) (v := ?qvu79) rfl (by kernel_rfl) (by kernel_rfl) (by kernel_rfl) (fun _ _ _ h => h) (Or.inl ⟨by rfl, ?qyu79⟩) (by assumption) ?qru79; case qyu79 => ((intro w hSw; (try dsimp only at hSw); go_simp); try (with_reducible rfl))
  ((try simp only [List.getElem_toArray]); (try simp only [List.getElem_cons_succ]); (try simp only [List.getElem_cons_zero]); (try simp only [Act.put]); (try simp only [List.setIfInBounds_toArray]); (try simp only [List.set_cons_succ]); (try simp only [List.set_cons_zero]))
  refine wpAnyH_take (i := 8) (v := ?qvu80) rfl (by kernel_rfl) (by kernel_rfl) (by kernel_rfl) (fun _ _ _ h => h) (Or.inl ⟨by rfl, ?qyu80⟩) (by assumption) ?qru80; case qyu80 => ((intro w hSw; (try dsimp only at hSw); go_simp); try (with_reducible rfl))
  ((try simp only [List.getElem_toArray]); (try simp only [List.getElem_cons_succ]); (try simp only [List.getElem_cons_zero]); (try simp only [Act.put]); (try simp only [List.setIfInBounds_toArray]); (try simp only [List.set_cons_succ]); (try simp only [List.set_cons_zero]))
  refine wpAnyH_take (i := 9) (v := ?qvu81) rfl (by kernel_rfl) (by kernel_rfl) (by kernel_rfl) (fun _ _ _ h => h) (Or.inl ⟨by rfl, ?qyu81⟩) (by assumption) ?qru81; case qyu81 => ((intro w hSw; (try dsimp only at hSw); go_simp); try (with_reducible rfl))
  ((try simp only [List.getElem_toArray]); (try simp only [List.getElem_cons_succ]); (try simp only [List.getElem_cons_zero]); (try simp only [Act.put]); (try simp only [List.setIfInBounds_toArray]); (try simp only [List.set_cons_succ]); (try simp only [List.set_cons_zero]))
  refine wpAnyH_take (i := 10) (v := ?qvu82) rfl (by kernel_rfl) (by kernel_rfl) (by kernel_rfl) (fun _ _ _ h => h) (Or.inl ⟨by rfl, ?qyu82⟩) (by assumption) ?qru82; case qyu82 => ((intro w hSw; (try dsimp only at hSw); go_simp); try (with_reducible rfl))
  ((try simp only [List.getElem_toArray]); (try simp only [List.getElem_cons_succ]); (try simp only [List.getElem_cons_zero]); (try simp only [Act.put]); (try simp only [List.setIfInBounds_toArray]); (try simp only [List.set_cons_succ]); (try simp only [List.set_cons_zero]))
  refine wpAnyH_take (i := 12) (v := ?qvu83) rfl (by kernel_rfl) (by kernel_rfl) (by kernel_rfl) (fun _ _ _ h => h) (Or.inl ⟨by rfl, ?qyu83⟩) (by assumption) ?qru83; case qyu83 => ((intro w hSw; (try dsimp only at hSw); go_simp); try (with_reducible rfl))
  ((try simp only [List.getElem_toArray]); (try simp only [List.getElem_cons_succ]); (try simp only [List.getElem_cons_zero]); (try simp only [Act.put]); (try simp only [List.setIfInBounds_toArray]); (try simp only [List.set_cons_succ]); (try simp only [List.set_cons_zero]))
  refine wpAnyH_take (i := 13) (v := ?qvu84) rfl (by kernel_rfl) (by kernel_rfl) (by kernel_rfl) (fun _ _ _ h => h) (Or.inl ⟨by rfl, ?qyu84⟩) (by assumption) ?qru84; case qyu84 => ((intro w hSw; (try dsimp only at hSw); go_simp); try (with_reducible rfl))
  ((try simp only [List.getElem_toArray]); (try simp only [List.getElem_cons_succ]); (try simp only [List.getElem_cons_zero]); (try simp only [Act.put]); (try simp only [List.setIfInBounds_toArray]); (try simp only [List.set_cons_succ]); (try simp only [List.set_cons_zero]))
  refine wpAnyH_take (i := 14) (v := ?qvu85) rfl (by kernel_rfl) (by kernel_rfl) (by kernel_rfl) (fun _ _ _ h => h) (Or.inl ⟨by rfl, ?qyu85⟩) (by assumption) ?qru85; case qyu85 => ((intro w hSw; (try dsimp only at hSw); go_simp); try (with_reducible rfl))
  ((try simp only [List.getElem_toArray]); (try simp only [List.getElem_cons_succ]); (try simp only [List.getElem_cons_zero]); (try simp only [Act.put]); (try simp only [List.setIfInBounds_toArray]); (try simp only [List.set_cons_succ]); (try simp only [List.set_cons_zero]))
  refine wpAnyH_ready (rs := [11, 15]) (by kernel_rfl) (by simp) ?_
  refine AllReadyH.cons rfl (fun K hK => ?_) (AllReadyH.cons rfl (fun K hK => ?_) AllReadyH.nil)
  · go_simp
    refine hK.out _ _ hHeld (fun hHeld => ?_)
    clear hK K
    ((try simp only [List.getElem_toArray]); (try simp only [List.getElem_cons_succ]); (try simp only [List.getElem_cons_zero]); (try simp only [Act.put]); (try simp only [List.setIfInBounds_toArray]); (try simp only [List.set_cons_succ]); (try simp only [List.set_cons_zero]))
    refine wpAnyH_ready (rs := [15]) (by kernel_rfl) (by simp) ?_
    refine AllReadyH.cons rfl (fun K hK => ?_) AllReadyH.nil
    go_simp
    refine hK.out _ _ c53 (fun hHeld => ?_)
    clear hK K
    ((try simp only [List.getElem_toArray]); (try simp only [List.getElem_cons_succ]); (try simp only [List.getElem_cons_zero]); (try simp only [Act.put]); (try simp only [List.setIfInBounds_toArray]); (try simp only [List.set_cons_succ]); (try simp only [List.set_cons_zero]))
    refine wpAnyH_ready (rs := [16]) (by kernel_rfl) (by simp) ?_
    refine AllReadyH.cons rfl (fun K hK => ?_) AllReadyH.nil
    go_simp
    refine INS.out.mono ?_
    rintro e w4 ⟨g, c, rfl, o4, k4, hg4⟩
    have cb4 := k4.cell cb3 (fun e => (nx _ e).2 rfl)
    have fb4 := (k4.frozen (a := ⟨B, b, none⟩) lB3 (fun e => (nx _ e).2 rfl)).trans fb3
    have c54 := k4.cell c53 (fun e => (nx _ e).1 rfl)
    refine hK.out _ _ c54 (fun hHeld => ?_)
    clear hK K
    ((try simp only [List.getElem_toArray]); (try simp only [List.getElem_cons_succ]); (try simp only [List.getElem_cons_zero]); (try simp only [Act.put]); (try simp only [List.setIfInBounds_toArray]); (try simp only [List.set_cons_succ]); (try simp only [List.set_cons_zero]))
    refine wpAnyH_take (i := 17) (v := ?qvu86) rfl (by kernel_rfl) (by kernel_rfl) (by kernel_rfl) (fun _ _ _ h => h) (Or.inl ⟨by rfl, ?qyu86⟩) (by assumption) ?qru86; case qyu86 => ((intro w hSw; (try dsimp only at hSw); go_simp); try (with_reducible rfl))
    ((try simp only [List.getElem_toArray]); (try simp only [List.getElem_cons_succ]); (try simp only [List.getElem_cons_zero]); (try simp only [Act.put]); (try simp only [List.setIfInBounds_toArray]); (try simp only [List.set_cons_succ]); (try simp only [List.set_cons_zero]))
    refine wpAnyH_ready (rs := [18]) (by kernel_rfl) (by simp) ?_
    refine AllReadyH.cons rfl (fun K hK => ?_) AllReadyH.nil
    go_simp
    refine hK.out _ _ ((World.cell?_setCell_other _ _ _ _ (by simp)).trans c54) (fun hHeld => ?_)
    clear hK K
    ((try simp only [List.getElem_toArray]); (try simp only [List.getElem_cons_succ]); (try simp only [List.getElem_cons_zero]); (try simp only [Act.put]); (try simp only [List.setIfInBounds_toArray]); (try simp only [List.set_cons_succ]); (try simp only [List.set_cons_zero]))
    refine wpAnyH_done (by kernel_rfl) ?_ _
    go_wp2
    go_ret2
    exact ⟨_, rfl, FIN.out _ _ _ o4 k4 hg4⟩
  · go_simp
    refine hK.out _ _ c53 (fun hHeld => ?_)
    clear hK K
    ((try simp only [List.getElem_toArray]); (try simp only [List.getElem_cons_succ]); (try simp only [List.getElem_cons_zero]); (try simp only [Act.put]); (try simp only [List.setIfInBounds_toArray]); (try simp only [List.set_cons_succ]); (try simp only [List.set_cons_zero]))
    refine wpAnyH_ready (rs := [11]) (by kernel_rfl) (by simp) ?_
    refine AllReadyH.cons rfl (fun K hK => ?_) AllReadyH.nil
    go_simp
    refine hK.out _ _ hHeld (fun hHeld => ?_)
    clear hK K
    ((try simp only [List.getElem_toArray]); (try simp only [List.getElem_cons_succ]); (try simp only [List.getElem_cons_zero]); (try simp only [Act.put]); (try simp only [List.setIfInBounds_toArray]); (try simp only [List.set_cons_succ]); (try simp only [List.set_cons_zero]))
    refine wpAnyH_ready (rs := [16]) (by kernel_rfl) (by simp) ?_
    refine AllReadyH.cons rfl (fun K hK => ?_) AllReadyH.nil
    go_simp
    refine INS.out.mono ?_
    rintro e w4 ⟨g, c, rfl, o4, k4, hg4⟩
    have cb4 := k4.cell cb3 (fun e => (nx _ e).2 rfl)
    have fb4 := (k4.frozen (a := ⟨B, b, none⟩) lB3 (fun e => (nx _ e).2 rfl)).trans fb3
    have c54 := k4.cell c53 (fun e => (nx _ e).1 rfl)
    refine hK.out _ _ c54 (fun hHeld => ?_)
    clear hK K
    ((try simp only [List.getElem_toArray]); (try simp only [List.getElem_cons_succ]); (try simp only [List.getElem_cons_zero]); (try simp only [Act.put]); (try simp only [List.setIfInBounds_toArray]); (try simp only [List.set_cons_succ]); (try simp only [List.set_cons_zero]))
    refine wpAnyH_take (i := 17) (v := ?qvu87) rfl (by kernel_rfl) (by kernel_rfl) (by kernel_rfl) (fun _ _ _ h => h) (Or.inl ⟨by rfl, ?qyu87⟩) (by assumption) ?qru87; case qyu87 => ((intro w hSw; (try dsimp only at hSw); go_simp); try (with_reducible rfl))
    ((try simp only [List.getElem_toArray]); (try simp only [List.getElem_cons_succ]); (try simp only [List.getElem_cons_zero]); (try simp only [Act.put]); (try simp only [List.setIfInBounds_toArray]); (try simp only [List.set_cons_succ]); (try simp only [List.set_cons_zero]))
    refine wpAnyH_ready (rs := [18]) (by kernel_rfl) (by simp) ?_
    refine AllReadyH.cons rfl (fun K hK => ?_) AllReadyH.nil
    go_simp
    refine hK.out _ _ ((World.cell?_setCell_other _ _ _ _ (by simp)).trans c54) (fun hHeld => ?_)
    clear hK K
    ((try simp only [List.getElem_toArray]); (try simp only [List.getElem_cons_succ]); (try simp only [List.getElem_cons_zero]); (try simp only [Act.put]); (try simp only [List.setIfInBounds_toArray]); (try simp only [List.set_cons_succ]); (try simp only [List.set_cons_zero]))
    refine wpAnyH_done (by kernel_rfl) ?_ _
    go_wp2
    go_ret2
    exact ⟨_, rfl, FIN.out _ _ _ o4 k4 hg4⟩
end
end Go.Proofs.YtmfpjnlplimkeaaGreat
