/- A Table that keeps its transactions in blocks of their own, behind a slice of pointers: what it is, whatever cells a transaction has (E); kept where other blocks turn; behind the turn of one transaction, and behind a new one. No dump; no condition. -/
import Derived.Test.YtodmpmnjkfnogaaPush1
import Derived.Test.YtodmpmnjkfnogaaTb
namespace Go.Proofs.Ytodmpmnjkfnogaa
open Go.ChangeShapes Go.WideShapes Go.ChangeAt Go.RowKit
set_option linter.unusedVariables false

/-- What a transaction's block is to be: E w b x; it stays where the block does. -/
structure Ents (E : World → Nat → Tx → Prop) : Prop where
  keep : ∀ {S : Nat → Prop} {w w' : World} {b : Nat} {x : Tx}, E w b x → Keep S w w' → ¬ S b → E w' b x
  lt : ∀ {w : World} {b : Nat} {x : Tx}, E w b x → b < w.heap.size
structure PT (E : World → Nat → Tx → Prop) (om ov : Nat) (e : TypeId) (w : World) (p : Nat) (v : Value) (bs : List Nat) (s : TS) : Prop where
  cm : w.cell? ⟨p, om, none⟩ = some (.int .i64 s.most)
  cv : w.cell? ⟨p, ov, none⟩ = some v
  fz : ∀ i, w.frozen? ⟨p, i, none⟩ = false
  ow : Own ptrV e w v bs
  bl : bs.length = s.l.length
  en : ∀ i, i < s.l.length → E w (bs.getD i 0) (s.tx i)
  dj : ∀ i j, i < j → j < s.l.length → bs.getD i 0 ≠ bs.getD j 0
  np : ∀ i, i < s.l.length → bs.getD i 0 ≠ p
  nv : ∀ i, i < s.l.length → v.ownBlock ≠ some (bs.getD i 0)
  vp : v.ownBlock ≠ some p
/-- Its blocks. -/
def PFoot (p : Nat) (v : Value) (bs : List Nat) (n : Nat) (k : Nat) : Prop := k = p ∨ v.ownBlock = some k ∨ ∃ i, i < n ∧ bs.getD i 0 = k
section
variable {E : World → Nat → Tx → Prop} {om ov : Nat} {e : TypeId} {w w' : World} {p : Nat} {v : Value} {bs : List Nat} {s : TS}
theorem PT.lt (hE : Ents E) (h : PT E om ov e w p v bs s) (k : Nat) (hk : PFoot p v bs s.l.length k) : k < w.heap.size := by
  rcases hk with rfl | hk | ⟨i, hi, rfl⟩
  · exact lt_of_cell (a := ⟨k, om, none⟩) h.cm
  · exact h.ow.lt hk
  · exact hE.lt (h.en i hi)
theorem PT.keep (hE : Ents E) {S : Nat → Prop} (h : PT E om ov e w p v bs s) (k : Keep S w w') (hn : ∀ g, PFoot p v bs s.l.length g → ¬ S g) : PT E om ov e w' p v bs s :=
  have np : ¬ S p := hn p (.inl rfl)
  ⟨k.cell h.cm np, k.cell h.cv np, fun i => (k.frozen (a := ⟨p, i, none⟩) (lt_of_cell (a := ⟨p, om, none⟩) h.cm) np).trans (h.fz i), h.ow.keep k (fun g hg => hn g (.inr (.inl hg))), h.bl,
    fun i hi => hE.keep (h.en i hi) k (hn _ (.inr (.inr ⟨i, hi, rfl⟩))), h.dj, h.np, h.nv, h.vp⟩
theorem PT.form (h : PT E om ov e w p v bs s) : ∃ A c, v = .slice A s.l.length c ∧ (A = none → s.l.length = 0) ∧ ∀ ad, A = some ad → ∃ g, ad = ⟨g, 0, none⟩ := by
  rcases h.ow.form with ⟨rfl, z⟩ | ⟨g, c, rfl, _⟩
  · have : s.l.length = 0 := by rw [← h.bl, z]; rfl
    exact ⟨none, 0, by rw [this], fun _ => this, fun ad h => by cases h⟩
  · exact ⟨some ⟨g, 0, none⟩, c, by rw [h.bl], fun h => (by cases h), fun ad h => (by cases h; exact ⟨g, rfl⟩)⟩
theorem PT.slot (h : PT E om ov e w p v bs s) (i : Nat) (hi : i < s.l.length) : ∃ g c, v = .slice (some ⟨g, 0, none⟩) s.l.length c ∧ w.cell? ⟨g, i, none⟩ = some (ptrV (bs.getD i 0)) := by
  rcases h.ow.form with ⟨rfl, z⟩ | ⟨g, c, rfl, _⟩
  · rw [← h.bl, z] at hi; simp at hi
  · have hi2 : i < bs.length := by rw [h.bl]; exact hi
    have := h.ow.cell i hi2
    exact ⟨g, c, by rw [h.bl], by rw [this]; simp [List.getD_eq_getElem?_getD, hi2]⟩
/-- One transaction's block has turned. -/
theorem PT.put (hE : Ents E) (h : PT E om ov e w p v bs s) (i : Nat) (hi : i < s.l.length) {x : Tx} (k : Keep (fun j => j = bs.getD i 0) w w') (hx : E w' (bs.getD i 0) x) : PT E om ov e w' p v bs (s.put i x) := by
  have hl : (s.put i x).l.length = s.l.length := TS.put_len s i x
  have np : ¬ p = bs.getD i 0 := fun e => h.np i hi e.symm
  refine ⟨k.cell h.cm np, k.cell h.cv np, fun j => (k.frozen (a := ⟨p, j, none⟩) (lt_of_cell (a := ⟨p, om, none⟩) h.cm) np).trans (h.fz j), h.ow.keep k (fun g hg e => h.nv i hi (by rw [hg, e])), by rw [hl]; exact h.bl, fun j hj => ?_, fun a b ab hb => h.dj a b ab (by rwa [hl] at hb), fun j hj => h.np j (by rwa [hl] at hj), fun j hj => h.nv j (by rwa [hl] at hj), h.vp⟩
  rw [hl] at hj
  rw [TS.tx_put s i j x hi]
  split
  · rename_i e; subst e; exact hx
  · rename_i e
    refine hE.keep (h.en j hj) k (fun e2 => ?_)
    rcases Nat.lt_or_gt_of_ne e with h1 | h1
    · exact h.dj i j h1 hj e2.symm
    · exact h.dj j i h1 hi e2
/-- A new one, in block b, is put behind the others. -/
theorem PT.push (hE : Ents E) (h : PT E om ov e w p v bs s) {x : Tx} {b g c : Nat} {w1 w2 : World} (k0 : Keep (fun _ => False) w w1) (hb : w.heap.size ≤ b) (hb1 : b < w1.heap.size) (hx : E w1 b x)
    (o : OwnAt 0 ptrV e w2 (.slice (some ⟨g, 0, none⟩) (bs.length + 1) c) (bs ++ [b])) (k : Keep (fun j => v.ownBlock = some j) w1 w2) (hg : v.ownBlock = some g ∨ w1.heap.size ≤ g) (hne : om ≠ ov) :
    PT E om ov e (w2.setCell ⟨p, ov, none⟩ (.slice (some ⟨g, 0, none⟩) (bs.length + 1) c)) p (.slice (some ⟨g, 0, none⟩) (bs.length + 1) c) (bs ++ [b]) { s with l := s.l ++ [x] } ∧
      Keep (PFoot p v bs s.l.length) w (w2.setCell ⟨p, ov, none⟩ (.slice (some ⟨g, 0, none⟩) (bs.length + 1) c)) := by
  have h1 := h.keep hE k0 (by simp)
  have vb : v.ownBlock ≠ some b := fun e => by have := h.ow.lt e; omega
  have pl : p < w.heap.size := lt_of_cell (a := ⟨p, om, none⟩) h.cm
  have gp : g ≠ p := fun e => by subst e; rcases hg with y | y; exact h.vp y; exact absurd (Nat.lt_of_lt_of_le pl k0.size) (Nat.not_lt.2 y)
  have kk : Keep (fun j => v.ownBlock = some j ∨ j = p) w1 (w2.setCell ⟨p, ov, none⟩ (.slice (some ⟨g, 0, none⟩) (bs.length + 1) c)) := Keep.setCell (S := fun j => v.ownBlock = some j ∨ j = p) (k.mono (fun j hj => .inl hj)) (.inr rfl) _
  have ln : ({ s with l := s.l ++ [x] } : TS).l.length = s.l.length + 1 := by simp
  have gd : ∀ j, (bs ++ [b]).getD j 0 = if j < s.l.length then bs.getD j 0 else if j = s.l.length then b else 0 := fun j => by
    simp only [List.getD_eq_getElem?_getD, List.getElem?_append, h.bl]
    by_cases e : j < s.l.length
    · simp [e]
    · by_cases e2 : j = s.l.length
      · subst e2; simp
      · rw [if_neg e, if_neg e, if_neg e2, List.getElem?_eq_none (by simp; omega)]; rfl
  have cv2 := k.cell h1.cv h.vp
  refine ⟨⟨?_, World.cell?_setCell_same _ _ _ cv2, fun i => ?_, ?_, by rw [ln, List.length_append, h.bl]; rfl, fun j hj => ?_, fun i j ij hj => ?_, fun j hj => ?_, fun j hj => ?_, fun e => gp (by simpa [Value.ownBlock] using e)⟩, ?_⟩
  · rw [World.cell?_setCell_other _ _ _ _ (by intro e; exact hne (congrArg Addr.off e).symm)]; exact k.cell h1.cm h.vp
  · rw [World.frozen?_setCell]; exact (k.frozen (a := ⟨p, i, none⟩) (Nat.lt_of_lt_of_le pl k0.size) h.vp).trans (h1.fz i)
  · have : Own ptrV e w2 (.slice (some ⟨g, 0, none⟩) (bs.length + 1) c) (bs ++ [b]) := o
    exact this.keep (keep_one w2 ⟨p, ov, none⟩ _) (fun y hy e => gp (by simp [Value.ownBlock] at hy; rw [hy]; exact e))
  · rw [ln] at hj
    rw [gd, TS.tx_push]
    by_cases e : j < s.l.length
    · rw [if_pos e, if_neg (by omega)]
      exact hE.keep (h1.en j e) kk (fun y => by rcases y with y | y; exact h.nv j e y; exact h.np j e y)
    · have e2 : j = s.l.length := by omega
      rw [if_neg e, if_pos e2, if_pos e2]
      exact hE.keep hx kk (fun y => by rcases y with y | y; exact vb y; subst y; exact absurd pl (Nat.not_lt.2 hb))
  · rw [ln] at hj
    rw [gd, gd, if_pos (by omega)]
    by_cases e : j < s.l.length
    · rw [if_pos e]; exact h.dj i j ij e
    · rw [if_neg e, if_pos (by omega)]
      have := hE.lt (h.en i (by omega))
      omega
  · rw [ln] at hj
    rw [gd]
    by_cases e : j < s.l.length
    · rw [if_pos e]; exact h.np j e
    · rw [if_neg e, if_pos (by omega)]
      omega
  · rw [ln] at hj
    rw [gd]
    intro y
    simp only [Value.ownBlock, Option.some.injEq] at y
    by_cases e : j < s.l.length
    · rw [if_pos e] at y
      rcases hg with z | z
      · exact h.nv j e (by rw [z, y])
      · have := hE.lt (h1.en j e); omega
    · rw [if_neg e, if_pos (by omega)] at y
      rcases hg with z | z
      · exact vb (by rw [z, y])
      · omega
  · have kw : Keep (PFoot p v bs s.l.length) w w1 := k0.mono (by simp)
    exact kw.trans (kk.mono (fun j hj => by rcases hj with y | y; exact .inr (.inl y); exact .inl y))
end
end Go.Proofs.Ytodmpmnjkfnogaa
