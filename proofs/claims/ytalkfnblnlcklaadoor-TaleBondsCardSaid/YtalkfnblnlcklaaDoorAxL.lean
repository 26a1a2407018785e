/- Slices of elements of several cells, whatever they are: that lie somewhere (read alone), that the call itself has made (from a block on); append of the one to the other; what is read of a part. No condition but lengths of 100,000 at most. -/
import Derived.Test.YtalkfnblnlcklaaDoorOwnM
import Derived.Deep.AppendLies
import Derived.Laws.AppendOwnNone
namespace Go.Proofs.YtalkfnblnlcklaaDoor
open Go.ChangeShapes Go.WideShapes Go.ChangeAt Go.RowKit
set_option linter.unusedVariables false
/-- The slice value v reads as the elements zs, each of m cells, by f. -/
def Lies {α : Type} (m : Nat) (f : α → List Value) (w : World) (v : Value) (zs : List α) : Prop :=
  ∃ A c, v = .slice A zs.length c ∧ zs.length ≤ c ∧ c ≤ maxLen ∧ (A = none → c = 0) ∧ (0 < zs.length → ∃ b off, A = some ⟨b, off, none⟩ ∧ b < w.heap.size ∧ ∀ j z, zs[j]? = some z → ∀ i u, (f z)[i]? = some u → w.cell? ⟨b, off + j * m + i, none⟩ = some u)
/-- The slice value v is the call's own, from block B on (or nil), and holds the elements zs. -/
def OwnB {α : Type} (m : Nat) (f : α → List Value) (e : TypeId) (B : Nat) (w : World) (v : Value) (zs : List α) : Prop := w.ownsRow B e m v zs.length (zs.flatMap f)
section
variable {α : Type} {m : Nat} {f : α → List Value} {e : TypeId} {B : Nat} {w w' : World} {v u : Value} {zs xs : List α} {S : Nat → Prop}
theorem Lies.keep (h : Lies m f w v zs) (k : Keep (fun _ => False) w w') : Lies m f w' v zs := by
  obtain ⟨A, c, rfl, h1, h2, h3, h4⟩ := h
  refine ⟨A, c, rfl, h1, h2, h3, fun h0 => ?_⟩
  obtain ⟨b, off, rfl, hb, hc⟩ := h4 h0
  exact ⟨b, off, rfl, Nat.lt_of_lt_of_le hb k.size, fun j z hz i u hu => k.cell (hc j z hz i u hu) id⟩
theorem Lies.keepS (h : Lies m f w v zs) (k : Keep S w w') (hn : ∀ b, b < w.heap.size → ¬ S b) : Lies m f w' v zs := by
  obtain ⟨A, c, rfl, h1, h2, h3, h4⟩ := h
  refine ⟨A, c, rfl, h1, h2, h3, fun h0 => ?_⟩
  obtain ⟨b, off, rfl, hb, hc⟩ := h4 h0
  exact ⟨b, off, rfl, Nat.lt_of_lt_of_le hb k.size, fun j z hz i u hu => k.cell (hc j z hz i u hu) (hn b hb)⟩
theorem Lies.nil : Lies m f w (.slice none 0 0) ([] : List α) := ⟨none, 0, rfl, Nat.le_refl _, Nat.zero_le _, fun _ => rfl, fun h => absurd h (Nat.lt_irrefl _)⟩
theorem Lies.take {A : Option Addr} {n c : Nat} (h : Lies m f w (.slice A n c) zs) (i : Nat) (hi : i ≤ n) : Lies m f w (.slice A i c) (zs.take i) := by
  obtain ⟨A', c', e, hc, hm, hz, hf⟩ := h
  cases e
  have el : (zs.take i).length = i := by rw [List.length_take]; omega
  refine ⟨A, c, by rw [el], by omega, hm, hz, fun h0 => ?_⟩
  obtain ⟨b, off, rfl, hb, he⟩ := hf (by omega)
  refine ⟨b, off, rfl, hb, fun j p hp => he j p ?_⟩
  have hj : j < i := by have := (List.getElem?_eq_some_iff.1 hp).1; omega
  rwa [List.getElem?_take_of_lt hj] at hp
theorem Lies.drop {A A' : Option Addr} {n c : Nat} (h : Lies m f w (.slice A n c) zs) (i : Nat) (hi : i ≤ n) (hA : A' = if c = i then A else A.map fun a => a.add (i * m)) : Lies m f w (.slice A' (n - i) (c - i)) (zs.drop i) := by
  obtain ⟨A2, c', e, hc, hm, hz, hf⟩ := h
  cases e
  have el : (zs.drop i).length = zs.length - i := by rw [List.length_drop]
  refine ⟨A', c - i, by rw [el], by omega, by omega, fun e => ?_, fun h0 => ?_⟩
  · rw [e] at hA
    split at hA
    · omega
    · cases A with
      | none => have := hz rfl; omega
      | some ad => cases hA
  · obtain ⟨b, off, rfl, hb, he⟩ := hf (by omega)
    rw [if_neg (by omega)] at hA
    refine ⟨b, off + i * m, by rw [hA]; simp [Addr.add], hb, fun j p hp a u hu => ?_⟩
    rw [List.getElem?_drop] at hp
    have := he (i + j) p hp a u hu
    rwa [Nat.add_mul, ← Nat.add_assoc] at this
theorem OwnB.keep (h : OwnB m f e B w v zs) (k : Keep S w w') (hn : ∀ g, v.ownBlock = some g → ¬ S g) : OwnB m f e B w' v zs := by
  obtain ⟨h1, h2⟩ := id h
  refine ⟨h1, ?_⟩
  rcases h2 with h2 | ⟨g, c, cur, hv, hg, hh, r⟩
  · exact .inl h2
  · subst hv
    exact .inr ⟨g, c, cur, rfl, hg, by rw [k.block g (lt_of_block hh) (hn g rfl)]; exact hh, r⟩
theorem OwnB.lt (h : OwnB m f e B w v zs) {g : Nat} (hg : v.ownBlock = some g) : B ≤ g ∧ g < w.heap.size := World.ownsRow.lt h g hg
theorem OwnB.ownM (h : OwnB m f e B w v zs) : OwnM m f e w v zs := OwnM.of_base h rfl rfl
theorem _root_.Go.Proofs.YtalkfnblnlcklaaDoor.OwnM.lies (hf : ∀ x, (f x).length = m) (o : OwnM m f e w v zs) : Lies m f w v zs := by
  rcases OwnM.form o with ⟨rfl, rfl⟩ | ⟨g, c, rfl, hg, hc, hm⟩
  · exact Lies.nil
  · refine ⟨_, c, rfl, hc, hm, (fun e => by cases e), fun _ => ⟨g, 0, rfl, hg, fun j z hz i u hu => ?_⟩⟩
    obtain ⟨hj, ez⟩ := List.getElem?_eq_some_iff.1 hz
    have hi : i < m := by have := (List.getElem?_eq_some_iff.1 hu).1; rw [hf] at this; exact this
    have := OwnM.cell hf o j i hj hi
    rw [ez, hu] at this
    rw [Nat.zero_add]
    exact this
theorem OwnB.lies (hf : ∀ x, (f x).length = m) (h : OwnB m f e B w v zs) : Lies m f w v zs := OwnM.lies hf h.ownM
theorem OwnB.low {B' : Nat} (o : OwnB m f e B w v zs) (hB : B' ≤ B) : OwnB m f e B' w v zs := by
  obtain ⟨h1, h2⟩ := o
  refine ⟨h1, ?_⟩
  rcases h2 with h2 | ⟨g, c, cur, hv, hg, r⟩
  · exact .inl h2
  · exact .inr ⟨g, c, cur, hv, Nat.le_trans hB hg, r⟩
theorem OwnB.nil : OwnB m f e B w (.slice none 0 0) ([] : List α) := World.ownsRow_nil _ _ _ _
theorem OwnB.empty (hB : B ≤ w.heap.size) : OwnB m f e B (w.alloc (.cells #[] e)) (.slice (some ⟨w.heap.size, 0, none⟩) 0 0) ([] : List α) := World.ownsRow_lit w #[] 0 hB (by unfold maxLen; omega) (by simp)
theorem Lies.one (hf : ∀ x, (f x).length = m) (hm : 0 < m) (w : World) (y : α) (e : TypeId) : Lies m f (w.alloc (.cells (f y).toArray e)) (.slice (some ⟨w.heap.size, 0, none⟩) 1 1) [y] := by
  refine ⟨_, 1, rfl, Nat.le_refl _, by unfold maxLen; omega, (fun e => by cases e), fun _ => ⟨w.heap.size, 0, rfl, by simp, fun j z hz i u hu => ?_⟩⟩
  match j, hz with
  | 0, hz =>
    simp at hz
    subst hz
    obtain ⟨hi, eu⟩ := List.getElem?_eq_some_iff.1 hu
    simp [hi, eu]
  | j + 1, hz => simp at hz
/-- 'append(l, x...)' of elements that lie somewhere to the call's own. -/
theorem wp_appM {t : TypeId} {z : Value} {bytes : Nat} (hu : Tryd.prog.underlying t = some (.slice e)) (hinfo : (Tryd.prog.info? e).map (fun i => (i.zero, i.size, i.bytes)) = some (some z, m, bytes))
    (hz : z.cells.size = m) (hm : 0 < m) (hby : bytes ≤ 128) (hf : ∀ x, (f x).length = m) (h1 : ∀ x ∈ xs, ∀ u ∈ f x, u.oneCell' = true) {ops : Array Oper} {rest : List Oper} {o : Oper} {a : Act} {Q : Exit → Act → World → Prop} (hgd : o.guard = none) (s x : Operand)
    (ho : o.op = .call { callee := .builtin .append, args := #[s, x], argTypes := #[t, t] })
    (hB : B ≤ w.heap.size) (hs : a.eval s = v) (hown : OwnB m f e B w v zs) (hx : a.eval x = u) (hlu : Lies m f w u xs) (hl : zs.length + xs.length ≤ 100000)
    (h : ∀ v' w', OwnB m f e B w' v' (zs ++ xs) → Keep (fun j => v.ownBlock = some j) w w' → wpList Tryd.prog ops Q rest (a.put o.dst v') w') : wpList Tryd.prog ops Q (o :: rest) a w := by
  obtain ⟨i0, hi0, hz0, hz1, hz2⟩ := info_parts hinfo
  obtain ⟨A, c, rfl, hc, _, hzz, hff⟩ := hlu
  cases A with
  | none =>
    obtain rfl : c = 0 := hzz rfl
    have e0 : xs = [] := List.length_eq_zero_iff.1 (by omega)
    subst e0
    have := h v w (by rw [List.append_nil]; exact hown) (Keep.refl _ _)
    exact wpList_append_own_none hgd s x t ho B e i0 m hu hi0 v zs.length _ hs hown hx this
  | some ad =>
    have fl : (xs.flatMap f).length = xs.length * m := flat_len hf xs
    have hn : ∀ j y, (xs.flatMap f)[j]? = some y → w.cell? (ad.add j) = some y := fun j y hj => by
      have lj := (List.getElem?_eq_some_iff.1 hj).1
      rw [fl] at lj
      have l0 : 0 < xs.length := Nat.pos_of_ne_zero fun c => by rw [c, Nat.zero_mul] at lj; omega
      obtain ⟨b, off, e, hb, he⟩ := hff l0
      cases e
      have hi : j / m < xs.length := Nat.div_lt_of_lt_mul (by rw [Nat.mul_comm]; exact lj)
      have ej : j = j / m * m + j % m := by rw [Nat.mul_comm]; exact (Nat.div_add_mod j m).symm
      have hr : j % m < m := Nat.mod_lt _ hm
      rw [ej, flat_get hf xs (j / m) (j % m) hi hr] at hj
      have := he (j / m) _ (List.getElem?_eq_getElem hi) (j % m) y hj
      rw [add_plain, ej, ← Nat.add_assoc]
      exact this
    have one : ∀ y ∈ xs.flatMap f, y.oneCell' = true := fun y hy => by
      obtain ⟨p, hp, hm⟩ := List.mem_flatMap.1 hy
      exact h1 p hp y hm
    refine wpList_append_own _ hgd s x t ho B e i0 _ m bytes hu hi0 hz0 hz1 hz2 hz hm v zs.length (zs.flatMap f) hs hown ad xs.length c (xs.flatMap f) hx fl hn one (by unfold maxLen; omega) (by
      have : (zs.length + xs.length) * bytes ≤ 100000 * 128 := Nat.mul_le_mul hl hby
      omega) hB ?_
    intro v' w' o1 gr _
    refine h v' w' ?_ ⟨gr.os, gr.tape, gr.output, gr.size, fun j hj hn => gr.block j hj (fun e => hn e.symm)⟩
    unfold OwnB
    rw [List.length_append, List.flatMap_append]
    exact o1
end
end Go.Proofs.YtalkfnblnlcklaaDoor
