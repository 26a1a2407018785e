/- Appends to a slice of words of the call's own, at a step of a region that draws its order: of whatever slice of words; what is read of its part ahead of a place, and from it on. No condition but lengths of 100,000 at most. -/
import Derived.Test.YtmfpjnlplimkeaaPush
namespace Go.Proofs.Ytmfpjnlplimkeaa
open Go.ChangeShapes Go.WideShapes Go.ChangeAt Go.RowKit
set_option linter.unusedVariables false

theorem own_lit {w : World} {B : Nat} (hB : B ≤ w.heap.size) (x : Int) : OwnU B (w.alloc (.cells #[.int .u64 x] 22)) (.slice (some ⟨w.heap.size, 0, none⟩) 1 1) [x] := World.ownsRow_lit w #[.int .u64 x] 1 hB (by unfold maxLen; omega) rfl
/-- The whole of it, of a slice that reads so. -/
theorem all_at {w w' : World} {B g c : Nat} {L : List Int} (o : OwnU B w (.slice (some ⟨g, 0, none⟩) L.length c) L) (k : ∀ (t : Nat) u, w.cell? ⟨g, t, none⟩ = some u → w'.cell? ⟨g, t, none⟩ = some u) : ∀ t, t < L.length → w'.cell? ((⟨g, 0, none⟩ : Addr).add t) = some (.int .u64 (L.getD t 0)) := by
  intro t ht
  rw [add_plain, Nat.zero_add]
  exact k t _ (o.cell t ht)
theorem OwnU.lower {w : World} {B B' : Nat} {v : Value} {zs : List Int} (o : OwnU B' w v zs) (hB : B ≤ B') : OwnU B w v zs := by
  obtain ⟨h1, h2⟩ := o
  refine ⟨h1, ?_⟩
  rcases h2 with h2 | ⟨g, c, cur, hv, hg, r⟩
  · exact .inl h2
  · exact .inr ⟨g, c, cur, hv, Nat.le_trans hB hg, r⟩
theorem OwnU.shape {B : Nat} {w : World} {v : Value} {zs : List Int} (h : OwnU B w v zs) : (v = .slice none 0 0 ∧ zs = []) ∨ ∃ g c, v = .slice (some ⟨g, 0, none⟩) zs.length c ∧ B ≤ g ∧ g < w.heap.size ∧ zs.length ≤ c := by
  obtain ⟨h1, h2⟩ := id h
  rcases h2 with ⟨h3, h4⟩ | ⟨g, c, cur, hv, hB, hh, hc, _⟩
  · exact .inl ⟨h3, List.length_eq_zero_iff.1 h4⟩
  · exact .inr ⟨g, c, hv, hB, lt_of_block hh, hc⟩
theorem own_empty {w : World} {B : Nat} (hB : B ≤ w.heap.size) : OwnU B (w.alloc (.cells #[] 22)) (.slice (some ⟨w.heap.size, 0, none⟩) 0 0) [] := World.ownsRow_lit w #[] 0 hB (by unfold maxLen; omega) rfl
/-- The part ahead of a place. -/
theorem take_at {w w' : World} {B g c : Nat} {L : List Int} (o : OwnU B w (.slice (some ⟨g, 0, none⟩) L.length c) L) (k : ∀ (t : Nat) u, w.cell? ⟨g, t, none⟩ = some u → w'.cell? ⟨g, t, none⟩ = some u) (j : Nat) : ∀ t, t < (L.take j).length → w'.cell? ((⟨g, 0, none⟩ : Addr).add t) = some (.int .u64 ((L.take j).getD t 0)) := by
  intro t ht
  rw [List.length_take] at ht
  rw [add_plain, Nat.zero_add]
  refine k t _ ?_
  rw [o.cell t (by omega)]
  congr 2
  rw [List.getD_eq_getElem?_getD, List.getD_eq_getElem?_getD, List.getElem?_take, if_pos (by omega)]
/-- The part from a place on. -/
theorem drop_at {w w' : World} {B g c : Nat} {L : List Int} (o : OwnU B w (.slice (some ⟨g, 0, none⟩) L.length c) L) (k : ∀ (t : Nat) u, w.cell? ⟨g, t, none⟩ = some u → w'.cell? ⟨g, t, none⟩ = some u) (j : Nat) {ad : Addr} (had : ¬ c = j → ad = ⟨g, j, none⟩) (hc : L.length ≤ c) : ∀ t, t < (L.drop j).length → w'.cell? (ad.add t) = some (.int .u64 ((L.drop j).getD t 0)) := by
  intro t ht
  rw [List.length_drop] at ht
  rw [had (by omega), add_plain]
  refine k (j + t) _ ?_
  rw [o.cell (j + t) (by omega)]
  congr 2
  rw [List.getD_eq_getElem?_getD, List.getD_eq_getElem?_getD, List.getElem?_drop]
end Go.Proofs.Ytmfpjnlplimkeaa
