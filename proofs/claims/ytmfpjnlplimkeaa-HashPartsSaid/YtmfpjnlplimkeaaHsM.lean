/- Package hash, first part: a bucket's entries in memory; the look for a key in them (slices.IndexFunc with the closure of look); condition: at most 100,000 entries. -/
import Derived.Test.YtmfpjnlplimkeaaOwnM
import Derived.Deep.AppendLies
import Derived.Lib.AppendZerosOnto
import Derived.Lib.Overlaps
import Derived.Laws.CopyOwn
import Derived.Laws.Externs
import Derived.Deep.RegionLaw
namespace Go.Proofs.Ytmfpjnlplimkeaa
open Go.ChangeShapes Go.WideShapes Go.ChangeAt Go.RowKit
set_option linter.unusedVariables false

/-- An entry: its key, and the block of its Chain. -/
def entC (e : Nat × Nat) : List Value := [.int .i64 (e.1 : Int), .pointer (some ⟨e.2, 0, none⟩)]
theorem entC_len (e : Nat × Nat) : (entC e).length = 2 := rfl
/-- The slice value v is the call's own (or nil) and holds the entries es. -/
abbrev OwnE (w : World) (v : Value) (es : List (Nat × Nat)) : Prop := OwnM 2 entC 65 w v es
theorem info_ent : (Try.prog.info? 65).map (fun i => (i.zero, i.size, i.bytes)) = some (some (.agg #[.int .i64 0, .pointer none]), 2, 16) := by kernel_rfl
theorem OwnE.two {w : World} {g n c : Nat} {es : List (Nat × Nat)} (o : OwnE w (.slice (some ⟨g, 0, none⟩) n c) es) (j : Nat) (hj : j < es.length) :
    w.cell? ⟨g, j * 2, none⟩ = some (.int .i64 ((es.getD j (0, 0)).1 : Int)) ∧ w.cell? ⟨g, j * 2 + 1, none⟩ = some (.pointer (some ⟨(es.getD j (0, 0)).2, 0, none⟩)) := by
  have h0 := OwnM.cell entC_len o j 0 hj (by omega)
  have h1 := OwnM.cell entC_len o j 1 hj (by omega)
  rw [Nat.add_zero] at h0
  rw [h0, h1, List.getD_eq_getElem?_getD, List.getElem?_eq_getElem hj]
  exact ⟨rfl, rfl⟩
/-- What is kept of a block that lies below stays. -/
theorem OwnE.below {w w' : World} {v : Value} {es : List (Nat × Nat)} (o : OwnE w v es) (b : Below w.heap.size w w') : OwnE w' v es := OwnM.keep o (Keep.of_below b (fun _ => False)) (by simp)
/-- The closure of look: it tells whether an entry has the key. -/
theorem lk_any (k k' : Int) (u : Value) (kb : Nat) (w : World) (h : w.cell? ⟨kb, 0, none⟩ = some (.int .i64 k)) :
    Calls Try.prog 19 #[.agg #[.int .i64 k', u], .pointer (some ⟨kb, 0, none⟩)] w fun e w' => e = .returned (.bool (k' == k)) ∧ Below w.heap.size w w' := by
  have lt := lt_of_cell (a := ⟨kb, 0, none⟩) h
  have hk : (w.alloc (.cells #[.int .i64 k', u] 65)).cell? ⟨kb, 0, none⟩ = some (.int .i64 k) := by
    rw [World.cell?_alloc_past _ _ _ lt]; exact h
  go_enter Try.func19, Try.ntmps19
  go_wp2
  go_ret
  exact ⟨rfl, Below.alloc (Below.refl _ w) (Nat.le_refl _) _⟩
/-- The first place of a key among entries, or -1. -/
def placeE (key : Nat) (es : List (Nat × Nat)) : Int := if es.any (fun e => e.1 == key) = true then ((es.findIdx (fun e => e.1 == key) : Nat) : Int) else -1
theorem placeE_no {key : Nat} {es : List (Nat × Nat)} (h : ∀ j, j < es.length → (es.getD j (0, 0)).1 ≠ key) : placeE key es = -1 := by
  unfold placeE
  rw [if_neg]
  intro ha
  obtain ⟨e, he, hk⟩ := List.any_eq_true.1 ha
  obtain ⟨j, hj, rfl⟩ := List.getElem_of_mem he
  exact h j hj (by rw [List.getD_eq_getElem?_getD, List.getElem?_eq_getElem hj]; simpa using hk)
theorem placeE_at {key : Nat} {es : List (Nat × Nat)} {j : Nat} (hj : j < es.length) (hk : (es.getD j (0, 0)).1 = key) (hno : ∀ m, m < j → (es.getD m (0, 0)).1 ≠ key) : placeE key es = j := by
  have e1 : es.getD j (0, 0) = es[j] := by rw [List.getD_eq_getElem?_getD, List.getElem?_eq_getElem hj]; rfl
  unfold placeE
  rw [if_pos (List.any_eq_true.2 ⟨es[j], List.getElem_mem hj, by rw [e1] at hk; simpa using hk⟩)]
  congr 1
  rw [List.findIdx_eq hj]
  refine ⟨by rw [e1] at hk; simpa using hk, fun m hm => ?_⟩
  have := hno m hm
  rw [List.getD_eq_getElem?_getD, List.getElem?_eq_getElem (by omega)] at this
  simpa using this
set_option maxHeartbeats 1000000 in
theorem index_ent {w : World} {v : Value} {es : List (Nat × Nat)} (o : OwnE w v es) (hl : es.length ≤ 100000) (key kb : Nat) (hk : w.cell? ⟨kb, 0, none⟩ = some (.int .i64 key)) :
    Calls Try.prog 18 #[v, .func (.func 19) #[] #[.pointer (some ⟨kb, 0, none⟩)]] w fun e w' => e = .returned (.int .i64 (placeE key es)) ∧ Below w.heap.size w w' := by
  obtain ⟨A, c, rfl, hA0, hA1⟩ : ∃ A c, v = .slice A es.length c ∧ (A = none → es = []) ∧ ∀ ad, A = some ad → ∃ g, ad = ⟨g, 0, none⟩ := by
    rcases o.form with ⟨h1, h2⟩ | ⟨g, c, h1, _⟩
    · exact ⟨none, 0, by rw [h1, h2]; rfl, fun _ => h2, fun ad h => by cases h⟩
    · exact ⟨_, c, h1, fun h => (by cases h), fun ad h => by cases h; exact ⟨g, rfl⟩⟩
  have lk := lt_of_cell (a := ⟨kb, 0, none⟩) hk
  obtain ⟨r, hr⟩ : ∃ r, placeE key es = r := ⟨_, rfl⟩
  rw [hr]
  go_enter Try.func18, Try.ntmps18
  go_wp2
  go_loopw [5, 8] (fun _ q wr => ∃ j : Nat, j ≤ es.length ∧ q = .int .i64 j ∧ Below w.heap.size w wr ∧ ∀ m, m < j → (es.getD m (0, 0)).1 ≠ key) (fun _ q _ => es.length - (intOf q).toNat)
  case atStart => exact ⟨0, Nat.zero_le _, rfl, Below.refl _ w, fun m hm => absurd hm (Nat.not_lt_zero m)⟩
  case round =>
    obtain ⟨j, hj, rfl, bl, hno⟩ := hrel
    by_cases hlt : j < es.length
    · cases A with
      | none => rw [hA0 rfl] at hlt; exact absurd hlt (Nat.not_lt_zero j)
      | some ad =>
        obtain ⟨g, rfl⟩ := hA1 _ rfl
        obtain ⟨c0, c1⟩ := OwnE.two (OwnE.below o bl) j hlt
        have ck := bl.cell (p := ⟨kb, 0, none⟩) lk
        obtain ⟨y, ey⟩ : ∃ y, es.getD j (0, 0) = y := ⟨_, rfl⟩
        rw [ey] at c0 c1
        have wk : IntKind.i64.wrap ((j : Int) + 1) = (j : Int) + 1 := IntWalk.i64_in _ (by omega)
        have hc := lk_any key y.1 (.pointer (some ⟨y.2, 0, none⟩)) kb wr (ck.trans hk)
        have sz := bl.size
        by_cases hy : y.1 = key
        · obtain rfl : r = j := hr.symm.trans (placeE_at hlt (by rw [ey, hy]) hno)
          have eb : (((y.1 : Nat) : Int) == (key : Int)) = true := by rw [hy]; simp
          rw [eb] at hc
          clear hno ey hA0 hA1 o hk ck hr eb hy
          go_wp2_with fail
          refine hc.mono ?_
          rintro e w1 ⟨rfl, b1⟩
          clear hc c0 c1
          go_wp2
          go_ret
          exact ⟨rfl, bl.trans (b1.mono sz)⟩
        · have eb : (((y.1 : Nat) : Int) == (key : Int)) = false := by simp; omega
          rw [eb] at hc
          have hno2 : ∀ m, m < j + 1 → (es.getD m (0, 0)).1 ≠ key := fun m hm => by
            by_cases e : m = j
            · subst e; rw [ey]; exact hy
            · exact hno m (by omega)
          have HN := Lib.hid hno2
          clear hno ey hA0 hA1 hno2 hy o hk ck eb hr
          go_wp2_with fail
          refine hc.mono ?_
          rintro e w1 ⟨rfl, b1⟩
          clear hc c0 c1
          go_wp2
          go_roundw
          case rel => exact ⟨j + 1, by omega, by go_num, bl.trans (b1.mono sz), HN.out⟩
          case measure => simp [intOf]; omega
    · obtain rfl : j = es.length := by omega
      obtain rfl : r = -1 := hr.symm.trans (placeE_no hno)
      clear hno hA0 hA1 o hk hr
      go_wp2
      go_ret
      exact ⟨rfl, bl⟩
end Go.Proofs.Ytmfpjnlplimkeaa
