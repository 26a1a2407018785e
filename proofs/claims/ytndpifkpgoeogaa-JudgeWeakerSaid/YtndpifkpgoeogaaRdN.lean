/- Package reads as landed, second part: Link and Keys (loops over the keys); conditions: what a Set always keeps. -/
import Derived.Test.YtndpifkpgoeogaaRdM
namespace Go.Proofs.Ytndpifkpgoeogaa
open Go.ChangeShapes Go.WideShapes Go.ChangeAt Go.RowKit
set_option linter.unusedVariables false

def linkE (key : Int) (es : List (Int × Int)) : Int × Bool := if key ∈ es.map Prod.fst then ((es.map Prod.snd).getD ((es.map Prod.fst).idxOf key) 0, true) else (0, false)
theorem linkE_no {key : Int} {es : List (Int × Int)} (h : ∀ j, j < es.length → (es.getD j (0, 0)).1 ≠ key) : linkE key es = (0, false) := by
  unfold linkE
  rw [if_neg]
  intro hm
  obtain ⟨x, hx, rfl⟩ := List.mem_map.1 hm
  obtain ⟨j, hj, rfl⟩ := List.getElem_of_mem hx
  exact h j hj (by rw [List.getD_eq_getElem?_getD, List.getElem?_eq_getElem hj]; rfl)
theorem linkE_at {key : Int} {es : List (Int × Int)} {j : Nat} (hj : j < es.length) (hk : (es.getD j (0, 0)).1 = key) (hno : ∀ m, m < j → (es.getD m (0, 0)).1 ≠ key) : linkE key es = ((es.getD j (0, 0)).2, true) := by
  have e1 : es.getD j (0, 0) = es[j] := by rw [List.getD_eq_getElem?_getD, List.getElem?_eq_getElem hj]; rfl
  rw [e1] at hk ⊢
  have hm : key ∈ es.map Prod.fst := List.mem_map.2 ⟨es[j], List.getElem_mem hj, hk⟩
  have hi : (es.map Prod.fst).idxOf key = j := by
    rw [List.idxOf, List.findIdx_eq (by simpa using hj)]
    refine ⟨by simpa using hk, fun m hm => ?_⟩
    have := hno m hm
    rw [List.getD_eq_getElem?_getD, List.getElem?_eq_getElem (by omega)] at this
    simpa using this
  unfold linkE
  rw [if_pos hm, hi, List.getD_eq_getElem?_getD]
  simp [hj]
section
variable {w w' : World} {t : Nat} {es : List (Int × Int)} {ps : List (ScI × Value)} {vr vs : Value} {Z T : Nat → Prop}
theorem RdA.shapeR (h : RdA w t es ps vr vs Z) : ∃ A c, vr = .slice A es.length c ∧ (A = none → es = []) ∧ ∀ ad, A = some ad → ∃ g, ad = ⟨g, 0, none⟩ := by
  rcases h.r.form with ⟨h1, h2⟩ | ⟨g, c, h1, _⟩
  · exact ⟨none, 0, by rw [h1, h2]; rfl, fun _ => h2, fun ad h => by cases h⟩
  · exact ⟨_, c, h1, fun h => (by cases h), fun ad h => by cases h; exact ⟨g, rfl⟩⟩
theorem RdA.shapeS (h : RdA w t es ps vr vs Z) : ∃ A c, vs = .slice A ps.length c ∧ (A = none → ps = []) ∧ ∀ ad, A = some ad → ∃ g, ad = ⟨g, 0, none⟩ := by
  rcases h.p.form with ⟨h1, h2⟩ | ⟨g, c, h1, _⟩
  · exact ⟨none, 0, by rw [h1, h2]; rfl, fun _ => h2, fun ad h => by cases h⟩
  · exact ⟨_, c, h1, fun h => (by cases h), fun ad h => by cases h; exact ⟨g, rfl⟩⟩
theorem rdTwo {g n c : Nat} (o : OwnM 2 rdC 75 w (.slice (some ⟨g, 0, none⟩) n c) es) (j : Nat) (hj : j < es.length) :
    w.cell? ⟨g, j * 2, none⟩ = some (.int .i64 (es.getD j (0, 0)).1) ∧ w.cell? ⟨g, j * 2 + 1, none⟩ = some (.int .u64 (es.getD j (0, 0)).2) := by
  have h0 := OwnM.cell rdC_len o j 0 hj (by omega)
  have h1 := OwnM.cell rdC_len o j 1 hj (by omega)
  rw [Nat.add_zero] at h0
  rw [h0, h1, List.getD_eq_getElem?_getD, List.getElem?_eq_getElem hj]
  exact ⟨rfl, rfl⟩
set_option maxRecDepth 100000 in
set_option maxHeartbeats 1000000 in
theorem link_any (h : RdA w t es ps vr vs Z) (key l : Int) (b : Bool) (hs : linkE key es = (l, b)) :
    Calls Try.prog 36 #[.pointer (some ⟨t, 0, none⟩), .int .i64 key] w fun e w' => e = .returned (.tuple #[.int .u64 l, .bool b]) ∧ Keep (fun _ => False) w w' := by
  obtain ⟨A, c, rfl, hA0, hA1⟩ := h.shapeR
  have hl := h.short
  have cr := h.cr
  have o := h.r
  have H := Lib.hid h
  clear h
  go_enter Try.func36, Try.ntmps36
  go_wp2
  go_loopw [7, 13] (fun _ q wr => ∃ j : Nat, j ≤ es.length ∧ q = .int .i64 j ∧ Keep (fun _ => False) w wr ∧ ∀ m, m < j → (es.getD m (0, 0)).1 ≠ key) (fun _ q _ => es.length - (intOf q).toNat)
  case atStart => exact ⟨0, Nat.zero_le _, rfl, Keep.refl _ w, fun m hm => absurd hm (Nat.not_lt_zero m)⟩
  case round =>
    obtain ⟨j, hj, rfl, bl, hno⟩ := hrel
    by_cases hlt : j < es.length
    · cases A with
      | none => rw [hA0 rfl] at hlt; exact absurd hlt (Nat.not_lt_zero j)
      | some ad =>
        obtain ⟨g, rfl⟩ := hA1 _ rfl
        obtain ⟨c0, c1⟩ := rdTwo (o.keep bl (by simp)) j hlt
        have lk := linkE_at (key := key) hlt
        obtain ⟨y, ey⟩ : ∃ y, es.getD j (0, 0) = y := ⟨_, rfl⟩
        rw [ey] at c0 c1 lk
        have wk : IntKind.i64.wrap ((j : Int) + 1) = (j : Int) + 1 := IntWalk.i64_in _ (by omega)
        by_cases hy : y.1 = key
        · have := (lk hy hno).symm.trans hs
          obtain ⟨rfl, rfl⟩ : y.2 = l ∧ true = b := by simpa using this
          clear hno ey hA0 hA1 o lk this hs
          subst hy
          go_wp2
          go_ret2
          exact ⟨rfl, bl.alloc _⟩
        · have eb : (y.1 == key) = false := by simpa using hy
          have hno2 : ∀ m, m < j + 1 → (es.getD m (0, 0)).1 ≠ key := fun m hm => by
            by_cases e : m = j
            · subst e; rw [ey]; exact hy
            · exact hno m (by omega)
          have HN := Lib.hid hno2
          clear hno ey hA0 hA1 hno2 hy o lk
          go_wp2
          go_roundw
          case rel => exact ⟨j + 1, by omega, by go_num, bl.alloc _, HN.out⟩
          case measure => simp [intOf]; omega
    · obtain rfl : j = es.length := by omega
      have := (linkE_no hno).symm.trans hs
      obtain ⟨rfl, rfl⟩ : 0 = l ∧ false = b := by simpa using this
      clear hno hA0 hA1 o this hs
      go_wp2
      go_ret2
      exact ⟨rfl, bl⟩
theorem keep_grownR {a b : World} (h : a.grownBy b none) (S : Nat → Prop) : Keep S a b := ⟨h.os, h.tape, h.output, h.size, fun j hj _ => h.block j hj (by simp)⟩
theorem OwnN.put {B g c n : Nat} {zs : List Int} (h : OwnN B w (.slice (some ⟨g, 0, none⟩) n c) zs) (i : Nat) (x : Int) : OwnN B (w.setCell ⟨g, i, none⟩ (.int .i64 x)) (.slice (some ⟨g, 0, none⟩) n c) (zs.set i x) := by
  have hn : n = zs.length := by
    obtain ⟨h1, h2⟩ := id h
    rcases h2 with ⟨h2, _⟩ | ⟨g', c', cur, hv, _⟩
    · simp at h2
    · simp at hv; exact hv.2.1
  subst hn
  have := World.ownsRow.stored h i (.int .i64 x)
  unfold OwnN
  rw [List.length_set, List.map_set]
  exact this.1
theorem OwnN.freeR {B g c n : Nat} {zs : List Int} (h : OwnN B w (.slice (some ⟨g, 0, none⟩) n c) zs) (i : Nat) : w.frozen? ⟨g, i, none⟩ = false := by
  have hn : n = zs.length := by
    obtain ⟨h1, h2⟩ := id h
    rcases h2 with ⟨h2, _⟩ | ⟨g', c', cur, hv, _⟩
    · simp at h2
    · simp at hv; exact hv.2.1
  subst hn
  exact World.ownsRow.frozenAt h i
/-- The keys so far. -/
def keysTo (es : List (Int × Int)) (j : Nat) : List Int := (es.take j).map Prod.fst ++ List.replicate (es.length - j) 0
theorem keysTo_len (es : List (Int × Int)) (j : Nat) (hj : j ≤ es.length) : (keysTo es j).length = es.length := by
  simp [keysTo]
  omega
theorem keysTo_set (es : List (Int × Int)) (j : Nat) (hj : j < es.length) : (keysTo es j).set j (es.getD j (0, 0)).1 = keysTo es (j + 1) := by
  unfold keysTo
  have e1 : es.getD j (0, 0) = es[j] := by rw [List.getD_eq_getElem?_getD, List.getElem?_eq_getElem hj]; rfl
  have l1 : ((es.take j).map Prod.fst).length = j := by simp; omega
  rw [List.set_append_right _ _ (by omega), l1, Nat.sub_self, show es.length - j = (es.length - (j + 1)) + 1 by omega, List.replicate_succ, List.set_cons_zero, e1]
  have e2 : es.take (j + 1) = es.take j ++ [es[j]] := by rw [List.take_add_one, List.getElem?_eq_getElem hj]; rfl
  rw [e2, List.map_append, List.append_assoc]
  rfl
theorem keysTo_all (es : List (Int × Int)) : keysTo es es.length = es.map Prod.fst := by simp [keysTo]
theorem info_int : (Try.prog.info? 3).map (fun i => (i.zero, i.size, i.bytes)) = some (some (.int .i64 0), 1, 8) := by kernel_rfl
set_option maxRecDepth 100000 in
set_option maxHeartbeats 1000000 in
theorem keys_any (h : RdA w t es ps vr vs Z) :
    Calls Try.prog 40 #[.pointer (some ⟨t, 0, none⟩)] w fun e w' => ∃ v, e = .returned v ∧ OwnN w.heap.size w' v (es.map Prod.fst) ∧ Keep (fun _ => False) w w' := by
  obtain ⟨A, c, rfl, hA0, hA1⟩ := h.shapeR
  have hl := h.short
  have cr := h.cr
  have o := h.r
  obtain ⟨i0, hi, hz0, hz1, hz2⟩ := info_parts info_int
  obtain ⟨n, en⟩ : ∃ n, es.length = n := ⟨_, rfl⟩
  have EN := Lib.hid en
  have lt := h.lt
  clear h
  rw [en] at cr o hl
  go_enter Try.func40, Try.ntmps40
  go_wp2_with (with_reducible refine wpList_make_full _ rfl (.tmp 10) (.tmp 10) 22 rfl w.heap.size 3 i0 (.int .i64 0) 1 Try.underlying22 hi hz0 hz1 .i64 .i64 n n n rfl rfl rfl rfl (by rw [hz2]; omega) (by unfold maxLen; omega) (Nat.le_refl _) ?_)
  intro x1 o1 gr1
  have e : (madeCells #[.int .i64 0] n).toList = List.replicate n (.int .i64 0) := toList_madeCells_one _ _
  rw [e] at o1
  have k1 := keep_grownR gr1 (fun _ => False)
  have cr1 := k1.cell cr (by simp)
  have O1 : OwnN w.heap.size x1 (.slice (some ⟨w.heap.size, 0, none⟩) n n) (keysTo es 0) := by
    unfold OwnN
    simpa [keysTo, EN.out] using o1
  clear gr1 o1 e
  go_wp2
  go_loopw [4, 5, 17] (fun _ _ q wr => ∃ j : Nat, j ≤ n ∧ q = .int .i64 j ∧ Keep (fun _ => False) w wr ∧ OwnN w.heap.size wr (.slice (some ⟨w.heap.size, 0, none⟩) n n) (keysTo es j)) (fun _ _ q _ => n - (intOf q).toNat)
  case atStart => exact ⟨0, Nat.zero_le _, rfl, k1, O1⟩
  case round =>
    obtain ⟨j, hj, rfl, bl, O⟩ := hrel
    by_cases hlt : j < n
    · cases A with
      | none => have := EN.out; rw [hA0 rfl] at this; simp at this; omega
      | some ad =>
        obtain ⟨g, rfl⟩ := hA1 _ rfl
        have hj2 : j < es.length := by rw [EN.out]; exact hlt
        obtain ⟨c0, c1⟩ := rdTwo (o.keep bl (by simp)) j hj2
        have lw := bl.size
        have st := keysTo_set es j hj2
        obtain ⟨y, ey⟩ : ∃ y, es.getD j (0, 0) = y := ⟨_, rfl⟩
        rw [ey] at c0 c1 st
        have wk : IntKind.i64.wrap ((j : Int) + 1) = (j : Int) + 1 := IntWalk.i64_in _ (by omega)
        have lv : w.heap.size < wr.heap.size := (OwnN.lt O rfl).2
        have O2 : OwnN w.heap.size ((wr.setCell ⟨w.heap.size, j, none⟩ (.int .i64 y.1)).alloc (.cells #[.int .i64 y.1, .int .u64 y.2] 75)) (.slice (some ⟨w.heap.size, 0, none⟩) n n) (keysTo es (j + 1)) := by
          rw [← st]
          exact OwnN.keep (OwnN.put O j y.1) (Keep.alloc (Keep.refl (fun _ => False) _) _) (by simp)
        have k2 : Keep (fun _ => False) w ((wr.setCell ⟨w.heap.size, j, none⟩ (.int .i64 y.1)).alloc (.cells #[.int .i64 y.1, .int .u64 y.2] 75)) := (bl.older (keep_one _ _ _) (fun i e => by rw [e]; exact Nat.le_refl _)).alloc _
        have fO : wr.frozen? ⟨w.heap.size, j, none⟩ = false := O.freeR j
        have cO : ∃ u, wr.cell? ⟨w.heap.size, j, none⟩ = some u := ⟨_, OwnN.cell O j (by rw [keysTo_len es j (by omega)]; exact hj2)⟩
        obtain ⟨u, cO⟩ := cO
        have O2 := Lib.hid O2
        have K2 := Lib.hid k2
        clear O k2 ey st o hA0 hA1
        go_wp2
        go_roundw
        case rel => exact ⟨j + 1, by omega, by go_num, K2.out, O2.out⟩
        case measure => simp [intOf]; omega
    · obtain rfl : j = n := by omega
      have O := Lib.hid O
      clear hA0 hA1 o
      go_wp2
      go_ret
      refine ⟨_, rfl, ?_, bl⟩
      have := O.out
      rw [← EN.out, keysTo_all, EN.out] at this
      exact this
end
end Go.Proofs.Ytndpifkpgoeogaa
