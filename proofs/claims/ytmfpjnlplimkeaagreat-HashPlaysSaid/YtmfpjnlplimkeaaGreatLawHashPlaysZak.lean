/- Several texts, one behind the other: HsM, HsN. -/
import Derived.Test.YtmfpjnlplimkeaaGreatLawHashPlaysZab
import Derived.Deep.AppendLies
import Derived.Lib.AppendZerosOnto
import Derived.Lib.Overlaps
import Derived.Laws.CopyOwn
import Derived.Laws.Externs
import Derived.Deep.RegionLaw
/- Package hash, first part: a bucket's entries in memory; the look for a key in them (slices.IndexFunc with the closure of look); condition: at most 100,000 entries. -/
namespace Go.Proofs.YtmfpjnlplimkeaaGreat
open Go.ChangeShapes Go.WideShapes Go.ChangeAt Go.RowKit
set_option linter.unusedVariables false

/-- An entry: its key, and the block of its Chain. -/
def entC (e : Nat × Nat) : List Value := [.int .i64 (e.1 : Int), .pointer (some ⟨e.2, 0, none⟩)]
theorem entC_len (e : Nat × Nat) : (entC e).length = 2 := rfl
/-- The slice value v is the call's own (or nil) and holds the entries es. -/
abbrev OwnE (w : World) (v : Value) (es : List (Nat × Nat)) : Prop := OwnM 2 entC 80 w v es
theorem info_ent : (Tryz.prog.info? 80).map (fun i => (i.zero, i.size, i.bytes)) = some (some (.agg #[.int .i64 0, .pointer none]), 2, 16) := by kernel_rfl
theorem OwnE.two {w : World} {g n c : Nat} {es : List (Nat × Nat)} (o : OwnE w (.slice (some ⟨g, 0, none⟩) n c) es) (j : Nat) (hj : j < es.length) :
    w.cell? ⟨g, j * 2, none⟩ = some (.int .i64 ((es.getD j (0, 0)).1 : Int)) ∧ w.cell? ⟨g, j * 2 + 1, none⟩ = some (.pointer (some ⟨(es.getD j (0, 0)).2, 0, none⟩)) := by
  have h0 := OwnM.cell entC_len o j 0 hj (by omega)
  have h1 := OwnM.cell entC_len o j 1 hj (by omega)
  rw [Nat.add_zero] at h0
  rw [h0, h1, List.getD_eq_getElem?_getD, List.getElem?_eq_getElem hj]
  exact ⟨rfl, rfl⟩
/-- What is kept of a block that lies below stays. -/
theorem OwnE.below {w w' : World} {v : Value} {es : List (Nat × Nat)} (o : OwnE w v es) (b : Below w.heap.size w w') : OwnE w' v es := OwnM.keep o (Keep.of_below b (fun _ => False)) (by simp)
/-- The closure of look: it tells whether an entry has the key. -/
theorem lk_any (k k' : Int) (u : Value) (kb : Nat) (w : World) (h : w.cell? ⟨kb, 0, none⟩ = some (.int .i64 k)) :
    Calls Tryz.prog 43 #[.agg #[.int .i64 k', u], .pointer (some ⟨kb, 0, none⟩)] w fun e w' => e = .returned (.bool (k' == k)) ∧ Below w.heap.size w w' := by
  have lt := lt_of_cell (a := ⟨kb, 0, none⟩) h
  have hk : (w.alloc (.cells #[.int .i64 k', u] 80)).cell? ⟨kb, 0, none⟩ = some (.int .i64 k) := by
    rw [World.cell?_alloc_past _ _ _ lt]; exact h
  go_enter Tryz.func43, Tryz.ntmps43
  go_wp2
  go_ret
  exact ⟨rfl, Below.alloc (Below.refl _ w) (Nat.le_refl _) _⟩
/-- The first place of a key among entries, or -1. -/
def placeE (key : Nat) (es : List (Nat × Nat)) : Int := if es.any (fun e => e.1 == key) = true then ((es.findIdx (fun e => e.1 == key) : Nat) : Int) else -1
theorem placeE_no {key : Nat} {es : List (Nat × Nat)} (h : ∀ j, j < es.length → (es.getD j (0, 0)).1 ≠ key) : placeE key es = -1 := by
  unfold placeE
  rw [if_neg]
  intro ha
  obtain ⟨e, he, hk⟩ := List.any_eq_true.1 ha
  obtain ⟨j, hj, rfl⟩ := List.getElem_of_mem he
  exact h j hj (by rw [List.getD_eq_getElem?_getD, List.getElem?_eq_getElem hj]; simpa using hk)
theorem placeE_at {key : Nat} {es : List (Nat × Nat)} {j : Nat} (hj : j < es.length) (hk : (es.getD j (0, 0)).1 = key) (hno : ∀ m, m < j → (es.getD m (0, 0)).1 ≠ key) : placeE key es = j := by
  have e1 : es.getD j (0, 0) = es[j] := by rw [List.getD_eq_getElem?_getD, List.getElem?_eq_getElem hj]; rfl
  unfold placeE
  rw [if_pos (List.any_eq_true.2 ⟨es[j], List.getElem_mem hj, by rw [e1] at hk; simpa using hk⟩)]
  congr 1
  rw [List.findIdx_eq hj]
  refine ⟨by rw [e1] at hk; simpa using hk, fun m hm => ?_⟩
  have := hno m hm
  rw [List.getD_eq_getElem?_getD, List.getElem?_eq_getElem (by omega)] at this
  simpa using this
set_option maxHeartbeats 1000000 in
theorem index_ent {w : World} {v : Value} {es : List (Nat × Nat)} (o : OwnE w v es) (hl : es.length ≤ 100000) (key kb : Nat) (hk : w.cell? ⟨kb, 0, none⟩ = some (.int .i64 key)) :
    Calls Tryz.prog 42 #[v, .func (.func 43) #[] #[.pointer (some ⟨kb, 0, none⟩)]] w fun e w' => e = .returned (.int .i64 (placeE key es)) ∧ Below w.heap.size w w' := by
  obtain ⟨A, c, rfl, hA0, hA1⟩ : ∃ A c, v = .slice A es.length c ∧ (A = none → es = []) ∧ ∀ ad, A = some ad → ∃ g, ad = ⟨g, 0, none⟩ := by
    rcases o.form with ⟨h1, h2⟩ | ⟨g, c, h1, _⟩
    · exact ⟨none, 0, by rw [h1, h2]; rfl, fun _ => h2, fun ad h => by cases h⟩
    · exact ⟨_, c, h1, fun h => (by cases h), fun ad h => by cases h; exact ⟨g, rfl⟩⟩
  have lk := lt_of_cell (a := ⟨kb, 0, none⟩) hk
  obtain ⟨r, hr⟩ : ∃ r, placeE key es = r := ⟨_, rfl⟩
  rw [hr]
  go_enter Tryz.func42, Tryz.ntmps42
  go_wp2
  go_loopw [5, 8] (fun _ q wr => ∃ j : Nat, j ≤ es.length ∧ q = .int .i64 j ∧ Below w.heap.size w wr ∧ ∀ m, m < j → (es.getD m (0, 0)).1 ≠ key) (fun _ q _ => es.length - (intOf q).toNat)
  case atStart => exact ⟨0, Nat.zero_le _, rfl, Below.refl _ w, fun m hm => absurd hm (Nat.not_lt_zero m)⟩
  case round =>
    obtain ⟨j, hj, rfl, bl, hno⟩ := hrel
    by_cases hlt : j < es.length
    · cases A with
      | none => rw [hA0 rfl] at hlt; exact absurd hlt (Nat.not_lt_zero j)
      | some ad =>
        obtain ⟨g, rfl⟩ := hA1 _ rfl
        obtain ⟨c0, c1⟩ := OwnE.two (OwnE.below o bl) j hlt
        have ck := bl.cell (p := ⟨kb, 0, none⟩) lk
        obtain ⟨y, ey⟩ : ∃ y, es.getD j (0, 0) = y := ⟨_, rfl⟩
        rw [ey] at c0 c1
        have wk : IntKind.i64.wrap ((j : Int) + 1) = (j : Int) + 1 := IntWalk.i64_in _ (by omega)
        have hc := lk_any key y.1 (.pointer (some ⟨y.2, 0, none⟩)) kb wr (ck.trans hk)
        have sz := bl.size
        by_cases hy : y.1 = key
        · obtain rfl : r = j := hr.symm.trans (placeE_at hlt (by rw [ey, hy]) hno)
          have eb : (((y.1 : Nat) : Int) == (key : Int)) = true := by rw [hy]; simp
          rw [eb] at hc
          clear hno ey hA0 hA1 o hk ck hr eb hy
          go_wp2_with fail
          refine hc.mono ?_
          rintro e w1 ⟨rfl, b1⟩
          clear hc c0 c1
          go_wp2
          go_ret
          exact ⟨rfl, bl.trans (b1.mono sz)⟩
        · have eb : (((y.1 : Nat) : Int) == (key : Int)) = false := by simp; omega
          rw [eb] at hc
          have hno2 : ∀ m, m < j + 1 → (es.getD m (0, 0)).1 ≠ key := fun m hm => by
            by_cases e : m = j
            · subst e; rw [ey]; exact hy
            · exact hno m (by omega)
          have HN := Lib.hid hno2
          clear hno ey hA0 hA1 hno2 hy o hk ck eb hr
          go_wp2_with fail
          refine hc.mono ?_
          rintro e w1 ⟨rfl, b1⟩
          clear hc c0 c1
          go_wp2
          go_roundw
          case rel => exact ⟨j + 1, by omega, by go_num, bl.trans (b1.mono sz), HN.out⟩
          case measure => simp [intOf]; omega
    · obtain rfl : j = es.length := by omega
      obtain rfl : r = -1 := hr.symm.trans (placeE_no hno)
      clear hno hA0 hA1 o hk hr
      go_wp2
      go_ret
      exact ⟨rfl, bl⟩
end Go.Proofs.YtmfpjnlplimkeaaGreat
/- Package hash, second part: slices.Insert of one entry ahead of the others, slices.Delete of one entry; condition: at most 1000 entries. -/
namespace Go.Proofs.YtmfpjnlplimkeaaGreat
open Go.ChangeShapes Go.WideShapes Go.ChangeAt Go.RowKit
set_option linter.unusedVariables false

/-- 'copy(d, s)' of elements of m cells each, into a row that is known whole. -/
theorem run_copy_M {P : Program} (w : World) (dT sT ty elem : TypeId) (m g o dLen dCap : Nat) (a : Addr) (sLen sCap : Nat) (cur : List Value) (t : TypeId) (cs : List Value)
    (hu : P.underlying dT = some (.slice elem)) (hs : (P.info? elem).map (·.size) = some m) (hg : w.heap[g]? = some (.cells cur.toArray t (0, 0))) (hn : cs.length = Nat.min sLen dLen * m)
    (hsrc : ∀ j v, cs[j]? = some v → w.cell? (a.add j) = some v) (hfit : o + cs.length ≤ cur.length) (h1 : ∀ v ∈ cs, v.oneCell' = true) :
    (Builtin.copy_ #[dT, sT] ty #[.slice (some ⟨g, o, none⟩) dLen dCap, .slice (some a) sLen sCap]).run P w = .ok (goInt ((Nat.min sLen dLen : Nat) : Int)) (w.setRow g (splice cur o cs).toArray) := by
  have hl := run_loadCells_list (P := P) w a cs hsrc
  have hst := run_storeCells_at P g o t cs 0 cur.toArray w hg (by simpa using hfit) h1
  cases hq : P.info? elem with
  | none => simp [hq] at hs
  | some i =>
    have hi : i.size = m := by simpa [hq] using hs
    have hn' : Nat.min sLen dLen * m = cs.length := hn.symm
    simp [Builtin.copy_, run_underlying hu, Builtin.lenOf, Builtin.firstCells, sizeOf, typeInfo, hq, hi, hn', hl, hst, splice]
theorem setRow_keep (w : World) (g : Nat) (cs : Array Value) : Keep (fun j => j = g) w (w.setRow g cs) := ⟨rfl, rfl, rfl, by simp, fun k _ hn => setRow_other w g k cs hn⟩
theorem wpList_copyM {P : Program} {w : World} {ops : Array Oper} {rest : List Oper} {o : Oper} {a : Act} {Q : Exit → Act → World → Prop} (hgd : o.guard = none) (d s : Operand) (dT sT : TypeId)
    (ho : o.op = .call { callee := .builtin .copy, args := #[d, s], argTypes := #[dT, sT] }) (elem : TypeId) (m : Nat) (hu : P.underlying dT = some (.slice elem)) (hsz : (P.info? elem).map (·.size) = some m)
    (ad : Addr) (dLen dCap sLen sCap g off : Nat) (hd : a.eval d = .slice (some ⟨g, off, none⟩) dLen dCap) (hs : a.eval s = .slice (some ad) sLen sCap)
    (cur : List Value) (t : TypeId) (hg : w.heap[g]? = some (.cells cur.toArray t (0, 0))) (cs : List Value) (hn : cs.length = Nat.min sLen dLen * m)
    (hsrc : ∀ j v, cs[j]? = some v → w.cell? (ad.add j) = some v) (hfit : off + cs.length ≤ cur.length) (h1 : ∀ v ∈ cs, v.oneCell' = true)
    (h : ∀ w', Hid (w'.heap[g]? = some (.cells (splice cur off cs).toArray t (0, 0))) → Keep (fun j => j = g) w w' → wpList P ops Q rest (a.put o.dst (goInt ((Nat.min sLen dLen : Nat) : Int))) w') :
    wpList P ops Q (o :: rest) a w := by
  refine wpList_plain hgd fun K hK => ?_
  have hrun := run_copy_M (P := P) w dT sT o.type elem m g off dLen dCap ad sLen sCap cur t cs hu hsz hg hn hsrc hfit h1
  unfold Oper.wp
  simp [execOp, ho, resolve, invoke, builtin, hd, hs, hrun, Result.andThen]
  exact hK _ _ (h _ (show _ = _ from setRow_heap w g _ _ t _ hg) (setRow_keep w g _))
theorem step_copyM {P : Program} {ops : Array Oper} {o : Oper} {a : Act} {w : World} {K : Act → World → Prop} {Q : Exit → Act → World → Prop} {E : Prop} (hgd : o.guard = none) (d s : Operand) (dT sT : TypeId)
    (ho : o.op = .call { callee := .builtin .copy, args := #[d, s], argTypes := #[dT, sT] }) (elem : TypeId) (m : Nat) (hu : P.underlying dT = some (.slice elem)) (hsz : (P.info? elem).map (·.size) = some m)
    (ad : Addr) (dLen dCap sLen sCap g off : Nat) (hd : a.eval d = .slice (some ⟨g, off, none⟩) dLen dCap) (hs : a.eval s = .slice (some ad) sLen sCap)
    (cur : List Value) (t : TypeId) (hg : w.heap[g]? = some (.cells cur.toArray t (0, 0))) (cs : List Value) (hn : cs.length = Nat.min sLen dLen * m)
    (hsrc : ∀ j v, cs[j]? = some v → w.cell? (ad.add j) = some v) (hfit : off + cs.length ≤ cur.length) (h1 : ∀ v ∈ cs, v.oneCell' = true)
    (h : ∀ w', Hid (w'.heap[g]? = some (.cells (splice cur off cs).toArray t (0, 0))) → Keep (fun j => j = g) w w' → K (a.put o.dst (goInt ((Nat.min sLen dLen : Nat) : Int))) w') :
    if Region.wanted o (yielded ops a.tmps) = true then Oper.wp P o a w K Q else E := by
  have hw : Region.wanted o (yielded ops a.tmps) = true := by simp [Region.wanted, hgd]
  rw [if_pos hw]
  have hrun := run_copy_M (P := P) w dT sT o.type elem m g off dLen dCap ad sLen sCap cur t cs hu hsz hg hn hsrc hfit h1
  unfold Oper.wp
  simp [execOp, ho, resolve, invoke, builtin, hd, hs, hrun, Result.andThen]
  exact h _ (show _ = _ from setRow_heap w g _ _ t _ hg) (setRow_keep w g _)
/-- Two parts laid one behind the other, the first one first. -/
theorem splice_fst {α : Type} (Z A B : List α) (h : A.length + B.length ≤ Z.length) : (splice (splice Z 0 A) A.length B).take (A.length + B.length) = A ++ B := by
  have e : splice Z 0 A = A ++ Z.drop A.length := by simp [splice]
  rw [e]
  unfold splice
  rw [List.take_append_of_le_length (Nat.le_refl _), List.take_length, ← List.append_assoc, List.take_append_of_le_length (by simp), List.take_of_length_le (by simp)]
/-- .. the second one first. -/
theorem splice_snd {α : Type} (Z A B : List α) (h : A.length + B.length ≤ Z.length) : (splice (splice Z A.length B) 0 A).take (A.length + B.length) = A ++ B := by
  unfold splice
  simp only [List.take_zero, List.nil_append, Nat.zero_add]
  rw [List.drop_append, List.drop_eq_nil_of_le (by simp; omega), List.nil_append, List.length_take, Nat.min_eq_left (by omega), Nat.sub_self, List.drop_zero, ← List.append_assoc, List.take_append_of_le_length (by simp), List.take_of_length_le (by simp)]
theorem ent_one (es : List (Nat × Nat)) : ∀ v ∈ es.flatMap entC, v.oneCell' = true := by
  intro v hv
  obtain ⟨e, _, he⟩ := List.mem_flatMap.1 hv
  simp [entC] at he
  rcases he with rfl | rfl <;> rfl
/-- A bucket's row, known whole. -/
theorem OwnE.row {w : World} {g n c : Nat} {es : List (Nat × Nat)} (o : OwnE w (.slice (some ⟨g, 0, none⟩) n c) es) :
    ∃ cur : List Value, n = es.length ∧ w.heap[g]? = some (.cells cur.toArray 80 (0, 0)) ∧ es.length ≤ c ∧ c ≤ maxLen ∧ cur.length = c * 2 ∧ cur.take (es.length * 2) = es.flatMap entC := by
  obtain ⟨h1, h2⟩ := id o
  rcases h2 with ⟨h2, _⟩ | ⟨g', c', cur, hv, hb, hh, hl, hm, hs, ht⟩
  · simp at h2
  · simp at hv
    obtain ⟨rfl, rfl, rfl⟩ := hv
    exact ⟨cur.toList, rfl, by simpa using hh, hl, hm, by simpa using hs, ht⟩
theorem OwnE.of_row {w : World} {g c : Nat} {es : List (Nat × Nat)} {cur : List Value} (hh : w.heap[g]? = some (.cells cur.toArray 80 (0, 0))) (hl : es.length ≤ c) (hm : c ≤ maxLen) (hs : cur.length = c * 2) (ht : cur.take (es.length * 2) = es.flatMap entC) :
    OwnE w (.slice (some ⟨g, 0, none⟩) es.length c) es :=
  ⟨by rw [flat_len entC_len], .inr ⟨g, c, cur.toArray, rfl, Nat.zero_le _, hh, hl, hm, by simpa using hs, by simpa using ht⟩⟩
theorem cell_of_row {w : World} {g : Nat} {cur : List Value} {t : TypeId} (hh : w.heap[g]? = some (.cells cur.toArray t (0, 0))) (j : Nat) : w.cell? ⟨g, j, none⟩ = cur[j]? := by
  simp [World.cell?, hh]
theorem take_get {α : Type} {l a : List α} {n j : Nat} {v : α} (h : l.take n = a) (hj : a[j]? = some v) : l[j]? = some v := by
  subst h
  rw [List.getElem?_take] at hj
  split at hj
  · exact hj
  · cases hj
section
variable {w w' : World} {v : Value} {es : List (Nat × Nat)} {vb : Nat} {e : Nat × Nat}
/-- What an Insert leaves. -/
def InsP (v : Value) (es : List (Nat × Nat)) (e : Nat × Nat) (w : World) (r : Ending) (w' : World) : Prop :=
  ∃ g c, r = .returned (.slice (some ⟨g, 0, none⟩) (es.length + 1) c) ∧ OwnE w' (.slice (some ⟨g, 0, none⟩) (es.length + 1) c) (e :: es) ∧ Keep (fun j => v.ownBlock = some j) w w' ∧ (v.ownBlock = some g ∨ w.heap.size ≤ g)
set_option maxRecDepth 100000 in
theorem insert_nil (o : OwnE w v []) (hv : w.heap[vb]? = some (.cells (entC e).toArray 80 (0, 0))) :
    Calls Tryz.prog 25 #[v, .int .i64 0, .slice (some ⟨vb, 0, none⟩) 1 1] w (InsP v [] e w) := by
  obtain ⟨i0, hi0, hz0, hz1, hz2⟩ := info_parts info_ent
  have hnews : ∀ j u, (entC e)[j]? = some u → w.cell? ((⟨vb, 0, none⟩ : Addr).add j) = some u := by
    intro j u hj
    rw [add_plain, Nat.zero_add, cell_of_row (cur := entC e) hv]
    exact hj
  obtain ⟨A, c, rfl, hA⟩ : ∃ A c, v = .slice A 0 c ∧ (A = none → c = 0) := by
    rcases o.form with ⟨h1, h2⟩ | ⟨g, c, h1, _⟩
    · exact ⟨none, 0, h1, fun _ => rfl⟩
    · exact ⟨_, c, h1, fun h => by cases h⟩
  go_enter Tryz.func25, Tryz.ntmps25
  go_wp2_with (at_builtin; refine wpList_append_lies _ rfl (.tmp 23) (.tmp 24) 81 rfl 0 80 i0 _ 2 16 Tryz.underlying81 hi0 hz0 hz1 hz2 rfl (by decide) (.slice A 0 c) 0 [] rfl o ⟨vb, 0, none⟩ 1 1 (entC e) rfl rfl hnews (by simp [entC, Value.oneCell']) (by decide) (by unfold maxLen; omega) (by omega) (Nat.zero_le _) w.heap.size rfl ?_; intro g c2 w2 o2 gr hg _)
  go_ret
  exact ⟨g, c2, rfl, by simpa [OwnM] using o2, ⟨gr.os, gr.tape, gr.output, gr.size, fun j hj hn => gr.block j hj (fun x => hn x.symm)⟩, hg.imp_right (by omega)⟩
set_option maxRecDepth 100000 in
set_option maxHeartbeats 1000000 in
theorem insert_room {g c : Nat} (o : OwnE w (.slice (some ⟨g, 0, none⟩) es.length c) es) (hl : es.length ≤ 1000) (h0 : 0 < es.length) (hc : es.length + 1 ≤ c) (hne : vb ≠ g) (hv : w.heap[vb]? = some (.cells (entC e).toArray 80 (0, 0))) :
    Calls Tryz.prog 25 #[.slice (some ⟨g, 0, none⟩) es.length c, .int .i64 0, .slice (some ⟨vb, 0, none⟩) 1 1] w (InsP (.slice (some ⟨g, 0, none⟩) es.length c) es e w) := by
  obtain ⟨cur, _, hh, hlc, hm, hs, ht⟩ := o.row
  have fl : (es.flatMap entC).length = es.length * 2 := flat_len entC_len es
  have hsz : (Tryz.prog.info? 80).map (·.size) = some 2 := by kernel_rfl
  have zE : ∀ w, (Go.sizeOf 80).run Tryz.prog w = .ok 2 w := fun w => by
    obtain ⟨i0, hi0, hz0, hz1, hz2⟩ := info_parts info_ent
    simp [sizeOf, typeInfo, hi0, hz1]
  have hsa : w.shape? vb = some (80, 2) := by simp [World.shape?, hv, entC]
  have hsb : w.shape? g = some (80, c * 2) := by simp [World.shape?, hh, hs]
  have hfa : w.frozen? ⟨vb, 0, none⟩ = false := by simp [World.frozen?, hv]
  have hfe : w.frozen? ⟨vb, 2, none⟩ = false := by simp [World.frozen?, hv]
  have hov : ∀ lb cb, (callFunc 45 #[.slice (some ⟨vb, 0, none⟩) 1 1, .slice (some ⟨g, 2, none⟩) lb cb]).run Tryz.prog w = .ok (.value (.bool false)) w := fun lb cb => by
    rw [run_callFunc_extern Tryz.func45 (by kernel_rfl) (by kernel_rfl) (by kernel_rfl) (e := Extern.SlicesOverlaps.overlaps #[81, 81] #[4]) (by kernel_rfl),
      Lib.run_overlaps_apart w 81 4 80 Tryz.underlying81 2 zE ⟨vb, 0, none⟩ ⟨g, 2, none⟩ 1 1 lb cb hne _ _ 2 (c * 2) hsa hsb (by omega) hfa hfe]
    rfl
  obtain ⟨n, en⟩ : ∃ n, es.length = n := ⟨_, rfl⟩
  have EN := Lib.hid en
  rw [en] at hl h0 hc hlc ht fl ⊢
  clear en o
  have w1 : IntKind.i64.wrap ((n : Int) + 1) = (n : Int) + 1 := IntWalk.i64_in _ (by omega)
  have c63 : c ≤ 9223372036854775807 := hm
  go_enter Tryz.func25, Tryz.ntmps25
  go_wp2_with (simp only [hov])
  have b0 : IntKind.i64.wrap 1 = 1 := by decide
  have b1 : (1 : Int) ≤ (n : Int) + 1 := by omega
  have b3 : (0 : Int) ≤ (n : Int) + 1 := by omega
  have b2 : ¬ (c = 1) := by omega
  have b4 : ¬ (c = 0) := by omega
  have hh1 : w.drew.heap[g]? = some (.cells cur.toArray 80 (0, 0)) := hh
  have hsrc : ∀ j u, (es.flatMap entC)[j]? = some u → w.drew.cell? ((⟨g, 0, none⟩ : Addr).add j) = some u := fun j u hj => by
    rw [add_plain, Nat.zero_add]
    exact (cell_of_row hh1 j).trans (take_get ht hj)
  go_region_law (refine step_copyM rfl (.tmp 73) (.tmp 76) 81 81 rfl 80 2 Tryz.underlying81 hsz ⟨g, 0, none⟩ n (c - 1) (n + 1) c g 2 (by simp [Act.eval, Act.put]) (by simp [Act.eval, Act.put]) cur _ hh1 (es.flatMap entC) (by rw [fl]; simp only [Nat.min_def]; split <;> omega) hsrc (by rw [fl, hs]; omega) (ent_one es) ?_; intro w2 H2 k2)
  have hv2 : w2.heap[vb]? = some (.cells (entC e).toArray 80 (0, 0)) := (k2.block vb (lt_of_block hv) hne).trans hv
  have hsrc2 : ∀ j u, (entC e)[j]? = some u → w2.cell? ((⟨vb, 0, none⟩ : Addr).add j) = some u := fun j u hj => by
    rw [add_plain, Nat.zero_add]
    exact (cell_of_row (cur := entC e) hv2 j).trans hj
  obtain ⟨cur2, ec2⟩ : ∃ x, splice cur 2 (es.flatMap entC) = x := ⟨_, rfl⟩
  rw [ec2] at H2
  have cl2 : cur2.length = c * 2 := by rw [← ec2, length_splice _ _ _ (by rw [fl, hs]; omega), hs]
  have EC := Lib.hid ec2
  clear ec2 hov hh1 hsrc hsa hsb hfa hfe
  go_wp2_with (with_reducible refine wp_stop 82 rfl ?_)
  intro _
  refine wpList_copyM rfl (.tmp 80) (.tmp 81) 81 81 rfl 80 2 Tryz.underlying81 hsz ⟨vb, 0, none⟩ (n + 1) c 1 1 g 0 rfl rfl cur2 _ H2.out (entC e) (by simp only [Nat.min_def]; split <;> simp [entC] <;> omega) hsrc2 (by rw [cl2]; simp [entC]; omega) (by simp [entC, Value.oneCell']) ?_
  intro w3 H3 k3
  go_wp2
  go_ret
  refine ⟨g, c, by rw [EN.out]; rfl, ?_, ?_, .inl rfl⟩
  · have ht3 : (splice cur2 0 (entC e)).take ((e :: es).length * 2) = (e :: es).flatMap entC := by
      have := splice_snd cur (entC e) (es.flatMap entC) (by rw [fl, hs]; simp [entC]; omega)
      rw [show (entC e).length = 2 from rfl, EC.out, fl] at this
      rw [List.flatMap_cons, ← this, List.length_cons, EN.out]
      congr 1
      omega
    have := OwnE.of_row (es := e :: es) (c := c) H3.out (by rw [List.length_cons, EN.out]; omega) hm (by rw [length_splice _ _ _ (by rw [cl2]; simp [entC]; omega), cl2]) ht3
    simpa using this
  · have kd : Keep (fun j => j = g) w w2 := (Keep.refl _ w).drew.trans k2
    exact (kd.trans k3).mono (fun j hj => by rw [hj]; rfl)
set_option maxRecDepth 100000 in
set_option maxHeartbeats 1000000 in
theorem insert_grow {g c : Nat} (o : OwnE w (.slice (some ⟨g, 0, none⟩) es.length c) es) (hl : es.length ≤ 1000) (h0 : 0 < es.length) (hc : c < es.length + 1) (hne : vb ≠ g) (hv : w.heap[vb]? = some (.cells (entC e).toArray 80 (0, 0))) :
    Calls Tryz.prog 25 #[.slice (some ⟨g, 0, none⟩) es.length c, .int .i64 0, .slice (some ⟨vb, 0, none⟩) 1 1] w (InsP (.slice (some ⟨g, 0, none⟩) es.length c) es e w) := by
  obtain ⟨cur, _, hh, hlc, hm, hs, ht⟩ := o.row
  have fl : (es.flatMap entC).length = es.length * 2 := flat_len entC_len es
  have hsz : (Tryz.prog.info? 80).map (·.size) = some 2 := by kernel_rfl
  obtain ⟨i0, hi0, hz0, hz1, hz2⟩ := info_parts info_ent
  obtain ⟨n, en⟩ : ∃ n, es.length = n := ⟨_, rfl⟩
  have EN := Lib.hid en
  rw [en] at hl h0 hc hlc ht fl ⊢
  clear en o
  have lg := lt_of_block hh
  have lv := lt_of_block hv
  have w1 : IntKind.i64.wrap ((n : Int) + 1) = (n : Int) + 1 := IntWalk.i64_in _ (by omega)
  have c63 : c ≤ 9223372036854775807 := hm
  obtain rfl : c = n := by omega
  have hold : (Builtin.firstCells i0.size 0 (.slice (some ⟨g, 0, none⟩) 0 c)).run Tryz.prog w.drew = .ok ([] : List Value).toArray w.drew := run_firstCells_some w.drew _ 0 ⟨g, 0, none⟩ 0 c [] (by simp) (by simp)
  have hrz : ∀ ty, (Builtin.append_ #[81, 3] ty #[.slice (some ⟨g, 0, none⟩) 0 c, .int .i64 ((c : Int) + 1)]).run Tryz.prog w = .ok (.slice (some ⟨w.heap.size, 0, none⟩) (c + 1) (grownCap w (c + 1) c 80))
      (w.drew.alloc (.cells (([] : List Value).toArray ++ Builtin.zeroCells (Value.agg #[.int .i64 0, .pointer none]).cells (c + 1) ++ Builtin.zeroCells (Value.agg #[.int .i64 0, .pointer none]).cells (grownCap w (c + 1) c 80 - (c + 1))) 80)) := fun ty => by
    have h := Lib.run_append_grow_zeros w 81 3 ty 80 i0 _ .i64 .i64 Tryz.underlying81 Tryz.underlying3 hi0 hz0 (some ⟨g, 0, none⟩) 0 c [] hold (c + 1) (by omega) (by omega) (by omega) (by omega) (by rw [hz2]; omega) (by rw [hz2]; exact growslice_fits (by omega) (by omega))
    simpa using h
  obtain ⟨G, eG⟩ : ∃ G, grownCap w (c + 1) c 80 = G := ⟨_, rfl⟩
  have G0 : c + 1 ≤ G := by rw [← eG]; exact grownCap_ge w _ _ _
  have G1 : G ≤ maxLen := by rw [← eG]; exact grownCap_le_maxLen w (c + 1) c _ (by unfold maxLen; omega)
  have G63 : G ≤ 9223372036854775807 := G1
  rw [eG] at hrz
  obtain ⟨ROW, eR⟩ : ∃ ROW : List Value, (([] : List Value).toArray ++ Builtin.zeroCells (Value.agg #[.int .i64 0, .pointer none]).cells (c + 1) ++ Builtin.zeroCells (Value.agg #[.int .i64 0, .pointer none]).cells (G - (c + 1))) = ROW.toArray := ⟨_, (Array.toArray_toList).symm⟩
  have lR : ROW.length = G * 2 := by
    have := congrArg Array.size eR
    simp [Builtin.zeroCells, Value.cells] at this
    omega
  rw [eR] at hrz
  have hN : (w.drew.alloc (.cells ROW.toArray 80)).heap[w.heap.size]? = some (.cells ROW.toArray 80 (0, 0)) := (Array.getElem?_push_size : (w.drew.heap.push (.cells ROW.toArray 80))[w.drew.heap.size]? = _)
  have kN : Keep (fun _ => False) w (w.drew.alloc (.cells ROW.toArray 80)) := Keep.alloc (Keep.drew (Keep.refl _ w)) _
  obtain ⟨x, ex⟩ : ∃ x, w.drew.alloc (.cells ROW.toArray 80) = x := ⟨_, rfl⟩
  rw [ex] at hN kN hrz
  have hv1 := (kN.block vb lv (by simp)).trans hv
  have hg1 := (kN.block g lg (by simp)).trans hh
  clear eG eR ex hold
  go_enter Tryz.func25, Tryz.ntmps25
  go_wp2_with (first | (at_builtin; refine Lib.wpList_append_run _ rfl _ _ _ _ rfl _ _ rfl rfl _ _ (hrz _) ?_) | (with_reducible refine wp_stop 45 rfl ?_))
  intro _
  have hsrc2 : ∀ j u, (entC e)[j]? = some u → x.cell? ((⟨vb, 0, none⟩ : Addr).add j) = some u := fun j u hj => by
    rw [add_plain, Nat.zero_add]
    exact (cell_of_row (cur := entC e) hv1 j).trans hj
  refine wpList_copyM rfl (.tmp 43) (.tmp 44) 81 81 rfl 80 2 Tryz.underlying81 hsz ⟨vb, 0, none⟩ (c + 1) G 1 1 w.heap.size 0 rfl rfl ROW _ hN (entC e) (by simp only [Nat.min_def]; split <;> simp [entC] <;> omega) hsrc2 (by rw [lR]; simp [entC]; omega) (by simp [entC, Value.oneCell']) ?_
  intro w2 H2 k2
  have hg2 : w2.drew.heap[g]? = some (.cells cur.toArray 80 (0, 0)) := (k2.block g (Nat.lt_of_lt_of_le lg kN.size) (by omega)).trans hg1
  have hsrc3 : ∀ j u, (es.flatMap entC)[j]? = some u → w2.drew.cell? ((⟨g, 0, none⟩ : Addr).add j) = some u := fun j u hj => by
    rw [add_plain, Nat.zero_add]
    exact (cell_of_row hg2 j).trans (take_get ht hj)
  obtain ⟨R2, eR2⟩ : ∃ y, splice ROW 0 (entC e) = y := ⟨_, rfl⟩
  rw [eR2] at H2
  have l2 : R2.length = G * 2 := by rw [← eR2, length_splice _ _ _ (by rw [lR]; simp [entC]; omega), lR]
  have ER := Lib.hid eR2
  have H2d : w2.drew.heap[w.heap.size]? = some (.cells R2.toArray 80 (0, 0)) := H2.out
  have b0 : IntKind.i64.wrap 1 = 1 := by decide
  have b1 : (1 : Int) ≤ (c : Int) + 1 := by omega
  have b3 : (0 : Int) ≤ (c : Int) := by omega
  have b2 : ¬ (G = 1) := by omega
  have b4 : ¬ (c = 0) := by omega
  clear eR2 hsrc2 hrz hh hv
  go_wp2
  go_region_law (refine step_copyM rfl (.tmp 50) (.tmp 53) 81 81 rfl 80 2 Tryz.underlying81 hsz ⟨g, 0, none⟩ c (G - 1) c c w.heap.size 2 (by simp [Act.eval, Act.put]) (by simp [Act.eval, Act.put]) R2 _ H2d (es.flatMap entC) (by rw [fl]; simp only [Nat.min_def]; split <;> omega) hsrc3 (by rw [fl, l2]; omega) (ent_one es) ?_; intro w3 H3 k3)
  go_wp2
  go_ret
  refine ⟨w.heap.size, G, by rw [EN.out]; rfl, ?_, ?_, .inr (Nat.le_refl _)⟩
  · have ht3 : (splice R2 2 (es.flatMap entC)).take ((e :: es).length * 2) = (e :: es).flatMap entC := by
      have := splice_fst ROW (entC e) (es.flatMap entC) (by rw [fl, lR]; simp [entC]; omega)
      rw [show (entC e).length = 2 from rfl, ER.out, fl] at this
      rw [List.flatMap_cons, ← this, List.length_cons, EN.out]
      congr 1
      omega
    have := OwnE.of_row (es := e :: es) (c := G) H3.out (by rw [List.length_cons, EN.out]; omega) G1 (by rw [length_splice _ _ _ (by rw [fl, l2]; omega), l2]) ht3
    simpa using this
  · exact ⟨k3.os.trans (k2.os.trans kN.os), k3.tape.trans (k2.tape.trans kN.tape), k3.output.trans (k2.output.trans kN.output), Nat.le_trans kN.size (Nat.le_trans k2.size k3.size), fun j hj hn =>
      (k3.block j (Nat.lt_of_lt_of_le hj (Nat.le_trans kN.size k2.size)) (by omega)).trans ((k2.block j (Nat.lt_of_lt_of_le hj kN.size) (by omega)).trans (kN.block j hj (by simp)))⟩
theorem insert_ent (o : OwnE w v es) (hl : es.length ≤ 1000) (hne : v.ownBlock ≠ some vb) (hv : w.heap[vb]? = some (.cells (entC e).toArray 80 (0, 0))) :
    Calls Tryz.prog 25 #[v, .int .i64 0, .slice (some ⟨vb, 0, none⟩) 1 1] w (InsP v es e w) := by
  by_cases h0 : es = []
  · subst h0; exact insert_nil o hv
  · rcases o.form with ⟨_, h⟩ | ⟨g, c, rfl, _⟩
    · exact absurd h h0
    · have hn : vb ≠ g := fun x => hne (by rw [x]; rfl)
      have h1 : 0 < es.length := List.length_pos_iff.2 h0
      by_cases hc : es.length + 1 ≤ c
      · exact insert_room o hl h1 hc hn hv
      · exact insert_grow o hl h1 (by omega) hn hv
theorem splice_cons {α : Type} (cur : List α) (o : Nat) (v : α) (r : List α) (h : o + r.length < cur.length) : splice (cur.set o v) (o + 1) r = splice cur o (v :: r) := by
  apply List.ext_getElem?
  intro j
  unfold splice
  simp only [List.getElem?_append, List.length_take, List.length_set, List.getElem?_take, List.getElem?_set, List.getElem?_drop, List.length_cons, List.getElem?_cons]
  by_cases h1 : j < o
  · simp [show j < min (o + 1) cur.length by omega, show j < min o cur.length by omega, show j < o + 1 by omega, h1, show ¬ o = j by omega]
  · by_cases h2 : j = o
    · subst h2
      simp [show j < min (j + 1) cur.length by omega, show ¬ j < min j cur.length by omega, show j < cur.length by omega, show j - min j cur.length = 0 by omega]
    · simp only [show ¬ j < min (o + 1) cur.length by omega, show ¬ j < min o cur.length by omega, if_false]
      have e1 : j - min (o + 1) cur.length = j - o - 1 := by omega
      have e2 : j - min o cur.length = j - o := by omega
      rw [e1, e2]
      by_cases h3 : j - o - 1 < r.length
      · simp [h3, show j - o < r.length + 1 by omega, show ¬ j - o = 0 by omega]
      · simp [h3, show ¬ j - o < r.length + 1 by omega, show ¬ o = o + 1 + r.length + (j - o - 1 - r.length) by omega]
        congr 1
        omega
theorem setCells_row {g : Nat} {t : TypeId} : ∀ (vs : List Value) (o : Nat) (w : World) (cur : List Value), w.heap[g]? = some (.cells cur.toArray t (0, 0)) → o + vs.length ≤ cur.length →
    (w.setCells g o vs).heap[g]? = some (.cells (splice cur o vs).toArray t (0, 0)) ∧ Keep (fun j => j = g) w (w.setCells g o vs)
  | [], o, w, cur, hh, _ => ⟨by rw [show splice cur o [] = cur by simp [splice]]; exact hh, Keep.refl _ w⟩
  | v :: r, o, w, cur, hh, hl => by
    have hl : o + (r.length + 1) ≤ cur.length := hl
    have h1 : (w.setCell ⟨g, o, none⟩ v).heap[g]? = some (.cells (cur.set o v).toArray t (0, 0)) := by
      rw [setCell_eq_setRow w g o cur.toArray t (0, 0) v hh, setRow_heap w g _ _ t _ hh]
      simp
    have k1 := keep_one w ⟨g, o, none⟩ v
    obtain ⟨h2, k2⟩ := setCells_row r (o + 1) _ _ h1 (by rw [List.length_set]; omega)
    rw [splice_cons cur o v r (by omega)] at h2
    exact ⟨h2, k1.trans k2⟩
/-- 'clear(s)' of one element of two cells, in a row that is known whole. -/
theorem run_clear_two {w : World} {g o c : Nat} {ty : TypeId} {cur : List Value} (hg : w.heap[g]? = some (.cells cur.toArray 80 (0, 0))) (hfit : o + 2 ≤ cur.length) :
    (Builtin.clear_ #[81] ty #[.slice (some ⟨g, o, none⟩) 1 c]).run Tryz.prog w = .ok (.tuple #[]) (w.setRow g (splice cur o [.int .i64 0, .pointer none]).toArray) := by
  obtain ⟨i0, hi0, hz0, hz1, hz2⟩ := info_parts info_ent
  have hst := run_storeCells_at Tryz.prog g o 80 [.int .i64 0, .pointer none] 0 cur.toArray w hg (by simpa using hfit) (by simp [Value.oneCell'])
  have hzc : (Builtin.zeroCells (Value.agg #[.int .i64 0, .pointer none]).cells 1).toList = [.int .i64 0, .pointer none] := by kernel_rfl
  simp [Builtin.clear_, run_underlying Tryz.underlying81, zeroValue, typeInfo, hi0, hz0, hzc, hst, splice]
theorem wpList_clear_run {P : Program} (w : World) {ops : Array Oper} {rest : List Oper} {o : Oper} {a : Act} {Q : Exit → Act → World → Prop} (hgd : o.guard = none) (s : Operand) (t : TypeId)
    (ho : o.op = .call { callee := .builtin .clear, args := #[s], argTypes := #[t] }) (vs : Value) (hs : a.eval s = vs) {v' : Value} {w' : World}
    (hr : (Builtin.clear_ #[t] o.type #[vs]).run P w = .ok v' w') (h : wpList P ops Q rest (a.put o.dst v') w') : wpList P ops Q (o :: rest) a w := by
  refine wpList_plain hgd fun K hK => ?_
  unfold Oper.wp execOp
  simp only [ho, resolve, invoke, builtin, Sem.run_bind, Sem.run_pure, Result.andThen_ok, List.map_toArray, List.map_cons, List.map_nil, hs, hr]
  exact hK _ _ h
theorem splice_cut {α : Type} (cur A B : List α) (o n : Nat) (ho : o ≤ A.length) (hn : A.length = n) (ht : cur.take n = A) (hB : o + B.length ≤ n) (C : List α) (hC : A.take o ++ B = C) : (splice cur o B).take C.length = C := by
  have e : cur.take o = A.take o := by rw [← ht, List.take_take, Nat.min_eq_left (by omega)]
  unfold splice
  rw [e, ← List.append_assoc, hC, List.take_append_of_le_length (Nat.le_refl _), List.take_length]
set_option maxRecDepth 100000 in
set_option maxHeartbeats 1000000 in
theorem delete_ent {g c : Nat} (o : OwnE w (.slice (some ⟨g, 0, none⟩) es.length c) es) (hl : es.length ≤ 1000) (i : Nat) (hi : i < es.length) :
    Calls Tryz.prog 35 #[.slice (some ⟨g, 0, none⟩) es.length c, .int .i64 i, .int .i64 ((i : Int) + 1)] w fun r w' =>
      r = .returned (.slice (some ⟨g, 0, none⟩) (es.length - 1) c) ∧ OwnE w' (.slice (some ⟨g, 0, none⟩) (es.length - 1) c) (es.eraseIdx i) ∧ Keep (fun j => j = g) w w' := by
  obtain ⟨cur, _, hh, hlc, hm, hs, ht⟩ := o.row
  have fl : (es.flatMap entC).length = es.length * 2 := flat_len entC_len es
  have fd : ((es.drop (i + 1)).flatMap entC).length = (es.length - (i + 1)) * 2 := by rw [flat_len entC_len, List.length_drop]
  obtain ⟨i0, hi0, hz0, hz1, hz2⟩ := info_parts info_ent
  obtain ⟨m, en⟩ : ∃ m, es.length = m + 1 := ⟨es.length - 1, by omega⟩
  have EN := Lib.hid en
  rw [en] at hl hi hlc ht fl fd ⊢
  rw [show m + 1 - (i + 1) = m - i by omega] at fd
  rw [show m + 1 - 1 = m from rfl]
  clear en o
  have c63 : c ≤ 9223372036854775807 := hm
  have w1 : IntKind.i64.wrap ((i : Int) + 1) = (i : Int) + 1 := IntWalk.i64_in _ (by omega)
  have q1 : (i : Int) ≤ (m : Int) + 1 := by omega
  have q2 : (i : Int) ≤ (m : Int) := by omega
  have q2b : (i : Int) + 1 ≤ (m : Int) + 1 := by omega
  have q3 : (m : Int) + 1 ≤ (c : Int) := by omega
  have q4 : (0 : Int) ≤ (i : Int) + 1 := by omega
  have q5 : ¬ ((i : Int) = (i : Int) + 1) := by omega
  have q6 : (i : Int) ≤ (i : Int) + 1 := by omega
  have q7 : ((i : Int) + 1).toNat = i + 1 := by omega
  have q8 : (i : Int) ≤ (c : Int) := by omega
  have q9 : i + (m - i) = m := by omega
  have q10 : (m : Int) ≤ (m : Int) + 1 := by omega
  have q11 : ¬ (c = m) := by omega
  have q12 : m + 1 - m = 1 := by omega
  have q13 : ((m : Int) + 1).toNat = m + 1 := by omega
  have hhd : w.drew.heap[g]? = some (.cells cur.toArray 80 (0, 0)) := hh
  obtain ⟨ad, had, hsrc⟩ : ∃ ad : Addr, (if c = i + 1 then some (⟨g, 0, none⟩ : Addr) else some ⟨g, (i + 1) * 2, none⟩) = some ad ∧ ∀ j u, ((es.drop (i + 1)).flatMap entC)[j]? = some u → w.drew.cell? (ad.add j) = some u := by
    by_cases hc1 : c = i + 1
    · rw [if_pos hc1]
      refine ⟨_, rfl, fun j u hj => ?_⟩
      have := (List.getElem?_eq_some_iff.1 hj).1
      omega
    · rw [if_neg hc1]
      refine ⟨_, rfl, fun j u hj => ?_⟩
      rw [add_plain]
      refine (cell_of_row hhd _).trans (take_get ht ?_)
      have e : es.flatMap entC = (es.take (i + 1)).flatMap entC ++ (es.drop (i + 1)).flatMap entC := by rw [← List.flatMap_append, List.take_append_drop]
      have lt : ((es.take (i + 1)).flatMap entC).length = (i + 1) * 2 := by rw [flat_len entC_len, List.length_take, EN.out]; congr 1; omega
      rw [e, List.getElem?_append_right (by omega), lt, Nat.add_sub_cancel_left]
      exact hj
  have ent1 : ∀ u ∈ (es.drop (i + 1)).flatMap entC, u.oneCell' = true := ent_one _
  have spare : ∀ j, j < ((es.drop (i + 1)).flatMap entC).length → (w.drew.cell? ⟨g, 0 + i * 2 + j, none⟩).isSome = true ∧ w.drew.frozen? ⟨g, 0 + i * 2 + j, none⟩ = false := fun j hj => by
    rw [fd] at hj
    refine ⟨?_, by simp [World.frozen?, hhd]⟩
    rw [cell_of_row hhd, List.getElem?_eq_getElem (by rw [hs]; omega)]
    rfl
  obtain ⟨h2, k2⟩ := setCells_row ((es.drop (i + 1)).flatMap entC) (i * 2) w.drew cur hhd (by rw [fd, hs]; omega)
  obtain ⟨news, enw⟩ : ∃ y, (es.drop (i + 1)).flatMap entC = y := ⟨_, rfl⟩
  rw [enw] at fd hsrc ent1 spare h2 k2
  obtain ⟨x, ex⟩ : ∃ x, w.drew.setCells g (i * 2) news = x := ⟨_, rfl⟩
  rw [ex] at h2 k2
  have EX := Lib.hid ex
  have NW := Lib.hid enw
  have l2 : (splice cur (i * 2) news).length = c * 2 := by rw [length_splice _ _ _ (by rw [fd, hs]; omega), hs]
  have hclr : ∀ ty cc, (Builtin.clear_ #[81] ty #[.slice (some ⟨g, m * 2, none⟩) 1 cc]).run Tryz.prog x = .ok (.tuple #[]) (x.setRow g (splice (splice cur (i * 2) news) (m * 2) [.int .i64 0, .pointer none]).toArray) := fun ty cc => run_clear_two h2 (by rw [l2]; omega)
  have h3 := setRow_heap x g _ (splice (splice cur (i * 2) news) (m * 2) [.int .i64 0, .pointer none]).toArray _ _ h2
  have k3 := setRow_keep x g (splice (splice cur (i * 2) news) (m * 2) [.int .i64 0, .pointer none]).toArray
  clear ex enw
  go_enter Tryz.func35, Tryz.ntmps35
  go_wp2
  go_region_law (refine step_append_room rfl (.tmp 22) (.tmp 25) 81 rfl 80 i0 2 Tryz.underlying81 hi0 hz1 g 0 i c (by simp [Act.eval, Act.put]) ad (m - i) (c - (i + 1)) news (by simp [Act.eval, Act.put]) fd hsrc ent1 (by omega) spare ?_)
  rw [EX.out]
  clear q9 spare ent1 hsrc had hhd hh
  go_wp2
  go_ret
  refine ⟨rfl, ?_, (show Keep _ w _ from (Keep.refl _ w).drew.trans (k2.trans k3))⟩
  have le : (es.eraseIdx i).length = m := by rw [List.length_eraseIdx, EN.out, if_pos hi]; rfl
  have hC : (es.flatMap entC).take (i * 2) ++ news = (es.eraseIdx i).flatMap entC := by
    have e : es.flatMap entC = (es.take i).flatMap entC ++ (es.drop i).flatMap entC := by rw [← List.flatMap_append, List.take_append_drop]
    have lt : ((es.take i).flatMap entC).length = i * 2 := by rw [flat_len entC_len, List.length_take, EN.out]; congr 1; omega
    rw [List.eraseIdx_eq_take_drop_succ, List.flatMap_append, NW.out, e, List.take_append_of_le_length (by omega), List.take_of_length_le (by omega)]
  have lC : ((es.eraseIdx i).flatMap entC).length = m * 2 := by rw [flat_len entC_len, le]
  have c1 := splice_cut cur (es.flatMap entC) news (i * 2) ((m + 1) * 2) (by rw [fl]; omega) fl ht (by rw [fd]; omega) _ hC
  have ht3 : (splice (splice cur (i * 2) news) (m * 2) [Value.int .i64 0, .pointer none]).take ((es.eraseIdx i).length * 2) = (es.eraseIdx i).flatMap entC := by
    rw [le, ← c1, lC]
    generalize splice cur (i * 2) news = X at l2
    unfold splice
    rw [List.take_append_of_le_length (by rw [List.length_take]; omega), List.take_take, Nat.min_self]
  have := OwnE.of_row (es := es.eraseIdx i) (c := c) h3 (by rw [le]; omega) hm (by rw [length_splice _ _ _ (by rw [l2]; simp; omega), l2]) ht3
  rw [le] at this
  exact this
end
end Go.Proofs.YtmfpjnlplimkeaaGreat
