/- Package bond, the parts: at, ended, slices.Sort, State, For; conditions: what the Bonds are, the table of math/bits. -/
import Derived.Test.YtjobphjpfknfeaaDoorBnM
import Derived.Test.YtjobphjpfknfeaaDoorSort
import Derived.Sort.OwnSortedInts
namespace Go.Proofs.YtjobphjpfknfeaaDoor
open Go.ChangeShapes Go.WideShapes Go.ChangeAt Go.RowKit
set_option linter.unusedVariables false
open Classical

abbrev OwnB (B : Nat) (w : World) (u : Value) (zs : List Nat) : Prop := OwnAt B ptrV 56 w u zs
theorem info_ptr : (Tryd.prog.info? 56).map (fun i => (i.zero, i.size, i.bytes)) = some (some (.pointer none), 1, 8) := by kernel_rfl
/-- The parties in a set, in the order of their places. -/
noncomputable def bsOf (bs : List Nat) (S : Nat → Prop) (n : Nat) : List Nat := (plc S n).map fun q => bs.getD q 0
section
variable {w w' w2 : World} {p m c o i : Nat} {v u : Value} {bs zs : List Nat} {xs : List Pty} {S T : Nat → Prop} {B : Nat}
theorem OwnB.shape (h : OwnB B w u zs) : ∃ A c, u = .slice A zs.length c ∧ (A = none → zs = []) ∧ ∀ ad, A = some ad → ∃ g, ad = ⟨g, 0, none⟩ := by
  obtain ⟨h1, h2⟩ := id h
  rcases h2 with ⟨h3, h4⟩ | ⟨g, c, cur, hv, _⟩
  · exact ⟨none, 0, by rw [h4]; exact h3, fun _ => List.length_eq_zero_iff.1 h4, fun ad h => by cases h⟩
  · exact ⟨some ⟨g, 0, none⟩, c, hv, fun h => (by cases h), fun ad h => by cases h; exact ⟨g, rfl⟩⟩
theorem OwnB.lt (h : OwnB B w u zs) {g : Nat} (hg : u.ownBlock = some g) : B ≤ g ∧ g < w.heap.size := World.ownsRow.lt h g hg
theorem OwnB.keep (h : OwnB B w u zs) (k : Keep T w w') (hn : ∀ g, u.ownBlock = some g → ¬ T g) : OwnB B w' u zs := by
  obtain ⟨h1, h2⟩ := id h
  refine ⟨h1, ?_⟩
  rcases h2 with h2 | ⟨g, c, cur, hv, hg, hh, r⟩
  · exact .inl h2
  · subst hv
    exact .inr ⟨g, c, cur, rfl, hg, by rw [k.block g (lt_of_block hh) (hn g rfl)]; exact hh, r⟩
theorem OwnB.lower {B' : Nat} (h : OwnB B w u zs) (hB : B' ≤ B) : OwnB B' w u zs := by
  obtain ⟨h1, h2⟩ := id h
  refine ⟨h1, ?_⟩
  rcases h2 with h2 | ⟨g, c, cur, hv, hg, r⟩
  · exact .inl h2
  · exact .inr ⟨g, c, cur, hv, by omega, r⟩
theorem OwnB.cell {g n c : Nat} (h : OwnB B w (.slice (some ⟨g, 0, none⟩) n c) zs) (i : Nat) (hi : i < zs.length) : w.cell? ⟨g, i, none⟩ = some (ptrV (zs.getD i 0)) := by
  have := Own.cell (Own.of_base (f := ptrV) (zs := zs) h rfl rfl) i hi
  rw [this]
  simp [List.getD_eq_getElem?_getD, hi]
theorem OwnN.lowerN {B B' : Nat} {zs : List Int} (h : OwnN B w u zs) (hB : B' ≤ B) : OwnN B' w u zs := by
  obtain ⟨h1, h2⟩ := id h
  refine ⟨h1, ?_⟩
  rcases h2 with h2 | ⟨g, c, cur, hv, hg, r⟩
  · exact .inl h2
  · exact .inr ⟨g, c, cur, hv, by omega, r⟩
theorem up_of (h : Below w.heap.size w w') : Keep (fun j => w.heap.size ≤ j) w w' := ⟨h.os, h.tape, h.output, h.size, fun j hj _ => h.block j hj⟩
theorem keep_of (h : Below w.heap.size w w') (S : Nat → Prop) : Keep S w w' := Keep.of_below h S
theorem bsOf_len {n : Nat} : (bsOf bs S n).length = (plc S n).length := by unfold bsOf; rw [List.length_map]
theorem plI_get {n j : Nat} (hj : j < (plc S n).length) : (plI S n).getD j 0 = ((plc S n).getD j 0 : Nat) := by
  unfold plI
  simp [List.getD_eq_getElem?_getD, hj]
theorem bsOf_get {n j : Nat} (hj : j < (plc S n).length) : (bsOf bs S n).getD j 0 = bs.getD ((plc S n).getD j 0) 0 := by
  unfold bsOf
  simp [List.getD_eq_getElem?_getD, hj]
theorem take_next {α : Type} [Inhabited α] (l : List α) (j : Nat) (hj : j < l.length) (d : α) : l.take (j + 1) = l.take j ++ [l.getD j d] := by
  rw [List.take_add_one, List.getElem?_eq_getElem hj, List.getD_eq_getElem?_getD, List.getElem?_eq_getElem hj]
  rfl
def AtR (w2 : World) (L : List Nat) (v q : Value) (wr : World) : Prop := ∃ j : Nat, j ≤ L.length ∧ q = .int .i64 j ∧ OwnB w2.heap.size wr v (L.take j) ∧ Below w2.heap.size w2 wr
set_option maxRecDepth 100000 in
theorem at_any (h : BdC w p m v bs xs) (g : SetAt w c o S) (hS : ∀ q, q < 2048 → S q → q < xs.length) (hT : TabW w) :
    Calls Tryd.prog 37 #[.pointer (some ⟨p, 0, none⟩), .pointer (some ⟨c, o, none⟩)] w fun e w' => ∃ u, e = .returned u ∧ OwnB w.heap.size w' u (bsOf bs S 2048) ∧ Below w.heap.size w w' := by
  have pl := places_any g hT
  have H := Lib.hid h
  clear g hT
  go_enter Tryd.func37, Tryd.ntmps37
  go_wp2_with fail
  refine pl.mono ?_
  rintro e w2 ⟨u, rfl, ou, b2⟩
  clear pl
  obtain ⟨A, cc, rfl, hA0, hA1⟩ := ou.shapeN
  have ln : (plI S 2048).length = (plc S 2048).length := by unfold plI; rw [List.length_map]
  have l2 : (plc S 2048).length ≤ 2048 := plc_len
  have hl : (bsOf bs S 2048).length = (plc S 2048).length := bsOf_len
  have OU := Lib.hid ou
  rw [ln]
  obtain ⟨n, en⟩ : ∃ n, (plc S 2048).length = n := ⟨_, rfl⟩
  have EN := Lib.hid en
  have LN := Lib.hid ln
  rw [en] at l2 hl ⊢
  have HL := Lib.hid hl
  clear ou en ln hl
  have H2 : BdC w2 p m v bs xs := H.out.keep (keep_of b2 fun _ => False) (fun _ _ q => q)
  have H2 := Lib.hid H2
  go_wp2
  go_loopw [5, 7, 11] (fun v _ q wr => AtR w2 (bsOf bs S 2048) v q wr) (fun _ _ q _ => n - (intOf q).toNat)
  case atStart => exact ⟨0, Nat.zero_le _, rfl, by show OwnB _ _ _ []; exact World.ownsRow_nil _ _ _ _, Below.refl _ _⟩
  case round =>
    obtain ⟨j, hj, rfl, ow, bl⟩ := hrel
    rw [HL.out] at hj
    by_cases hlt : j < n
    · cases A with
      | none =>
        have := hA0 rfl
        have l0 := LN.out
        rw [this, EN.out] at l0
        simp at l0
        omega
      | some ad =>
        obtain ⟨ga, rfl⟩ := hA1 _ rfl
        have jl : j < (plc S 2048).length := by rw [EN.out]; exact hlt
        obtain ⟨q, eq⟩ : ∃ q, (plc S 2048).getD j 0 = q := ⟨_, rfl⟩
        have hq : q < xs.length := by
          have hm : q ∈ plc S 2048 := by rw [← eq, List.getD_eq_getElem?_getD, List.getElem?_eq_getElem jl]; exact List.getElem_mem jl
          exact hS q (mem_plc.1 hm).1 (mem_plc.1 hm).2
        have hga := (OwnN.lt OU.out (g := ga) rfl).2
        have kw := keep_of bl fun _ => False
        have c1 : wr.cell? ⟨ga, j, none⟩ = some (.int .i64 q) := kw.cell (by rw [OwnN.cell OU.out j (by rw [LN.out]; exact jl), plI_get jl, eq]) (by simp)
        have h3 := H2.out.keep kw (fun _ _ q => q)
        have cl := h3.cl
        obtain ⟨gv, cv, ev, cb⟩ := h3.slot q hq
        rw [ev] at cl
        unfold ptrV at cb
        obtain ⟨b, eb⟩ : ∃ b, bs.getD q 0 = b := ⟨_, rfl⟩
        rw [eb] at cb
        have tk := take_next (bsOf bs S 2048) j (by rw [HL.out]; exact hlt) 0
        rw [bsOf_get jl, eq, eb] at tk
        have tl : ((bsOf bs S 2048).take j).length = j := by rw [List.length_take, HL.out]; omega
        have xl := h3.short
        have wq : IntKind.i64.wrap (q : Int) = q := IntWalk.i64_in _ (by omega)
        have wj : IntKind.i64.wrap ((j : Int) + 1) = (j : Int) + 1 := IntWalk.i64_in _ (by omega)
        have hB := bl.size
        have TKK := Lib.hid tk
        have BL := Lib.hid bl
        have EV := Lib.hid ev
        clear hA0 hA1 h3 eq eb kw tk bl ev hga
        obtain ⟨A2, c2, rfl, _, _⟩ := OwnB.shape ow
        obtain ⟨zs, ez⟩ : ∃ zs, (bsOf bs S 2048).take j = zs := ⟨_, rfl⟩
        rw [ez] at ow tl ⊢
        have EZ := Lib.hid ez
        clear ez
        go_wp2_with (with_reducible refine wp_stop 24 rfl ?_)
        intro _
        refine wp_push1 (f := ptrV) Tryd.underlying53 info_ptr rfl (by decide) ptrV_one rfl (.tmp 15) (.tmp 23) rfl w2.heap.size hB (.slice A2 zs.length c2) zs rfl ow b rfl (by omega) ?_
        intro g3 c3 y3 o3 k3 hg3
        have O3 : OwnB w2.heap.size y3 (.slice (some ⟨g3, 0, none⟩) (j + 1) c3) ((bsOf bs S 2048).take (j + 1)) := by
          rw [tl] at o3
          rw [TKK.out, EZ.out]
          exact o3
        have B3 : Below w2.heap.size w2 y3 := BL.out.trans (k3.below hB fun j hj => (OwnB.lt ow hj).1)
        have O3 := Lib.hid O3
        have B3 := Lib.hid B3
        clear o3 k3 hg3 ow
        go_wp2
        go_roundw
        case rel => exact ⟨j + 1, by rw [HL.out]; omega, by go_num, O3.out, B3.out⟩
        case measure => simp [intOf]; omega
    · obtain rfl : j = n := by omega
      rw [List.take_of_length_le (by rw [HL.out]; exact Nat.le_refl _)] at ow
      have R : OwnB w.heap.size wr u5 (bsOf bs S 2048) := ow.lower b2.size
      have R2 : Below w.heap.size w wr := b2.trans (bl.mono b2.size)
      have R := Lib.hid R
      have R2 := Lib.hid R2
      clear ow bl b2 hA0 hA1
      go_wp2
      go_ret
      exact ⟨_, rfl, R.out, R2.out⟩
/-- Ended or not. -/
theorem ended_any {b : Nat} {x : Pty} (h : PtyAt w b i x) : Calls Tryd.prog 26 #[.pointer (some ⟨b, 0, none⟩)] w fun e w' => e = .returned (.bool (decide (x.st = 3 ∨ x.st = 4))) ∧ w = w' := by
  have c2 := h.c2
  obtain ⟨s, es⟩ : ∃ s, x.st = s := ⟨_, rfl⟩
  rw [es] at c2 ⊢
  clear h es
  by_cases h3 : s = 3
  · subst h3
    go_enter Tryd.func26, Tryd.ntmps26
    go_wp2
    go_ret
    exact ⟨rfl, rfl⟩
  · have q3 : (s == 3) = false := by simpa using h3
    by_cases h4 : s = 4
    · subst h4
      go_enter Tryd.func26, Tryd.ntmps26
      go_wp2
      go_ret
      exact ⟨rfl, rfl⟩
    · have q4 : (s == 4) = false := by simpa using h4
      have e0 : decide (s = 3 ∨ s = 4) = false := by simp [h3, h4]
      rw [e0]
      go_enter Tryd.func26, Tryd.ntmps26
      go_wp2
      go_ret
      exact ⟨rfl, rfl⟩
/-- The numbers of a list, rising. -/
def srt (zs : List Int) : List Int := zs.mergeSort (fun x y => decide (x ≤ y))
theorem srt_len (zs : List Int) : (srt zs).length = zs.length := List.length_mergeSort zs
theorem mem_srt {zs : List Int} {a : Int} : a ∈ srt zs ↔ a ∈ zs := (List.mergeSort_perm zs _).mem_iff
theorem srt_rises {zs : List Int} (h : zs.Nodup) : (srt zs).Pairwise (· < ·) := by
  have p1 := List.mergeSort_perm zs (fun x y => decide (x ≤ y))
  have n1 : (srt zs).Pairwise (· ≠ ·) := p1.nodup_iff.2 h
  have s1 : (srt zs).Pairwise (fun a b => decide (a ≤ b) = true) := List.pairwise_mergeSort (le := fun x y : Int => decide (x ≤ y)) (fun a b c h1 h2 => by simp at h1 h2 ⊢; omega) (fun a b => by simp; omega) zs
  exact (s1.and n1).imp fun {a b} q => by have := of_decide_eq_true q.1; have := q.2; omega
/-- slices.Sort on a slice of the call's own. -/
theorem sort_any {zs : List Int} (h : OwnN B w u zs) (hl : zs.length ≤ 100000) : Calls Tryd.prog 38 #[u] w fun e w' => e = .returned (.tuple #[]) ∧ OwnN B w' u (srt zs) ∧ Keep (fun j => u.ownBlock = some j) w w' := by
  obtain ⟨A, c, rfl, hA0, hA1⟩ := h.shapeN
  cases A with
  | none =>
    have h0 := hA0 rfl
    subst h0
    refine (Tryd.slices_Sort_int_none none c w).mono ?_
    rintro e w' ⟨rfl, rfl⟩
    exact ⟨rfl, by show OwnN B _ _ (List.mergeSort [] _); simp; exact h, Keep.refl _ _⟩
  | some ad =>
    obtain ⟨g, rfl⟩ := hA1 _ rfl
    obtain ⟨_, h2⟩ := id h
    rcases h2 with ⟨h2, _⟩ | ⟨g', c', cur, hv, hb, hh, hl2, hm, hs, ht⟩
    · simp at h2
    simp at hv
    obtain ⟨rfl, rfl⟩ := hv
    refine (Tryd.slices_Sort_int g 0 c zs w (holds_of_blockI hh (by simpa using ht)) (lt_of_block hh) (by omega)).mono ?_
    rintro e w' ⟨rfl, nn, os, rfl⟩
    have gr : w.grownBy (Sort.grow (Sort.putRow (Value.int .i64) (Sort.ahead w nn) g 0 (srt zs).toArray) os) (some g) := grownBy_sortedI _
    refine ⟨rfl, ?_, ⟨gr.os, gr.tape, gr.output, gr.size, fun j hj hn => gr.block j hj (fun e => hn (by cases e; rfl))⟩⟩
    unfold OwnN
    rw [srt_len]
    exact ownsRow_sortedI (srt_len zs) hb hh hl2 hm hs
/-- The state of an id. -/
theorem state_at (h : BdC w p m v bs xs) {id : Int} (i : Nat) (hi : i < xs.length) (hid : I64 id) (e : (pty xs i).id = id) : Calls Tryd.prog 18 #[.pointer (some ⟨p, 0, none⟩), .int .i64 id] w fun r w' => r = .returned (.int .i64 (pty xs i).st) ∧ w = w' := by
  rcases h.look hid with ⟨j, hj, ej, hrun⟩ | ⟨hn, _⟩
  · obtain rfl : i = j := by
      rcases Nat.lt_trichotomy i j with q | q | q
      · exact absurd (e.trans ej.symm) (h.nd i j q hj)
      · exact q
      · exact absurd (ej.trans e.symm) (h.nd j i q hi)
    have cm := h.cm
    have c2 := (h.en i hi).c2
    unfold ptrV at hrun
    obtain ⟨b, eb⟩ : ∃ b, bs.getD i 0 = b := ⟨_, rfl⟩
    obtain ⟨s, es⟩ : ∃ s, (pty xs i).st = s := ⟨_, rfl⟩
    rw [eb] at hrun c2
    rw [es] at c2 ⊢
    clear eb es e ej h hid
    go_enter Tryd.func18, Tryd.ntmps18
    go_wp2
    go_ret
    exact ⟨rfl, rfl⟩
  · exact absurd e (hn i hi)
theorem state_no (h : BdC w p m v bs xs) {id : Int} (hid : I64 id) (hn : ∀ i, i < xs.length → (pty xs i).id ≠ id) : Calls Tryd.prog 18 #[.pointer (some ⟨p, 0, none⟩), .int .i64 id] w fun r w' => r = .returned (.int .i64 0) ∧ w = w' := by
  rcases h.look hid with ⟨j, hj, ej, _⟩ | ⟨_, hrun⟩
  · exact absurd ej (hn j hj)
  · have cm := h.cm
    clear h hid hn
    go_enter Tryd.func18, Tryd.ntmps18
    go_wp2
    go_ret
    exact ⟨rfl, rfl⟩
end
end Go.Proofs.YtjobphjpfknfeaaDoor
