/- A list of events that a law lays for itself, in a cell that a closure holds, and a clock: TaleBonds. No condition. -/
import Derived.Test.YtalkfnblnlcklaaDoorTlX
import Derived.Test.YtalkfnblnlcklaaDoorMask
namespace Go.Proofs.YtalkfnblnlcklaaDoor
open Go.ChangeShapes Go.WideShapes Go.ChangeAt Go.RowKit
set_option linter.unusedVariables false
set_option linter.unusedSimpArgs false
def evF0 (e : EvI) : List Value := evF (e, .slice none 0 0)
theorem evF0_len (e : EvI) : (evF0 e).length = 12 := rfl
theorem evF0_one (e : EvI) : ∀ u ∈ evF0 e, u.oneCell' = true := evF_one none 0 0 e
theorem info_ev : (Tryd.prog.info? 30).map (fun i => (i.zero, i.size, i.bytes)) = some (some (.agg #[.int .i64 0, .int .i64 0, .int .u64 0, .int .i64 0, .int .i64 0, .int .i64 0, .int .i64 0, .int .i64 0, .int .i64 0, .slice none 0 0, .int .i64 0, .int .i64 0]), 12, 112) := by kernel_rfl
abbrev OwnE (w : World) (v : Value) (es : List EvI) : Prop := OwnM 12 evF0 30 w v es
theorem own_evs0 {w : World} {v : Value} {es : List EvI} (h : OwnE w v es) (hp : ∀ e ∈ es, e.r.pairs = []) : EvsIn w v es := by
  refine own_evs ?_ hp
  unfold OwnE OwnM at h
  unfold OwnM
  rw [List.length_map, List.flatMap_map]
  exact h
/-- The list in cell N, the clock in cell C. -/
structure BL (w0 w : World) (N C : Nat) (A : Option Addr) (c : Nat) (es : List EvI) (clk : Int) : Prop where
  cl : w.cell? ⟨N, 0, none⟩ = some (.slice A es.length c)
  cc : w.cell? ⟨C, 0, none⟩ = some (.int .u64 clk)
  fl : ∀ i, w.frozen? ⟨N, i, none⟩ = false
  fc : ∀ i, w.frozen? ⟨C, i, none⟩ = false
  ow : OwnE w (.slice A es.length c) es
  nn : N ≠ C
  gn : ∀ g, (Value.slice A es.length c).ownBlock = some g → g ≠ N ∧ g ≠ C ∧ w0.heap.size ≤ g
  bn : w0.heap.size ≤ N ∧ w0.heap.size ≤ C
  k : Keep (fun _ => False) w0 w
section
variable {w0 w w' y : World} {N C c : Nat} {A : Option Addr} {es : List EvI} {clk : Int}
theorem BL.quiet (H : BL w0 w N C A c es clk) (k : Keep (fun _ => False) w w') : BL w0 w' N C A c es clk :=
  ⟨k.cell H.cl id, k.cell H.cc id, fun i => (k.frozen (a := ⟨N, i, none⟩) (lt_of_cell (a := ⟨N, 0, none⟩) H.cl) id).trans (H.fl i), fun i => (k.frozen (a := ⟨C, i, none⟩) (lt_of_cell (a := ⟨C, 0, none⟩) H.cc) id).trans (H.fc i), OwnM.keep H.ow k (fun _ _ => id), H.nn, H.gn, H.bn, H.k.trans k⟩
theorem BL.tick (H : BL w0 w N C A c es clk) (x : Int) : BL w0 (w.setCell ⟨C, 0, none⟩ (.int .u64 x)) N C A c es x := by
  have k := keep_one w ⟨C, 0, none⟩ (.int .u64 x)
  refine ⟨(World.cell?_setCell_other _ _ _ _ (fun e => H.nn (congrArg Addr.block e).symm)).trans H.cl, World.cell?_setCell_same _ _ _ H.cc, fun i => by rw [World.frozen?_setCell]; exact H.fl i, fun i => by rw [World.frozen?_setCell]; exact H.fc i, OwnM.keep H.ow k (fun g hg e => (H.gn g hg).2.1 e), H.nn, H.gn, H.bn, H.k.older k fun j hj => by have hj : j = C := hj; rw [hj]; exact H.bn.2⟩
theorem BL.push (H : BL w0 w N C A c es clk) (e : EvI) (g c' : Nat) (y : World) (o : OwnE y (.slice (some ⟨g, 0, none⟩) (es.length + 1) c') (es ++ [e])) (k : Keep (fun j => (Value.slice A es.length c).ownBlock = some j) w y) (hg : (Value.slice A es.length c).ownBlock = some g ∨ w.heap.size ≤ g) :
    (∃ x, y.cell? ⟨N, 0, none⟩ = some x) ∧ y.frozen? ⟨N, 0, none⟩ = false ∧ ∃ W, y.setCell ⟨N, 0, none⟩ (.slice (some ⟨g, 0, none⟩) (es.length + 1) c') = W ∧ BL w0 W N C (some ⟨g, 0, none⟩) c' (es ++ [e]) clk := by
  have n1 : ¬ (Value.slice A es.length c).ownBlock = some N := fun e => (H.gn N e).1 rfl
  have n2 : ¬ (Value.slice A es.length c).ownBlock = some C := fun e => (H.gn C e).2.1 rfl
  have lN : N < w.heap.size := lt_of_cell (a := ⟨N, 0, none⟩) H.cl
  have lC : C < w.heap.size := lt_of_cell (a := ⟨C, 0, none⟩) H.cc
  have cN := k.cell H.cl n1
  have cC := k.cell H.cc n2
  have hg' : g ≠ N ∧ g ≠ C ∧ w0.heap.size ≤ g := by
    rcases hg with q | q
    · exact H.gn g q
    · have := H.k.size; omega
  have el : (es ++ [e]).length = es.length + 1 := by simp
  have kk := keep_one y ⟨N, 0, none⟩ (.slice (some ⟨g, 0, none⟩) (es.length + 1) c')
  refine ⟨⟨_, cN⟩, (k.frozen (a := ⟨N, 0, none⟩) lN n1).trans (H.fl 0), _, rfl, ?_⟩
  refine ⟨by rw [el]; exact World.cell?_setCell_same _ _ _ cN, (World.cell?_setCell_other _ _ _ _ (fun e => H.nn (congrArg Addr.block e))).trans cC, fun i => by rw [World.frozen?_setCell]; exact (k.frozen (a := ⟨N, i, none⟩) lN n1).trans (H.fl i), fun i => by rw [World.frozen?_setCell]; exact (k.frozen (a := ⟨C, i, none⟩) lC n2).trans (H.fc i), by rw [el]; exact OwnM.keep o kk (fun g' h' e => by cases h'; exact hg'.1 e), H.nn, fun g' h' => by cases h'; exact hg', H.bn, ?_⟩
  exact (H.k.older k fun j hj => (H.gn j hj).2.2).older kk fun j hj => by have hj : j = N := hj; rw [hj]; exact H.bn.1
/-- The closure: an event that readies. -/
def prE (t n : Int) : EvI := ⟨3, t, n, ⟨0, 0, 0, 0⟩, ⟨0, 0, [], 0, 0⟩⟩
set_option maxRecDepth 100000 in
set_option maxHeartbeats 2000000 in
theorem prep_any (H : BL w0 w N C A c es clk) (hl : es.length ≤ 1000) (hc : 0 ≤ clk ∧ clk ≤ 1000) (t : Int) : Calls Tryd.prog 6 #[.int .i64 t, .pointer (some ⟨C, 0, none⟩), .pointer (some ⟨N, 0, none⟩)] w fun e w' => e = .returned (.tuple #[]) ∧ ∃ A' c', BL w0 w' N C A' c' (es ++ [prE t (clk + 1)]) (clk + 1) := by
  have wc : IntKind.u64.wrap (clk + 1) = clk + 1 := by rw [IntKind.wrap_u64]; omega
  obtain ⟨w2, e2⟩ : ∃ w2, w.setCell ⟨C, 0, none⟩ (.int .u64 (clk + 1)) = w2 := ⟨_, rfl⟩
  have H2 := H.tick (clk + 1)
  rw [e2] at H2
  have c1 := H.cc
  have f1 := H.fc 0
  have d0 := H2.cl
  have d1 := H2.cc
  have OWN := Lib.hid H2.ow
  have AFT := Lib.hid (H2.push (prE t (clk + 1)))
  have f2 := H2.fl 0
  have LY := Lib.hid (show es.length ≤ 100000 by omega)
  have lN : N < w2.heap.size := lt_of_cell (a := ⟨N, 0, none⟩) d0
  have nN : N ≠ w2.heap.size := Nat.ne_of_lt lN
  clear H H2 hc hl
  go_enter Tryd.func6, Tryd.ntmps6
  go_wp2_with (with_reducible refine wp_stop 11 rfl ?_)
  intro _
  refine wp_pushM Tryd.underlying31 info_ev rfl (by decide) (by decide) evF0_len evF0_one rfl (.tmp 6) (.tmp 10) rfl _ es (by rfl) OWN.out (prE t (clk + 1)) (by rfl) LY.out ?_
  intro g c' y o4 k4 hg
  obtain ⟨⟨xx, cx⟩, fx, _, rfl, BB⟩ := AFT.out g c' y o4 k4 hg
  have BH := Lib.hid BB
  clear o4 k4 hg BB
  go_wp2
  refine bodyPost_end (v := .tuple #[]) (by simp [results, Tryd.results6, go_sem]) rfl ?_
  exact ⟨rfl, _, _, BH.out⟩
/-- Small and without Pairs. -/
def fineB (es : List EvI) : Bool := es.all fun e => e.r.pairs.isEmpty && decide (0 ≤ e.n) && decide (e.n ≤ 1000)
theorem fine_p (h : fineB es = true) : ∀ e ∈ es, e.r.pairs = [] := fun e he => by
  have := List.all_eq_true.1 h e he
  simp only [Bool.and_eq_true, List.isEmpty_iff] at this
  exact this.1.1
theorem fine_n (h : fineB es = true) : EvN es := fun e he => by
  have := List.all_eq_true.1 h e he
  simp only [Bool.and_eq_true, decide_eq_true_eq] at this
  have h1 := this.1.2
  have h2 := this.2
  exact ⟨h1, by omega⟩
theorem BL.ok (H : BL w0 w N C A c es clk) (h : fineB es = true) {n : Nat} (hn : es.length = n) (a : Int) (ha : okAt es = a) : Calls Tryd.prog 7 #[.slice A n c] w fun e w' => e = .returned (.tuple #[.bool (decide (a < 0)), .int .i64 a]) ∧ BL w0 w' N C A c es clk := by
  subst hn
  refine (ok_any (own_evs0 H.ow (fine_p h)) (fine_n h) a ha).mono ?_
  rintro e w1 ⟨rfl, k1⟩
  exact ⟨rfl, H.quiet k1⟩
/-- Two begun ones. -/
def be (t : Int) : EvI := ⟨1, t, t, ⟨0, 0, 0, 1⟩, ⟨0, 0, [], 0, 0⟩⟩
def kE (k t n : Int) : EvI := ⟨k, t, n, ⟨0, 0, 0, 0⟩, ⟨0, 0, [], 0, 0⟩⟩
theorem bl_new (w : World) : ∃ V, ((w.alloc (.cells #[.int .i64 1, .int .i64 1, .int .u64 1, .int .i64 0, .int .i64 0, .int .i64 0, .int .i64 1, .int .i64 0, .int .i64 0, .slice none 0 0, .int .i64 0, .int .i64 0, .int .i64 1, .int .i64 2, .int .u64 2, .int .i64 0, .int .i64 0, .int .i64 0, .int .i64 1, .int .i64 0, .int .i64 0, .slice none 0 0, .int .i64 0, .int .i64 0] 30)).alloc (.cells #[.slice (some ⟨w.heap.size, 0, none⟩) 2 2] 31)).alloc (.cells #[.int .u64 2] 22) = V ∧ BL w V (w.heap.size + 1) (w.heap.size + 1 + 1) (some ⟨w.heap.size, 0, none⟩) 2 [be 1, be 2] 2 := by
  obtain ⟨W, eW⟩ : ∃ W, w.alloc (.cells #[.int .i64 1, .int .i64 1, .int .u64 1, .int .i64 0, .int .i64 0, .int .i64 0, .int .i64 1, .int .i64 0, .int .i64 0, .slice none 0 0, .int .i64 0, .int .i64 0, .int .i64 1, .int .i64 2, .int .u64 2, .int .i64 0, .int .i64 0, .int .i64 0, .int .i64 1, .int .i64 0, .int .i64 0, .slice none 0 0, .int .i64 0, .int .i64 0] 30) = W := ⟨_, rfl⟩
  have oW : OwnE W (.slice (some ⟨w.heap.size, 0, none⟩) 2 2) [be 1, be 2] := by
    rw [← eW]
    refine ⟨rfl, .inr ⟨w.heap.size, 2, _, rfl, Nat.zero_le _, heap_alloc_new w _, Nat.le_refl _, by decide, rfl, rfl⟩⟩
  have kW : Keep (fun _ => False) w W := by rw [← eW]; exact (Keep.refl _ _).alloc _
  have sW : W.heap.size = w.heap.size + 1 := by rw [← eW]; simp
  rw [eW]
  have k2 : Keep (fun _ => False) W ((W.alloc (.cells #[.slice (some ⟨w.heap.size, 0, none⟩) 2 2] 31)).alloc (.cells #[.int .u64 2] 22)) := ((Keep.refl _ _).alloc _).alloc _
  have s2 : (W.alloc (.cells #[.slice (some ⟨w.heap.size, 0, none⟩) 2 2] 31)).heap.size = w.heap.size + 1 + 1 := by simp [sW]
  refine ⟨_, rfl, ?_, ?_, fun i => ?_, fun i => ?_, OwnM.keep oW k2 (fun _ _ => id), by omega, fun g hg => by cases hg; show w.heap.size ≠ w.heap.size + 1 ∧ w.heap.size ≠ w.heap.size + 1 + 1 ∧ w.heap.size ≤ w.heap.size; omega, ⟨by omega, by omega⟩, kW.trans k2⟩
  · refine ((Keep.refl (fun _ => False) _).alloc _).cell ?_ id
    rw [← sW]; simp
  · rw [← s2]; simp
  · rw [← sW]; simp
  · rw [← s2]; simp
theorem BL.evs (H : BL w0 w N C A c es clk) (hp : ∀ e ∈ es, e.r.pairs = []) : EvsIn w (.slice A es.length c) es := own_evs0 H.ow hp
end
end Go.Proofs.YtalkfnblnlcklaaDoor
