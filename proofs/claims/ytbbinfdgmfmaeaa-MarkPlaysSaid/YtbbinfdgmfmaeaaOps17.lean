/- A slice of the statement's Op that came in: what its cells hold; no condition beyond the argument's own reading. -/
import Derived.Test.YtbbinfdgmfmaeaaRow
namespace Go.Proofs.Ytbbinfdgmfmaeaa
open Go.ChangeShapes Go.WideShapes Go.ChangeAt Go.RowKit
set_option linter.unusedVariables false

/-- One call of the script. -/
structure OpI where
  kind : Int
  x : Int
/-- What its fields hold, and that each fits its kind. -/
structure OpAt (w : World) (b o : Nat) (x : OpI) : Prop where
  c0 : w.cell? ⟨b, o, none⟩ = some (.int .i64 x.kind)
  c1 : w.cell? ⟨b, o + 1, none⟩ = some (.int .u64 x.x)
structure OpOk (x : OpI) : Prop where
  b0 : -9223372036854775808 ≤ x.kind ∧ x.kind ≤ 9223372036854775807
  b1 : 0 ≤ x.x ∧ x.x ≤ 18446744073709551615
structure IsOps (w : World) (A : Option Addr) (n c : Nat) (f : Nat → OpI) : Prop where
  cap : n ≤ c
  max : c ≤ 9223372036854775807
  cell : 0 < n → ∃ b off, A = some ⟨b, off, none⟩ ∧ b < w.heap.size ∧ ∀ j, j < n → OpAt w b (off + j * 2) (f j)
  ok : ∀ j, j < n → OpOk (f j)
theorem Addr.add_zero' (a : Addr) : a.add 0 = a := by simp [Addr.add]
theorem cells_op : Try.prog.cellsOf 37 = 2 := by kernel_rfl
theorem cells_int : Try.prog.cellsOf 3 = 1 := by kernel_rfl
theorem cells_uint64 : Try.prog.cellsOf 26 = 1 := by kernel_rfl
set_option maxRecDepth 100000 in
set_option maxHeartbeats 1000000 in
theorem is_ops {H : Type} {enc : TypeId × Value → H} {w : World} {spare : Nat → Bool} {held : Bool} {A : Option Addr} {n c : Nat} {d : DataW H} {ps : List MemPlace}
    (h : DataW.Trod enc Try.prog w 0 spare held 35 (.slice A n c) d ps) : ∃ f, IsOps w A n c f := by
  obtain ⟨fuel, hf⟩ := h
  rcases DataW.trod_slice Try.underlying35 hf with ⟨h0, _⟩ | ⟨a, len, cap, elems, rest, m, _, h0, _, _, hl, hm, hlen, hel, _, _⟩
  · simp [Value.cells] at h0
    obtain ⟨rfl, rfl, rfl⟩ := h0
    exact ⟨fun _ => ⟨0, 0⟩, Nat.le_refl _, by omega, fun h => by omega, fun j hj => by omega⟩
  · simp [Value.cells] at h0
    obtain ⟨rfl, rfl, rfl⟩ := h0
    rw [cells_op] at hel
    have each : ∀ j, ∃ x : OpI, j < n → (w.cell? (a.add (j * 2)) = some (.int .i64 x.kind) ∧ w.cell? ((a.add (j * 2)).add 1) = some (.int .u64 x.x)) ∧ OpOk x := by
      intro j
      by_cases hj : j < n
      · have he := hel j hj
        rw [List.getElem?_eq_getElem (by omega), Option.bind_eq_some_iff] at he
        obtain ⟨cs, hcs, ht⟩ := he
        obtain ⟨_, hcl, hat⟩ := World.cells?_some hcs
        obtain ⟨xs, m', _, _, hl4, hxl, hx⟩ := DataW.trod_struct Try.underlying37 ht
        have f0 : DataW.trod enc Try.prog w 0 spare held m' 3 ((cs.drop 0).take (Try.prog.cellsOf 3)) = xs[0]? := hx 0 _ rfl
        have f1 : DataW.trod enc Try.prog w 0 spare held m' 26 ((cs.drop 1).take (Try.prog.cellsOf 26)) = xs[1]? := hx 1 _ rfl
        match cs, hcl, xs, hxl with
        | [x0, x1], _, [y0, y1], _ =>
          simp only [cells_int, cells_uint64, List.drop_zero, List.drop_succ_cons, List.take_succ_cons, List.take_zero, List.getElem?_cons_zero, List.getElem?_cons_succ] at f0 f1
          obtain ⟨v0, e0, _, g0⟩ := DataW.trod_int Try.underlying3 f0
          obtain ⟨v1, e1, _, g1⟩ := DataW.trod_int Try.underlying26 f1
          simp only [List.cons.injEq, and_true] at e0 e1
          subst e0 e1
          refine ⟨⟨v0, v1⟩, fun _ => ⟨⟨?_, hat 1 (by omega)⟩, ?_⟩⟩
          · have := hat 0 (by omega)
            rwa [Addr.add_zero'] at this
          · exact ⟨bounds_i64 g0, bounds_u64 g1⟩
      · exact ⟨⟨0, 0⟩, fun h => absurd h hj⟩
    obtain ⟨f, hf⟩ := Classical.axiomOfChoice each
    refine ⟨f, hl, by unfold maxLen at hm; omega, fun hp => ?_, fun j hj => (hf j hj).2⟩
    obtain ⟨b, off, spot⟩ := a
    have hs0 := (hf 0 hp).1.1
    have hspot : spot = none := by simpa [Addr.add] using World.cell?_spot hs0
    subst hspot
    refine ⟨b, off, rfl, lt_of_cell (by simpa [Addr.add] using hs0), fun j hj => ?_⟩
    obtain ⟨⟨d0, d1⟩, _⟩ := hf j hj
    have ad : ∀ i, (({ block := b, off := off, spot := none } : Addr).add (j * 2)).add i = ⟨b, off + j * 2 + i, none⟩ := fun i => by rw [add_plain, add_plain]
    rw [ad] at d1
    rw [add_plain] at d0
    exact ⟨d0, d1⟩
end Go.Proofs.Ytbbinfdgmfmaeaa
