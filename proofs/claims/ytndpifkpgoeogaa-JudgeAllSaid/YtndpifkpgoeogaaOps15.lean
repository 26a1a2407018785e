/- A slice of the statement's Read that came in: what its cells hold; no condition beyond the argument's own reading. -/
import Derived.Test.YtndpifkpgoeogaaRow
import Derived.Test.YtndpifkpgoeogaaRdD
namespace Go.Proofs.Ytndpifkpgoeogaa
open Go.ChangeShapes Go.WideShapes Go.ChangeAt Go.RowKit
set_option linter.unusedVariables false

/-- One call of the script. -/
structure OpI where
  sp : Bool
  lo : Int
  hi : Int
  link : Int
  v : Value
  z : List Int
/-- What its fields hold, and that each fits its kind. -/
structure OpAt (w : World) (b o : Nat) (x : OpI) : Prop where
  c0 : w.cell? ⟨b, o, none⟩ = some (.bool x.sp)
  c1 : w.cell? ⟨b, o + 1, none⟩ = some (.int .i64 x.lo)
  c2 : w.cell? ⟨b, o + 2, none⟩ = some (.int .i64 x.hi)
  c3 : w.cell? ⟨b, o + 3, none⟩ = some (.int .u64 x.link)
  c4 : w.cell? ⟨b, o + 4, none⟩ = some x.v
structure OpOk (x : OpI) : Prop where
  b1 : -9223372036854775808 ≤ x.lo ∧ x.lo ≤ 9223372036854775807
  b2 : -9223372036854775808 ≤ x.hi ∧ x.hi ≤ 9223372036854775807
  b3 : 0 ≤ x.link ∧ x.link ≤ 18446744073709551615
structure IsOps (w : World) (A : Option Addr) (n c : Nat) (f : Nat → OpI) : Prop where
  cap : n ≤ c
  max : c ≤ 9223372036854775807
  cell : 0 < n → ∃ b off, A = some ⟨b, off, none⟩ ∧ b < w.heap.size ∧ ∀ j, j < n → OpAt w b (off + j * 5) (f j)
  ok : ∀ j, j < n → OpOk (f j)
  lies : ∀ j, j < n → Lies w (f j).v (f j).z
theorem Addr.add_zero' (a : Addr) : a.add 0 = a := by simp [Addr.add]
theorem cells_op : Try.prog.cellsOf 48 = 5 := by kernel_rfl
theorem cells_bool : Try.prog.cellsOf 4 = 1 := by kernel_rfl
theorem cells_int : Try.prog.cellsOf 3 = 1 := by kernel_rfl
theorem cells_slice : Try.prog.cellsOf 33 = 1 := by kernel_rfl
theorem cells_uint64 : Try.prog.cellsOf 23 = 1 := by kernel_rfl
/-- A field that is a slice of words. -/
theorem row_field {H : Type} {enc : TypeId × Value → H} {w : World} {spare : Nat → Bool} {held : Bool} {m : Nat} {x : Value} {d : DataW H × List MemPlace}
    (h : DataW.trod enc Try.prog w 0 spare held m 33 [x] = some d) : ∃ v z, [x] = [v] ∧ Lies w v z := by
  have key : ∀ A n c, x = .slice A n c → ∃ v z, [x] = [v] ∧ Lies w v z := fun A n c e => by
    subst e
    obtain ⟨z, hz⟩ := is_row (A := A) (n := n) (c := c) (d := d.1) (ps := d.2) Try.underlying33 Try.underlying23 (by kernel_rfl) ⟨m, h⟩
    refine ⟨_, z, rfl, A, c, by rw [hz.len], by rw [hz.len]; exact hz.cap, fun h0 => ?_⟩
    obtain ⟨b, off, hA, hb, hc⟩ := hz.cell (by rw [← hz.len]; exact h0)
    exact ⟨b, off, hA, hb, fun j hj => hc j (by rw [← hz.len]; exact hj)⟩
  rcases DataW.trod_slice Try.underlying33 h with ⟨h0, _⟩ | ⟨a, len, cap, elems, rest, m', _, h0, _⟩
  · exact key none 0 0 (by simpa [Value.cells] using h0)
  · exact key (some a) len cap (by simpa [Value.cells] using h0)
set_option maxRecDepth 100000 in
set_option maxHeartbeats 1000000 in
theorem is_ops {H : Type} {enc : TypeId × Value → H} {w : World} {spare : Nat → Bool} {held : Bool} {A : Option Addr} {n c : Nat} {d : DataW H} {ps : List MemPlace}
    (h : DataW.Trod enc Try.prog w 0 spare held 44 (.slice A n c) d ps) : ∃ f, IsOps w A n c f := by
  obtain ⟨fuel, hf⟩ := h
  rcases DataW.trod_slice Try.underlying44 hf with ⟨h0, _⟩ | ⟨a, len, cap, elems, rest, m, _, h0, _, _, hl, hm, hlen, hel, _, _⟩
  · simp [Value.cells] at h0
    obtain ⟨rfl, rfl, rfl⟩ := h0
    exact ⟨fun _ => ⟨false, 0, 0, 0, .slice none 0 0, []⟩, Nat.le_refl _, by omega, fun h => by omega, fun j hj => by omega, fun j hj => by omega⟩
  · simp [Value.cells] at h0
    obtain ⟨rfl, rfl, rfl⟩ := h0
    rw [cells_op] at hel
    have each : ∀ j, ∃ x : OpI, j < n → (w.cell? (a.add (j * 5)) = some (.bool x.sp) ∧ w.cell? ((a.add (j * 5)).add 1) = some (.int .i64 x.lo) ∧ w.cell? ((a.add (j * 5)).add 2) = some (.int .i64 x.hi) ∧ w.cell? ((a.add (j * 5)).add 3) = some (.int .u64 x.link) ∧ w.cell? ((a.add (j * 5)).add 4) = some x.v) ∧ OpOk x ∧ Lies w x.v x.z := by
      intro j
      by_cases hj : j < n
      · have he := hel j hj
        rw [List.getElem?_eq_getElem (by omega), Option.bind_eq_some_iff] at he
        obtain ⟨cs, hcs, ht⟩ := he
        obtain ⟨_, hcl, hat⟩ := World.cells?_some hcs
        obtain ⟨xs, m', _, _, hl4, hxl, hx⟩ := DataW.trod_struct Try.underlying48 ht
        have f0 : DataW.trod enc Try.prog w 0 spare held m' 4 ((cs.drop 0).take (Try.prog.cellsOf 4)) = xs[0]? := hx 0 _ rfl
        have f1 : DataW.trod enc Try.prog w 0 spare held m' 3 ((cs.drop 1).take (Try.prog.cellsOf 3)) = xs[1]? := hx 1 _ rfl
        have f2 : DataW.trod enc Try.prog w 0 spare held m' 3 ((cs.drop 2).take (Try.prog.cellsOf 3)) = xs[2]? := hx 2 _ rfl
        have f3 : DataW.trod enc Try.prog w 0 spare held m' 23 ((cs.drop 3).take (Try.prog.cellsOf 23)) = xs[3]? := hx 3 _ rfl
        have f4 : DataW.trod enc Try.prog w 0 spare held m' 33 ((cs.drop 4).take (Try.prog.cellsOf 33)) = xs[4]? := hx 4 _ rfl
        match cs, hcl, xs, hxl with
        | [x0, x1, x2, x3, x4], _, [y0, y1, y2, y3, y4], _ =>
          simp only [cells_bool, cells_int, cells_uint64, cells_slice, List.drop_zero, List.drop_succ_cons, List.take_succ_cons, List.take_zero, List.getElem?_cons_zero, List.getElem?_cons_succ] at f0 f1 f2 f3 f4
          obtain ⟨v0, e0, _⟩ := DataW.trod_bool Try.underlying4 f0
          obtain ⟨v1, e1, _, g1⟩ := DataW.trod_int Try.underlying3 f1
          obtain ⟨v2, e2, _, g2⟩ := DataW.trod_int Try.underlying3 f2
          obtain ⟨v3, e3, _, g3⟩ := DataW.trod_int Try.underlying23 f3
          obtain ⟨v4, z4, e4, g4⟩ := row_field f4
          simp only [List.cons.injEq, and_true] at e0 e1 e2 e3 e4
          subst e0 e1 e2 e3 e4
          refine ⟨⟨v0, v1, v2, v3, x4, z4⟩, fun _ => ⟨⟨?_, hat 1 (by omega), hat 2 (by omega), hat 3 (by omega), hat 4 (by omega)⟩, ?_⟩⟩
          · have := hat 0 (by omega)
            rwa [Addr.add_zero'] at this
          · exact ⟨⟨bounds_i64 g1, bounds_i64 g2, bounds_u64 g3⟩, g4⟩
      · exact ⟨⟨false, 0, 0, 0, .slice none 0 0, []⟩, fun h => absurd h hj⟩
    obtain ⟨f, hf⟩ := Classical.axiomOfChoice each
    refine ⟨f, hl, by unfold maxLen at hm; omega, fun hp => ?_, fun j hj => (hf j hj).2.1, fun j hj => (hf j hj).2.2⟩
    obtain ⟨b, off, spot⟩ := a
    have hs0 := (hf 0 hp).1.1
    have hspot : spot = none := by simpa [Addr.add] using World.cell?_spot hs0
    subst hspot
    refine ⟨b, off, rfl, lt_of_cell (by simpa [Addr.add] using hs0), fun j hj => ?_⟩
    obtain ⟨⟨d0, d1, d2, d3, d4⟩, _⟩ := hf j hj
    have ad : ∀ i, (({ block := b, off := off, spot := none } : Addr).add (j * 5)).add i = ⟨b, off + j * 5 + i, none⟩ := fun i => by rw [add_plain, add_plain]
    rw [ad] at d1 d2 d3 d4
    rw [add_plain] at d0
    exact ⟨d0, d1, d2, d3, d4⟩
end Go.Proofs.Ytndpifkpgoeogaa
