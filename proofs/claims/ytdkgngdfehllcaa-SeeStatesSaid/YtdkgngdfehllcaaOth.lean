/- A slice of vinculumref1's Other that came in: what its cells hold; no condition beyond the argument's own reading. -/
import Derived.Test.YtdkgngdfehllcaaRow
import Derived.Test.YtdkgngdfehllcaaTb
namespace Go.Proofs.Ytdkgngdfehllcaa
open Go.ChangeShapes Go.WideShapes Go.ChangeAt Go.RowKit
set_option linter.unusedVariables false

/-- What is told of a transaction: is it there, and what it is. -/
structure Ot where
  th : Bool
  x : Tx
structure OtAt (w : World) (b o : Nat) (y : Ot) : Prop where
  c0 : w.cell? ⟨b, o, none⟩ = some (.bool y.th)
  c1 : w.cell? ⟨b, o + 1, none⟩ = some (.int .i64 y.x.lv)
  c2 : w.cell? ⟨b, o + 2, none⟩ = some (.int .i64 y.x.st)
  c3 : w.cell? ⟨b, o + 3, none⟩ = some (.int .u64 y.x.b)
  c4 : w.cell? ⟨b, o + 4, none⟩ = some (.int .u64 y.x.e)
/-- Each number fits its kind. -/
structure TxFit (x : Tx) : Prop where
  l0 : -9223372036854775808 ≤ x.lv
  l1 : x.lv ≤ 9223372036854775807
  s0 : -9223372036854775808 ≤ x.st
  s1 : x.st ≤ 9223372036854775807
  b0 : 0 ≤ x.b
  b1 : x.b ≤ 18446744073709551615
  e0 : 0 ≤ x.e
  e1 : x.e ≤ 18446744073709551615
structure IsOth (w : World) (A : Option Addr) (n c : Nat) (f : Nat → Ot) : Prop where
  cap : n ≤ c
  max : c ≤ 9223372036854775807
  nil : A = none → n = 0
  cell : 0 < n → ∃ b off, A = some ⟨b, off, none⟩ ∧ b < w.heap.size ∧ ∀ j, j < n → OtAt w b (off + j * 5) (f j)
  ok : ∀ j, j < n → TxFit (f j).x
theorem Addr.add_zero5 (a : Addr) : a.add 0 = a := by simp [Addr.add]
theorem cells_oth : Try.prog.cellsOf 47 = 5 := by kernel_rfl
theorem cells_txn5 : Try.prog.cellsOf 24 = 4 := by kernel_rfl
theorem cells_bool5 : Try.prog.cellsOf 4 = 1 := by kernel_rfl
theorem cells_int5 : Try.prog.cellsOf 3 = 1 := by kernel_rfl
theorem cells_u645 : Try.prog.cellsOf 22 = 1 := by kernel_rfl
set_option maxRecDepth 100000 in
theorem is_oth {H : Type} {enc : TypeId × Value → H} {w : World} {spare : Nat → Bool} {held : Bool} {A : Option Addr} {n c : Nat} {d : DataW H} {ps : List MemPlace}
    (h : DataW.Trod enc Try.prog w 0 spare held 32 (.slice A n c) d ps) : ∃ f, IsOth w A n c f := by
  obtain ⟨fuel, hf⟩ := h
  rcases DataW.trod_slice Try.underlying32 hf with ⟨h0, _⟩ | ⟨a, len, cap, elems, rest, m, _, h0, _, _, hl, hm, hlen, hel, _, _⟩
  · simp [Value.cells] at h0
    obtain ⟨rfl, rfl, rfl⟩ := h0
    exact ⟨fun _ => ⟨false, 0, 0, 0, 0⟩, Nat.le_refl _, by omega, fun _ => rfl, fun h => by omega, fun j hj => by omega⟩
  · simp [Value.cells] at h0
    obtain ⟨rfl, rfl, rfl⟩ := h0
    rw [cells_oth] at hel
    have each : ∀ j, ∃ y : Ot, j < n → (w.cell? (a.add (j * 5)) = some (.bool y.th) ∧ w.cell? ((a.add (j * 5)).add 1) = some (.int .i64 y.x.lv) ∧ w.cell? ((a.add (j * 5)).add 2) = some (.int .i64 y.x.st) ∧ w.cell? ((a.add (j * 5)).add 3) = some (.int .u64 y.x.b) ∧ w.cell? ((a.add (j * 5)).add 4) = some (.int .u64 y.x.e)) ∧ TxFit y.x := by
      intro j
      by_cases hj : j < n
      · have he := hel j hj
        rw [List.getElem?_eq_getElem (by omega), Option.bind_eq_some_iff] at he
        obtain ⟨cs, hcs, ht⟩ := he
        obtain ⟨_, hcl, hat⟩ := World.cells?_some hcs
        obtain ⟨xs, m', _, _, hl5, hxl, hx⟩ := DataW.trod_struct Try.underlying47 ht
        have f0 : DataW.trod enc Try.prog w 0 spare held m' 4 ((cs.drop 0).take (Try.prog.cellsOf 4)) = xs[0]? := hx 0 _ rfl
        have f1 : DataW.trod enc Try.prog w 0 spare held m' 24 ((cs.drop 1).take (Try.prog.cellsOf 24)) = xs[1]? := hx 1 _ rfl
        match cs, hcl, xs, hxl with
        | [x0, x1, x2, x3, x4], _, [y0, y1], _ =>
          simp only [cells_bool5, cells_txn5, List.drop_zero, List.drop_succ_cons, List.take_succ_cons, List.take_zero, List.getElem?_cons_zero, List.getElem?_cons_succ] at f0 f1
          obtain ⟨v0, e0, _⟩ := DataW.trod_bool Try.underlying4 f0
          obtain ⟨zs, m2, _, _, hl4, hzl, hz⟩ := DataW.trod_struct Try.underlying24 f1
          have g0 : DataW.trod enc Try.prog w 0 spare held m2 3 (([x1, x2, x3, x4].drop 0).take (Try.prog.cellsOf 3)) = zs[0]? := hz 0 _ rfl
          have g1 : DataW.trod enc Try.prog w 0 spare held m2 3 (([x1, x2, x3, x4].drop 1).take (Try.prog.cellsOf 3)) = zs[1]? := hz 1 _ rfl
          have g2 : DataW.trod enc Try.prog w 0 spare held m2 22 (([x1, x2, x3, x4].drop 2).take (Try.prog.cellsOf 22)) = zs[2]? := hz 2 _ rfl
          have g3 : DataW.trod enc Try.prog w 0 spare held m2 22 (([x1, x2, x3, x4].drop 3).take (Try.prog.cellsOf 22)) = zs[3]? := hz 3 _ rfl
          match zs, hzl with
          | [z0, z1, z2, z3], _ =>
            simp only [cells_int5, cells_u645, List.drop_zero, List.drop_succ_cons, List.take_succ_cons, List.take_zero, List.getElem?_cons_zero, List.getElem?_cons_succ] at g0 g1 g2 g3
            obtain ⟨v1, e1, _, w1⟩ := DataW.trod_int Try.underlying3 g0
            obtain ⟨v2, e2, _, w2⟩ := DataW.trod_int Try.underlying3 g1
            obtain ⟨v3, e3, _, w3⟩ := DataW.trod_int Try.underlying22 g2
            obtain ⟨v4, e4, _, w4⟩ := DataW.trod_int Try.underlying22 g3
            simp only [List.cons.injEq, and_true] at e0 e1 e2 e3 e4
            subst e0 e1 e2 e3 e4
            refine ⟨⟨v0, v1, v2, v3, v4⟩, fun _ => ⟨⟨?_, hat 1 (by omega), hat 2 (by omega), hat 3 (by omega), hat 4 (by omega)⟩, ?_⟩⟩
            · have := hat 0 (by omega)
              rwa [Addr.add_zero5] at this
            · exact ⟨(bounds_i64 w1).1, (bounds_i64 w1).2, (bounds_i64 w2).1, (bounds_i64 w2).2, (bounds_u64 w3).1, (bounds_u64 w3).2, (bounds_u64 w4).1, (bounds_u64 w4).2⟩
      · exact ⟨⟨false, 0, 0, 0, 0⟩, fun h => absurd h hj⟩
    obtain ⟨f, hf⟩ := Classical.axiomOfChoice each
    refine ⟨f, hl, by unfold maxLen at hm; omega, fun e => (by cases e), fun hp => ?_, fun j hj => (hf j hj).2⟩
    obtain ⟨b, off, spot⟩ := a
    have hs0 := (hf 0 hp).1.1
    have hspot : spot = none := by simpa [Addr.add] using World.cell?_spot hs0
    subst hspot
    refine ⟨b, off, rfl, lt_of_cell (by simpa [Addr.add] using hs0), fun j hj => ?_⟩
    obtain ⟨⟨d0, d1, d2, d3, d4⟩, _⟩ := hf j hj
    have ad : ∀ i, (({ block := b, off := off, spot := none } : Addr).add (j * 5)).add i = ⟨b, off + j * 5 + i, none⟩ := fun i => by rw [add_plain, add_plain]
    rw [ad] at d1 d2 d3 d4
    rw [add_plain] at d0
    exact ⟨d0, d1, d2, d3, d4⟩
theorem IsOth.keep {S : Nat → Prop} {w w' : World} {A : Option Addr} {n c : Nat} {f : Nat → Ot} (h : IsOth w A n c f) (k : Keep S w w') (hn : ∀ b o, A = some ⟨b, o, none⟩ → ¬ S b) : IsOth w' A n c f := by
  refine ⟨h.cap, h.max, h.nil, fun hp => ?_, h.ok⟩
  obtain ⟨b, off, e, hb, hc⟩ := h.cell hp
  have nb := hn b off e
  exact ⟨b, off, e, Nat.lt_of_lt_of_le hb k.size, fun j hj => ⟨k.cell (hc j hj).c0 nb, k.cell (hc j hj).c1 nb, k.cell (hc j hj).c2 nb, k.cell (hc j hj).c3 nb, k.cell (hc j hj).c4 nb⟩⟩
end Go.Proofs.Ytdkgngdfehllcaa
