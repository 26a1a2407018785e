/- Several texts, one behind the other: Codes, Row, Ops10. -/
import Derived.Test.YtmfpjnlplimkeaaGreatLawHashPlaysZab
import Derived.ChangeOld
/- Pieces of a translated function's code: a block, a region, a loop's round, what stands behind them. No dump; no condition. -/
namespace Go.Proofs.YtmfpjnlplimkeaaGreat
open Go.ChangeShapes Go.WideShapes Go.ChangeAt Go.RowKit
set_option linter.unusedVariables false

def isB (n : Nat) : Code → Bool
  | .block m _ => m == n
  | .seq _ b => isB n b
  | _ => false
/-- Block n of a code, and what stands behind it. -/
def blockIn (n : Nat) : Code → Option Code
  | .block m c => bif m == n then some (.block m c) else blockIn n c
  | .loop c => blockIn n c
  | .scope c => blockIn n c
  | .seq a b => (blockIn n a).or (blockIn n b)
  | .cond _ a b => (blockIn n a).or (blockIn n b)
  | _ => none
def afterB (n : Nat) : Code → Option Code
  | .block _ c => afterB n c
  | .loop c => afterB n c
  | .scope c => afterB n c
  | .seq a b => bif isB n a then some b else (afterB n a).or (afterB n b)
  | .cond _ a b => (afterB n a).or (afterB n b)
  | _ => none
/-- What stands behind the statement that begins with region n. -/
def isR (n : Nat) : Code → Bool
  | .seq (.region m _ _) _ => m == n
  | _ => false
def afterR (n : Nat) : Code → Option Code
  | .block _ c => afterR n c
  | .loop c => afterR n c
  | .scope c => afterR n c
  | .seq a b => bif isR n a then some b else (afterR n a).or (afterR n b)
  | .cond _ a b => (afterR n a).or (afterR n b)
  | _ => none
def regIn (n : Nat) : Code → Option Code
  | .region m o d => bif m == n then some (.region m o d) else none
  | .block _ c => regIn n c
  | .loop c => regIn n c
  | .scope c => regIn n c
  | .seq a b => (regIn n a).or (regIn n b)
  | .cond _ a b => (regIn n a).or (regIn n b)
  | _ => none
/-- What stands behind region n. -/
def isG (n : Nat) : Code → Bool
  | .region m _ _ => m == n
  | .seq _ b => isG n b
  | _ => false
def afterG (n : Nat) : Code → Option Code
  | .block _ c => afterG n c
  | .loop c => afterG n c
  | .scope c => afterG n c
  | .seq a b => bif isG n a then some b else (afterG n a).or (afterG n b)
  | .cond _ a b => (afterG n a).or (afterG n b)
  | _ => none
def loopIn : Code → Option Code
  | .loop c => some c
  | .block _ c => loopIn c
  | .scope c => loopIn c
  | .seq a b => (loopIn a).or (loopIn b)
  | .cond _ a b => (loopIn a).or (loopIn b)
  | _ => none
end Go.Proofs.YtmfpjnlplimkeaaGreat
/- A slice of integers that came in: what its cells hold; no condition beyond the argument's own reading. -/
namespace Go.Proofs.YtmfpjnlplimkeaaGreat
open Go.ChangeShapes Go.WideShapes Go.ChangeAt Go.RowKit
set_option linter.unusedVariables false

/-- The slice at A of n elements reads as the numbers zs. -/
structure IsRow (k : IntKind) (w : World) (A : Option Addr) (n c : Nat) (zs : List Int) : Prop where
  len : zs.length = n
  cap : n ≤ c
  max : c ≤ 9223372036854775807
  cell : 0 < n → ∃ b off, A = some ⟨b, off, none⟩ ∧ b < w.heap.size ∧ ∀ j, j < n → w.cell? ⟨b, off + j, none⟩ = some (.int k (zs.getD j 0))
  wf : ∀ x ∈ zs, (Lit.int k x).wf = true
theorem is_row {H : Type} {enc : TypeId × Value → H} {P : Program} {w : World} {spare : Nat → Bool} {held : Bool} {t e : TypeId} {k : IntKind} {A : Option Addr} {n c : Nat} {d : DataW H} {ps : List MemPlace}
    (ht : P.underlying t = some (.slice e)) (he : P.underlying e = some (.int k)) (hc : P.cellsOf e = 1) (h : DataW.Trod enc P w 0 spare held t (.slice A n c) d ps) : ∃ zs, IsRow k w A n c zs := by
  obtain ⟨fuel, hf⟩ := h
  rcases open_ints ht he hc hf with ⟨h0, _⟩ | ⟨a, len, cap, zs, h0, _, hl, hm, hz, _, hcell, hwf⟩
  · simp [Value.cells] at h0
    obtain ⟨rfl, rfl, rfl⟩ := h0
    exact ⟨[], rfl, Nat.le_refl _, by omega, fun h => by omega, by simp⟩
  · simp [Value.cells] at h0
    obtain ⟨rfl, rfl, rfl⟩ := h0
    have hnl : n ≤ zs.length := by rw [hz]; split <;> omega
    refine ⟨zs.take n, by simp; omega, hl, by unfold maxLen at hm; omega, fun hp => ?_, fun x hx => hwf x (List.mem_of_mem_take hx)⟩
    obtain ⟨b, off, rfl, hb⟩ := ints_at hcell (by omega)
    refine ⟨b, off, rfl, lt_of_cell (hb 0 (by omega)), fun j hj => ?_⟩
    rw [hb j (by omega)]
    simp [List.getD_eq_getElem?_getD, hj]
/-- Every element fits 64 bits without a sign. -/
theorem IsRow.u64 {w : World} {A : Option Addr} {n c : Nat} {zs : List Int} (h : IsRow .u64 w A n c zs) (j : Nat) : 0 ≤ zs.getD j 0 ∧ zs.getD j 0 ≤ 18446744073709551615 := by
  have := range_u64 h.wf j
  rwa [List.getD_eq_getElem?_getD]

end Go.Proofs.YtmfpjnlplimkeaaGreat
/- A slice of the statement's Op that came in: what its cells hold; no condition beyond the argument's own reading. -/
namespace Go.Proofs.YtmfpjnlplimkeaaGreat
open Go.ChangeShapes Go.WideShapes Go.ChangeAt Go.RowKit
set_option linter.unusedVariables false

/-- One call of the script. -/
structure OpI where
  kind : Int
  key : Int
/-- What its fields hold, and that each fits its kind. -/
structure OpAt (w : World) (b o : Nat) (x : OpI) : Prop where
  c0 : w.cell? ⟨b, o, none⟩ = some (.int .i64 x.kind)
  c1 : w.cell? ⟨b, o + 1, none⟩ = some (.int .i64 x.key)
structure OpOk (x : OpI) : Prop where
  b0 : -9223372036854775808 ≤ x.kind ∧ x.kind ≤ 9223372036854775807
  b1 : -9223372036854775808 ≤ x.key ∧ x.key ≤ 9223372036854775807
structure IsOps (w : World) (A : Option Addr) (n c : Nat) (f : Nat → OpI) : Prop where
  cap : n ≤ c
  max : c ≤ 9223372036854775807
  cell : 0 < n → ∃ b off, A = some ⟨b, off, none⟩ ∧ b < w.heap.size ∧ ∀ j, j < n → OpAt w b (off + j * 2) (f j)
  ok : ∀ j, j < n → OpOk (f j)
theorem Addr.add_zero' (a : Addr) : a.add 0 = a := by simp [Addr.add]
theorem cells_op : Tryz.prog.cellsOf 49 = 2 := by kernel_rfl
theorem cells_int : Tryz.prog.cellsOf 3 = 1 := by kernel_rfl
set_option maxRecDepth 100000 in
set_option maxHeartbeats 1000000 in
theorem is_ops {H : Type} {enc : TypeId × Value → H} {w : World} {spare : Nat → Bool} {held : Bool} {A : Option Addr} {n c : Nat} {d : DataW H} {ps : List MemPlace}
    (h : DataW.Trod enc Tryz.prog w 0 spare held 45 (.slice A n c) d ps) : ∃ f, IsOps w A n c f := by
  obtain ⟨fuel, hf⟩ := h
  rcases DataW.trod_slice Tryz.underlying45 hf with ⟨h0, _⟩ | ⟨a, len, cap, elems, rest, m, _, h0, _, _, hl, hm, hlen, hel, _, _⟩
  · simp [Value.cells] at h0
    obtain ⟨rfl, rfl, rfl⟩ := h0
    exact ⟨fun _ => ⟨0, 0⟩, Nat.le_refl _, by omega, fun h => by omega, fun j hj => by omega⟩
  · simp [Value.cells] at h0
    obtain ⟨rfl, rfl, rfl⟩ := h0
    rw [cells_op] at hel
    have each : ∀ j, ∃ x : OpI, j < n → (w.cell? (a.add (j * 2)) = some (.int .i64 x.kind) ∧ w.cell? ((a.add (j * 2)).add 1) = some (.int .i64 x.key)) ∧ OpOk x := by
      intro j
      by_cases hj : j < n
      · have he := hel j hj
        rw [List.getElem?_eq_getElem (by omega), Option.bind_eq_some_iff] at he
        obtain ⟨cs, hcs, ht⟩ := he
        obtain ⟨_, hcl, hat⟩ := World.cells?_some hcs
        obtain ⟨xs, m', _, _, hl4, hxl, hx⟩ := DataW.trod_struct Tryz.underlying49 ht
        have f0 : DataW.trod enc Tryz.prog w 0 spare held m' 3 ((cs.drop 0).take (Tryz.prog.cellsOf 3)) = xs[0]? := hx 0 _ rfl
        have f1 : DataW.trod enc Tryz.prog w 0 spare held m' 3 ((cs.drop 1).take (Tryz.prog.cellsOf 3)) = xs[1]? := hx 1 _ rfl
        match cs, hcl, xs, hxl with
        | [x0, x1], _, [y0, y1], _ =>
          simp only [cells_int, List.drop_zero, List.drop_succ_cons, List.take_succ_cons, List.take_zero, List.getElem?_cons_zero, List.getElem?_cons_succ] at f0 f1
          obtain ⟨v0, e0, _, g0⟩ := DataW.trod_int Tryz.underlying3 f0
          obtain ⟨v1, e1, _, g1⟩ := DataW.trod_int Tryz.underlying3 f1
          simp only [List.cons.injEq, and_true] at e0 e1
          subst e0 e1
          refine ⟨⟨v0, v1⟩, fun _ => ⟨⟨?_, hat 1 (by omega)⟩, ?_⟩⟩
          · have := hat 0 (by omega)
            rwa [Addr.add_zero'] at this
          · exact ⟨bounds_i64 g0, bounds_i64 g1⟩
      · exact ⟨⟨0, 0⟩, fun h => absurd h hj⟩
    obtain ⟨f, hf⟩ := Classical.axiomOfChoice each
    refine ⟨f, hl, by unfold maxLen at hm; omega, fun hp => ?_, fun j hj => (hf j hj).2⟩
    obtain ⟨b, off, spot⟩ := a
    have hs0 := (hf 0 hp).1.1
    have hspot : spot = none := by simpa [Addr.add] using World.cell?_spot hs0
    subst hspot
    refine ⟨b, off, rfl, lt_of_cell (by simpa [Addr.add] using hs0), fun j hj => ?_⟩
    obtain ⟨⟨d0, d1⟩, _⟩ := hf j hj
    have ad : ∀ i, (({ block := b, off := off, spot := none } : Addr).add (j * 2)).add i = ⟨b, off + j * 2 + i, none⟩ := fun i => by rw [add_plain, add_plain]
    rw [ad] at d1
    rw [add_plain] at d0
    exact ⟨d0, d1⟩
end Go.Proofs.YtmfpjnlplimkeaaGreat
