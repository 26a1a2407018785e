/- Deals in memory, to be read: calls with their answers, transactions as they are told. No condition. -/
import Derived.Test.YtalkfnblnlcklaaDoorAxS
namespace Go.Proofs.YtalkfnblnlcklaaDoor
open Go.ChangeShapes Go.WideShapes Go.ChangeAt Go.RowKit
set_option linter.unusedVariables false
set_option linter.unusedSimpArgs false
def callF (z : (OpI × ReI) × Value) : List Value := [.int .i64 z.1.1.kind, .int .i64 z.1.1.key, .int .i64 z.1.1.hi, .int .i64 z.1.1.val, .int .i64 z.1.2.e, .int .i64 z.1.2.val, z.2, .int .i64 z.1.2.over, .int .i64 z.1.2.reason]
def dealF (z : DlI × Value) : List Value := [.int .i64 z.1.id, .int .i64 z.1.level, .int .i64 z.1.state, .int .u64 z.1.start, .int .u64 z.1.stop, z.2]
theorem callF_len (z : (OpI × ReI) × Value) : (callF z).length = 9 := rfl
theorem dealF_len (z : DlI × Value) : (dealF z).length = 6 := rfl
/-- The slice value v reads as these calls. -/
def CallsIn (w : World) (v : Value) (cs : List (OpI × ReI)) : Prop := ∃ zs : List ((OpI × ReI) × Value), zs.map Prod.fst = cs ∧ Lies 9 callF w v zs ∧ ∀ z ∈ zs, LPr w z.2 z.1.2.pairs
/-- The slice value v reads as these transactions. -/
def DealsIn (w : World) (v : Value) (ds : List DlI) : Prop := ∃ zs : List (DlI × Value), zs.map Prod.fst = ds ∧ Lies 6 dealF w v zs ∧ ∀ z ∈ zs, CallsIn w z.2 z.1.ops
/-- Not too many. -/
structure DlB (ds : List DlI) : Prop where
  n : ds.length ≤ 20000
  o : (ds.map fun d => d.ops.length).sum ≤ 24000
  p : ∀ d ∈ ds, ∀ c ∈ d.ops, c.2.pairs.length ≤ 50000
section
variable {w w' : World} {v : Value} {cs : List (OpI × ReI)} {ds : List DlI}
theorem CallsIn.keep (h : CallsIn w v cs) (k : Keep (fun _ => False) w w') : CallsIn w' v cs := by
  obtain ⟨zs, e, l, q⟩ := h
  exact ⟨zs, e, l.keep k, fun z hz => (q z hz).keep k⟩
theorem DealsIn.keep (h : DealsIn w v ds) (k : Keep (fun _ => False) w w') : DealsIn w' v ds := by
  obtain ⟨zs, e, l, q⟩ := h
  exact ⟨zs, e, l.keep k, fun z hz => (q z hz).keep k⟩
theorem CallsIn.form (h : CallsIn w v cs) : ∃ A c, v = .slice A cs.length c ∧ cs.length ≤ c ∧ c ≤ maxLen ∧ (0 < cs.length → ∃ b off, A = some ⟨b, off, none⟩ ∧ ∀ (j : Nat) (x : OpI × ReI), cs[j]? = some x → ∃ A2 c2, LPr w (.slice A2 x.2.pairs.length c2) x.2.pairs ∧
    w.cell? ⟨b, off + j * 9, none⟩ = some (.int .i64 x.1.kind) ∧ w.cell? ⟨b, off + j * 9 + 1, none⟩ = some (.int .i64 x.1.key) ∧ w.cell? ⟨b, off + j * 9 + 2, none⟩ = some (.int .i64 x.1.hi) ∧ w.cell? ⟨b, off + j * 9 + 3, none⟩ = some (.int .i64 x.1.val) ∧
    w.cell? ⟨b, off + j * 9 + 4, none⟩ = some (.int .i64 x.2.e) ∧ w.cell? ⟨b, off + j * 9 + 5, none⟩ = some (.int .i64 x.2.val) ∧ w.cell? ⟨b, off + j * 9 + 6, none⟩ = some (.slice A2 x.2.pairs.length c2) ∧ w.cell? ⟨b, off + j * 9 + 7, none⟩ = some (.int .i64 x.2.over) ∧ w.cell? ⟨b, off + j * 9 + 8, none⟩ = some (.int .i64 x.2.reason)) := by
  obtain ⟨zs, rfl, ⟨A, c, rfl, h1, h2, h3, h4⟩, q⟩ := h
  rw [List.length_map]
  refine ⟨A, c, rfl, h1, h2, fun h0 => ?_⟩
  obtain ⟨b, off, rfl, hb, hc⟩ := h4 h0
  refine ⟨b, off, rfl, fun j x hx => ?_⟩
  rw [List.getElem?_map, Option.map_eq_some_iff] at hx
  obtain ⟨z, hz, rfl⟩ := hx
  have L := q z (List.mem_of_getElem? hz)
  obtain ⟨A2, c2, e, _⟩ := L.form
  have g := hc j z hz
  rw [e] at L
  refine ⟨A2, c2, L, g 0 _ rfl, g 1 _ rfl, g 2 _ rfl, g 3 _ rfl, g 4 _ rfl, g 5 _ rfl, ?_, g 7 _ rfl, g 8 _ rfl⟩
  rw [← e]; exact g 6 _ rfl
theorem DealsIn.form (h : DealsIn w v ds) : ∃ A c, v = .slice A ds.length c ∧ ds.length ≤ c ∧ c ≤ maxLen ∧ (0 < ds.length → ∃ b off, A = some ⟨b, off, none⟩ ∧ ∀ (j : Nat) (x : DlI), ds[j]? = some x → ∃ A2 c2, CallsIn w (.slice A2 x.ops.length c2) x.ops ∧
    w.cell? ⟨b, off + j * 6, none⟩ = some (.int .i64 x.id) ∧ w.cell? ⟨b, off + j * 6 + 1, none⟩ = some (.int .i64 x.level) ∧ w.cell? ⟨b, off + j * 6 + 2, none⟩ = some (.int .i64 x.state) ∧ w.cell? ⟨b, off + j * 6 + 3, none⟩ = some (.int .u64 x.start) ∧
    w.cell? ⟨b, off + j * 6 + 4, none⟩ = some (.int .u64 x.stop) ∧ w.cell? ⟨b, off + j * 6 + 5, none⟩ = some (.slice A2 x.ops.length c2)) := by
  obtain ⟨zs, rfl, ⟨A, c, rfl, h1, h2, h3, h4⟩, q⟩ := h
  rw [List.length_map]
  refine ⟨A, c, rfl, h1, h2, fun h0 => ?_⟩
  obtain ⟨b, off, rfl, hb, hc⟩ := h4 h0
  refine ⟨b, off, rfl, fun j x hx => ?_⟩
  rw [List.getElem?_map, Option.map_eq_some_iff] at hx
  obtain ⟨z, hz, rfl⟩ := hx
  have L := q z (List.mem_of_getElem? hz)
  obtain ⟨A2, c2, e, _⟩ := L.form
  have g := hc j z hz
  rw [e] at L
  refine ⟨A2, c2, L, g 0 _ rfl, g 1 _ rfl, g 2 _ rfl, g 3 _ rfl, g 4 _ rfl, ?_⟩
  rw [← e]; exact g 5 _ rfl
/-- How many Pairs there can be. -/
theorem fold_len (cs : List (OpI × ReI)) (l : List (Int × Int)) : (cs.foldl laidP l).length ≤ l.length + cs.length := by
  induction cs generalizing l with
  | nil => exact Nat.le_refl _
  | cons c cs ih =>
    rw [List.foldl_cons, List.length_cons]
    have := ih (laidP l c)
    have := laidP_len l c
    omega
end
end Go.Proofs.YtalkfnblnlcklaaDoor
