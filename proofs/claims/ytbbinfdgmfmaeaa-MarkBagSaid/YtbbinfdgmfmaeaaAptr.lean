/- Contracts of the methods of sync/atomic's Pointer[list] in one goroutine: Load, Store, CompareAndSwap (it goes through); conditions: the cell holds a pointer and may be written; what it leads to is a list in a block of its own. -/
import Derived.Test.YtbbinfdgmfmaeaaKeep
import Derived.Laws.LoneSync
import Derived.Lib.Builder
namespace Go.Proofs.Ytbbinfdgmfmaeaa
open Go.ChangeShapes Go.WideShapes Go.ChangeAt Go.RowKit
set_option linter.unusedVariables false

section
variable {P : Program} {f : FuncId} {fn : Func}
theorem run_loadp (hf : P.funcs[f]? = some fn) (hname : (fn.name == "runtime.NumGoroutine") = false) (hb : fn.body.isNone = true) (hn : Extern.findNext fn = none) (he : Extern.find fn = some (Extern.Atomic.loadT .ptr))
    {a : Addr} {x : Option Addr} {w : World} (hc : w.cell? a = some (.pointer x)) : (callFunc f #[.pointer (some a)]).run P w = .ok (.value (.pointer x)) w := by
  rw [run_callFunc_extern hf hname hb hn he]
  change (Sem.run P (do Extern.Atomic.read .ptr (← asAddr (.pointer (some a)))) w).andThen _ = _
  simp [Extern.Atomic.read, asAddr, hc, Result.andThen]
theorem run_storep (hf : P.funcs[f]? = some fn) (hname : (fn.name == "runtime.NumGoroutine") = false) (hb : fn.body.isNone = true) (hn : Extern.findNext fn = none) (he : Extern.find fn = some Extern.Atomic.storeT)
    {a : Addr} {y : Option Addr} {u : Value} {w : World} (hc : w.cell? a = some u) (hz : w.frozen? a = false) : (callFunc f #[.pointer (some a), .pointer y]).run P w = .ok (.value (.tuple #[])) (w.setCell a (.pointer y)) := by
  rw [run_callFunc_extern hf hname hb hn he]
  change (Sem.run P (do
    store (← asAddr (.pointer (some a))) (.pointer y) .atomic
    pure Extern.Atomic.none_) w).andThen _ = _
  simp [asAddr, hc, hz, run_store P w a (.pointer y) .atomic rfl, Result.andThen, Extern.Atomic.none_]
theorem run_casp (hf : P.funcs[f]? = some fn) (hname : (fn.name == "runtime.NumGoroutine") = false) (hb : fn.body.isNone = true) (hn : Extern.findNext fn = none) (he : Extern.find fn = some (Extern.Atomic.casT .ptr))
    {a x : Addr} {y : Option Addr} {w : World} (hc : w.cell? a = some (.pointer (some x))) (hz : w.frozen? a = false) : (callFunc f #[.pointer (some a), .pointer (some x), .pointer y]).run P w = .ok (.value (.bool true)) (w.setCell a (.pointer y)) := by
  rw [run_callFunc_extern hf hname hb hn he]
  change (Sem.run P (do
    let b ← asAddr (.pointer (some a))
    if ← Extern.Atomic.touchesFrozen b then unsupported (.unsafePointer "a write to bytes that a string shares")
    let eq ← match Extern.Atomic.T.ptr, ← Extern.Atomic.read .ptr b, Value.pointer (some x) with
      | _, .int _ x, .int _ y => pure (x == y)
      | .ptr, .pointer x, .pointer y => samePointer x y
      | .int _, .pointer (some _), .int _ 0 | .int _, .int _ 0, .pointer (some _) => pure false
      | .int _, .pointer (some _), _ | .int _, _, .pointer (some _) => unsupported .addressObserved
      | _, _, _ => stuck "atomic.CompareAndSwap: old is no T"
    if eq then store b (.pointer y) .atomic
    pure (Value.bool eq)) w).andThen _ = _
  simp [Extern.Atomic.touchesFrozen, Extern.Atomic.read, asAddr, viewAt, samePointer, sameAddr, World.shape?_isSome_of_cell? hc, hc, hz, run_store P w a (.pointer y) .atomic rfl, Result.andThen]
end
/-- Block q holds one list, v. -/
def BoxL (w : World) (q : Nat) (v : Value) : Prop := w.heap[q]? = some (.cells #[v] 56 (0, 0))
section
variable {w w' : World} {q : Nat} {v : Value} {T : Nat → Prop}
theorem BoxL.lt (h : BoxL w q v) : q < w.heap.size := lt_of_block h
theorem BoxL.cell (h : BoxL w q v) : w.cell? ⟨q, 0, none⟩ = some v := by unfold BoxL at h; simp [World.cell?, h]
theorem BoxL.keep (h : BoxL w q v) (k : Keep T w w') (hn : ¬ T q) : BoxL w' q v := (k.block q h.lt hn).trans h
theorem BoxL.shape (h : BoxL w q v) : w.shape? q = some (56, 1) := by unfold BoxL at h; simp [World.shape?, h]
theorem list_size : (Try.prog.info? 56).map (fun i => decide (i.size = 0)) = some false := by kernel_rfl
theorem list_lies : liesAt Try.prog Try.prog.depth 56 (1 / Try.prog.cellsOf 56) 0 56 1 = true := by kernel_rfl
theorem to_raw (h : BoxL w q v) : (convert 45 49 (.pointer (some ⟨q, 0, none⟩))).run Try.prog w = .ok (.pointer (some ⟨q, 0, none⟩)) w :=
  run_convert_to_unsafe Try.underlying45 Try.underlying49 list_size h.cell
theorem of_raw (h : BoxL w q v) : (convert 49 45 (.pointer (some ⟨q, 0, none⟩))).run Try.prog w = .ok (.pointer (some ⟨q, 0, none⟩)) w := by
  obtain ⟨i, hi, _⟩ := Option.map_eq_some_iff.1 list_size
  exact Lib.run_from_unsafe _ (⟨q, 0, none⟩ : Addr) Try.underlying49 Try.underlying45 hi h.shape list_lies
theorem pload (m : Nat) (hc : w.cell? ⟨m, 0, none⟩ = some (.pointer (some ⟨q, 0, none⟩))) (h : BoxL w q v) :
    Calls Try.prog 19 #[.pointer (some ⟨m, 0, none⟩)] w fun e w' => e = .returned (.pointer (some ⟨q, 0, none⟩)) ∧ w = w' := by
  have hl := run_loadp (P := Try.prog) Try.func31 (by kernel_rfl) (by kernel_rfl) (by kernel_rfl) (by kernel_rfl) hc
  have hr := of_raw h
  go_enter Try.func19, Try.ntmps19
  go_wp2
  go_ret
  exact ⟨rfl, rfl⟩
theorem pstore (m : Nat) (u : Value) (hc : w.cell? ⟨m, 0, none⟩ = some u) (hz : w.frozen? ⟨m, 0, none⟩ = false) (h : BoxL w q v) :
    Calls Try.prog 18 #[.pointer (some ⟨m, 0, none⟩), .pointer (some ⟨q, 0, none⟩)] w fun e w' => e = .returned (.tuple #[]) ∧ w' = w.setCell ⟨m, 0, none⟩ (.pointer (some ⟨q, 0, none⟩)) := by
  have hl := run_storep (P := Try.prog) Try.func30 (by kernel_rfl) (by kernel_rfl) (by kernel_rfl) (by kernel_rfl) (y := some ⟨q, 0, none⟩) hc hz
  have hr := to_raw h
  go_enter Try.func18, Try.ntmps18
  go_wp2
  go_end0
  exact ⟨rfl, rfl⟩
theorem pcas (m : Nat) {q' : Nat} {v' : Value} (hc : w.cell? ⟨m, 0, none⟩ = some (.pointer (some ⟨q, 0, none⟩))) (hz : w.frozen? ⟨m, 0, none⟩ = false) (h : BoxL w q v) (h' : BoxL w q' v') :
    Calls Try.prog 23 #[.pointer (some ⟨m, 0, none⟩), .pointer (some ⟨q, 0, none⟩), .pointer (some ⟨q', 0, none⟩)] w fun e w' => e = .returned (.bool true) ∧ w' = w.setCell ⟨m, 0, none⟩ (.pointer (some ⟨q', 0, none⟩)) := by
  have hl := run_casp (P := Try.prog) Try.func38 (by kernel_rfl) (by kernel_rfl) (by kernel_rfl) (by kernel_rfl) (y := some ⟨q', 0, none⟩) hc hz
  have hr := to_raw h
  have hr' := to_raw h'
  go_enter Try.func23, Try.ntmps23
  go_wp2
  go_ret
  exact ⟨rfl, rfl⟩
end
end Go.Proofs.Ytbbinfdgmfmaeaa
