/- 'l = append(l, x)' on a slice of 64-bit words that the call itself has made: what it holds then, where it lies, what has turned; condition: it holds at most 100,000. -/
import Derived.Test.YtmfpjnlplimkeaaOwn
import Derived.Deep.AppendLies
namespace Go.Proofs.Ytmfpjnlplimkeaa
open Go.ChangeShapes Go.WideShapes Go.ChangeAt Go.RowKit
set_option linter.unusedVariables false

/-- A slice of words of the call's own, from block B on (or nil). -/
abbrev OwnU (B : Nat) (w : World) (v : Value) (zs : List Int) : Prop := w.ownsRow B 22 1 v zs.length (zs.map (Value.int .u64))
theorem OwnU.keep {B : Nat} {w w' : World} {v : Value} {zs : List Int} {S : Nat → Prop} (h : OwnU B w v zs) (k : Keep S w w') (hn : ∀ g, v.ownBlock = some g → ¬ S g) : OwnU B w' v zs := by
  obtain ⟨h1, h2⟩ := id h
  refine ⟨h1, ?_⟩
  rcases h2 with h2 | ⟨g, c, cur, hv, hg, hh, r⟩
  · exact .inl h2
  · subst hv
    exact .inr ⟨g, c, cur, rfl, hg, by rw [k.block g (lt_of_block hh) (hn g rfl)]; exact hh, r⟩
theorem OwnU.lt {B : Nat} {w : World} {v : Value} {zs : List Int} (h : OwnU B w v zs) {g : Nat} (hg : v.ownBlock = some g) : B ≤ g ∧ g < w.heap.size := World.ownsRow.lt h g hg
theorem OwnU.cell {B g n c : Nat} {w : World} {zs : List Int} (h : OwnU B w (.slice (some ⟨g, 0, none⟩) n c) zs) (i : Nat) (hi : i < zs.length) : w.cell? ⟨g, i, none⟩ = some (.int .u64 (zs.getD i 0)) := by
  have := Own.cell (Own.of_base (f := Value.int .u64) (zs := zs) h rfl rfl) i hi
  rw [this]
  simp [List.getD_eq_getElem?_getD, hi]
theorem info_push : (Try.prog.info? 22).map (fun i => (i.zero, i.size, i.bytes)) = some (some (.int .u64 0), 1, 8) := by kernel_rfl
theorem push_lies (x : World) (l : Int) : ∀ j u, [Value.int .u64 l][j]? = some u → (x.alloc (.cells #[.int .u64 l] 22)).cell? ((⟨x.heap.size, 0, none⟩ : Addr).add j) = some u := by
  intro j u hj
  match j, hj with
  | 0, hj => simp at hj; subst hj; simp [Addr.add]
end Go.Proofs.Ytmfpjnlplimkeaa
