/- The words and the table of strconv: the program's own text lays them, and what that gives the walks. -/
import Derived.Test.YtalkfnblnlcklaaDoorTlV
import Derived.Test.YtalkfnblnlcklaaDoorTie
import Derived.Test.YtalkfnblnlcklaaDoorCards
import Derived.LaidMore
import Derived.OpenShut
import Derived.Stop.Joined
import Derived.Lib.LaidTab
import Derived.Lib.LaidU8
namespace Go.Proofs.YtalkfnblnlcklaaDoor
open Go.ChangeShapes Go.WideShapes Go.ChangeAt Go.RowKit
set_option linter.unusedVariables false
open Classical
def lay1 : List (String × DataW Unit) := [("math/bits.deBruijn32tab", Rows.laid_math_bits_deBruijn32tab), ("math/bits.deBruijn64tab", Rows.laid_math_bits_deBruijn64tab), ("internal/strconv.uint64pow10", Rows.laid_internal_strconv_uint64pow10), ("vinculum/tale.words", Rows.laid_vinculum_tale_words)]
theorem door_met (os : Os) (args : Array Value) : laidMetH Tryd.prog lay1 ((World.doorLaid Tryd.prog 29 os).forCall (fun _ _ => 0) ⟨#[], args, []⟩).memory :=
  laidMetH_of_parts3 (fuel := 8) (laidMet_of_run' 8 (by kernel_rfl) (by kernel_rfl)) (by kernel_rfl) (by kernel_rfl)
theorem row_pow : (Rows.laid_internal_strconv_uint64pow10 : DataW Unit) = Lib.tabData .u64 Lib.pow10Tab := by rfl
def wordsL : List (List UInt8) := [[], wordT 1, wordT 2, wordT 3, wordT 4, wordT 5, wordT 6]
theorem row_words : (Rows.laid_vinculum_tale_words : DataW Unit) = .agg (wordsL.map fun s => .lit (.string s)) := by rfl
theorem gPow : Tryd.prog.globalNamed "internal/strconv.uint64pow10" = some 1 := by kernel_rfl
theorem tPow : (Tryd.prog.globals[1]?).map (·.type) = some 104 := by kernel_rfl
theorem gWds : Tryd.prog.globalNamed "vinculum/tale.words" = some 0 := by kernel_rfl
theorem tWds : (Tryd.prog.globals[0]?).map (·.type) = some 79 := by kernel_rfl
structure LdW (w : World) : Prop where
  t : TabW w.heap.size w
  w : WdW w.heap.size w
theorem LdW.on {w w' : World} (h : LdW w) (k : Keep (fun _ => False) w w') : LdW w' := by
  have b : Below w.heap.size w w' := (k.bk (Nat.le_refl _)).b
  refine ⟨fun w2 b2 => h.t w2 (b.trans (b2.mono k.size)), fun w2 b2 => h.w w2 (b.trans (b2.mono k.size))⟩
theorem of_laid {W : World} (h : laidMetH Tryd.prog lay1 W) : LdW W := by
  rw [MakeChecks.laidMetH_plain _ _ _ (by kernel_rfl)] at h
  have r3 := Lib.laidMet.reads h (.tail _ (.tail _ (.head _)))
  have r4 := Lib.laidMet.reads h (.tail _ (.tail _ (.tail _ (.head _))))
  constructor
  · refine Lib.tabBelow_of_tabIs ?_
    obtain ⟨g, t, cs, fuel, p, h1, h2, h3, h4⟩ := r3
    obtain rfl := Option.some.inj (gPow.symm.trans h1)
    obtain rfl := Option.some.inj (tPow.symm.trans h2)
    rw [row_pow] at h4
    unfold Lib.TabIs
    rw [h3, ← Lib.cells_of_tab Tryd.underlying104 Tryd.underlying22 (by kernel_rfl) (by kernel_rfl) h4]
  · obtain ⟨g, t, cs, fuel, p, h1, h2, h3, h4⟩ := r4
    obtain rfl := Option.some.inj (gWds.symm.trans h1)
    obtain rfl := Option.some.inj (tWds.symm.trans h2)
    obtain ⟨xs, m1, rfl, hx1, hlen, hn3, hel⟩ := DataW.trod_array Tryd.underlying79 h4
    have c5 : Tryd.prog.cellsOf 9 = 1 := by kernel_rfl
    rw [row_words] at hx1
    simp only [Prod.mk.injEq, DataW.agg.injEq] at hx1
    intro w' b k k1 k6
    have h0 := hel k (by omega)
    have hxj : xs[k]? = some xs[k] := List.getElem?_eq_getElem (by omega)
    rw [hxj, c5, Nat.mul_one] at h0
    obtain ⟨s, e1, e2, _⟩ := DataW.trod_string Tryd.underlying9 h0
    have hm := congrArg (fun l => l[k]?) hx1.1
    simp only [List.getElem?_map, hxj, Option.map_some] at hm
    rw [e2] at hm
    have hw : wordsL[k]? = some (wordT k) := by
      rcases (by omega : k = 1 ∨ k = 2 ∨ k = 3 ∨ k = 4 ∨ k = 5 ∨ k = 6) with rfl | rfl | rfl | rfl | rfl | rfl <;> rfl
    rw [hw] at hm
    simp only [Option.map_some, Option.some.injEq, DataW.lit.injEq, Lit.string.injEq] at hm
    have hc : cs.toList[k]? = some (.string s) := by
      have h2 : ((cs.toList.drop k).take 1)[0]? = some (.string s) := by rw [e1]; rfl
      rw [List.getElem?_take_of_lt (by decide), List.getElem?_drop] at h2
      simpa using h2
    have hcell : W.cell? ⟨0, k, none⟩ = some (.string s) := by rw [World.var?_cell h1 h3 k, ← Array.getElem?_toList, hc]
    have es : s = ⟨(wordT k).toArray⟩ := by
      cases s with
      | mk d => simp only [hm]
    rw [← es, ← hcell]
    have hlt : 0 < W.heap.size := lt_of_cell (a := ⟨0, k, none⟩) hcell
    unfold World.cell?
    rw [b.block _ hlt]
end Go.Proofs.YtalkfnblnlcklaaDoor
