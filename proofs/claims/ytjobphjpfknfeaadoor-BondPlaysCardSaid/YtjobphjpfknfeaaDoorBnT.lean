/- The table of math/bits: the program's own text lays it, and what that gives the walks; awake of vinculumlaw16. -/
import Derived.Test.YtjobphjpfknfeaaDoorBnL
import Derived.Test.YtjobphjpfknfeaaDoorBdC
import Derived.Test.YtjobphjpfknfeaaDoorSameN
import Derived.Test.YtjobphjpfknfeaaDoorTie
import Derived.Test.YtjobphjpfknfeaaDoorCards
import Derived.LaidMore
import Derived.OpenShut
import Derived.Stop.Joined
namespace Go.Proofs.YtjobphjpfknfeaaDoor
open Go.ChangeShapes Go.WideShapes Go.ChangeAt Go.RowKit
set_option linter.unusedVariables false
open Classical

def lay1 : List (String × DataW Unit) := [("math/bits.deBruijn64tab", Rows.laid_math_bits_deBruijn64tab)]
theorem gTab : Tryd.prog.globalNamed "math/bits.deBruijn64tab" = some 0 := by kernel_rfl
theorem tTab : (Tryd.prog.globals[0]?).map (·.type) = some 105 := by kernel_rfl
theorem door_met (os : Os) (args : Array Value) : laidMetH Tryd.prog lay1 ((World.doorLaid Tryd.prog 14 os).forCall (fun _ _ => 0) ⟨#[], args, []⟩).memory :=
  laidMetH_of_parts3 (fuel := 8) (laidMet_of_run' 8 (by kernel_rfl) (by kernel_rfl)) (by kernel_rfl) (by kernel_rfl)
theorem laid_row : (Rows.laid_math_bits_deBruijn64tab : DataW Unit) = .agg (Lib.deBruijn64tab.map fun k : Nat => .lit (.int .u8 (k : Int))) := rfl
theorem of_laid {W : World} (h : laidMetH Tryd.prog lay1 W) : TabW W := by
  rw [MakeChecks.laidMetH_plain _ _ _ (by kernel_rfl)] at h
  obtain ⟨ps, ⟨g0, t0, cs0, f0, p0, q0, hg0, ht0, hv0, hd0, _, _⟩, _, _⟩ := h
  obtain rfl := Option.some.inj (gTab.symm.trans hg0)
  obtain rfl := Option.some.inj (tTab.symm.trans ht0)
  obtain ⟨xs, m1, rfl, hx1, hlen, hn3, hel⟩ := DataW.trod_array Tryd.underlying105 hd0
  have c5 : Tryd.prog.cellsOf 5 = 1 := by kernel_rfl
  rw [laid_row] at hx1
  simp only [Prod.mk.injEq, DataW.agg.injEq] at hx1
  intro j hj
  have hj64 : j < 64 := hj
  have h0 := hel j hj64
  have hxj : xs[j]? = some xs[j] := List.getElem?_eq_getElem (by omega)
  rw [hxj, c5, Nat.mul_one] at h0
  obtain ⟨k, e1, e2, _⟩ := DataW.trod_int Tryd.underlying5 h0
  have hm := congrArg (fun l => l[j]?) hx1.1
  simp only [List.getElem?_map, hxj, Option.map_some, List.getElem?_eq_getElem hj] at hm
  rw [e2] at hm
  simp only [Option.some.injEq, DataW.lit.injEq, Lit.int.injEq, true_and] at hm
  have hc : cs0.toList[j]? = some (.int .u8 k) := by
    have : (cs0.toList.drop j).take 1 = [.int .u8 k] := e1
    have h2 : ((cs0.toList.drop j).take 1)[0]? = some (.int .u8 k) := by rw [this]; rfl
    rw [List.getElem?_take_of_lt (by decide), List.getElem?_drop] at h2
    simpa using h2
  rw [World.var?_cell hg0 hv0 j, List.getD_eq_getElem?_getD, List.getElem?_eq_getElem hj, ← Array.getElem?_toList, hc, ← hm]
  rfl
theorem litN (w : World) (x : Int) : OwnN w.heap.size (w.alloc (.cells #[.int .i64 x] 3)) (.slice (some ⟨w.heap.size, 0, .none⟩) 1 1) [x] := by
  refine ⟨rfl, .inr ⟨w.heap.size, 1, #[.int .i64 x], rfl, Nat.le_refl _, heap_alloc_new w _, Nat.le_refl _, by decide, rfl, rfl⟩⟩
theorem new_up : BdS.new = upTo 0 (chF 0) (chE 0) := rfl
theorem ch_wait2 : (upTo 2 (chF 0) (chE 2)).good 2 = (([], 18), upTo 2 (chF 0) (chE 2)) := by
  unfold BdS.good
  rw [if_neg (by rw [upTo_has]; omega), if_neg (by rw [st_in (by omega) (by omega)]; unfold chF; simp), if_pos (by rw [ch_waits (by omega) (by omega) (by omega)]; simp)]
set_option maxRecDepth 100000 in
theorem awake16_any {w : World} (hT : TabW w) : Calls Tryd.prog 16 #[] w fun e w' => e = .returned (.bool true) ∧ Below w.heap.size w w' := by
  go_enter Tryd.func16, Tryd.ntmps16
  go_wp2_with fail
  refine (bd_new hT (Below.refl _ w)).mono ?_
  rintro e w1 ⟨p, S1, rfl, D1, k1, _⟩
  rw [new_up] at D1
  clear k1
  go_wp2_with fail
  refine (bd_open D1 (id := 1) (by unfold I64; omega) (ch_open (n := 0) (by omega))).mono ?_
  rintro e w2 ⟨rfl, S2, D2, _⟩
  clear D1
  go_wp2_with fail
  refine (bd_open D2 (id := 2) (by unfold I64; omega) (ch_open (n := 1) (by omega))).mono ?_
  rintro e w3 ⟨rfl, S3, D3, _⟩
  clear D2
  go_wp2_with fail
  refine (bd_bind D3 (id := 2) (tt := 1) (by unfold I64; omega) (by unfold I64; omega) (ch_bind (n := 1) (by omega))).mono ?_
  rintro e w4 ⟨rfl, S4, D4, _⟩
  clear D3
  go_wp2_with fail
  refine (bd_good D4 (id := 2) (by unfold I64; omega) ch_wait2).mono ?_
  rintro e w5 ⟨u5, rfl, o5, S5, D5, _⟩
  clear D4 o5
  go_wp2_with fail
  refine (bd_good D5 (id := 1) (by unfold I64; omega) (ch_good (g := 0) (n := 2) (by omega) (by omega))).mono ?_
  rintro e w6 ⟨u6, rfl, o6, S6, D6, _⟩
  clear D5
  have o6 : OwnN w5.heap.size w6 u6 [2] := o6
  have st1 : (upTo 2 (chF (0 + 1)) (chE 2)).st 1 = 3 := by rw [st_in (by omega) (by omega)]; unfold chF; rw [if_pos (by omega)]
  have ka : Keep (fun _ => False) w6 (w6.alloc (.cells #[.int .i64 2] 3)) := (Keep.refl _ _).alloc _
  have oa := OwnN.keep o6 ka (fun _ _ q => q)
  have sm := sameN_own oa (litN w6 2) (by decide)
  have D7 := D6.later ka
  clear D6 o6 oa ka
  go_wp2_with fail
  refine sm.mono ?_
  rintro e w7 ⟨rfl, d, rfl⟩
  have D8 := D7.later (drewN_keep _ _ d)
  have bl := D8.below
  have sx := bd_state D8 (id := 1) (by unfold I64; omega)
  rw [st1] at sx
  obtain ⟨w9, e9⟩ : ∃ w9, (w6.alloc (.cells #[.int .i64 2] 3)).drewN d = w9 := ⟨_, rfl⟩
  rw [e9] at bl sx ⊢
  clear D7 D8 sm e9
  go_wp2_with fail
  refine sx.mono ?_
  rintro e wz ⟨rfl, rfl⟩
  have BL := Lib.hid bl
  clear sx bl
  go_wp2
  go_ret
  exact ⟨rfl, BL.out⟩
end Go.Proofs.YtjobphjpfknfeaaDoor
