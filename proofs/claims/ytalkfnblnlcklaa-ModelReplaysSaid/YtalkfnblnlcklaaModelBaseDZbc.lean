/- vinculumref1's SamePairs, SameResult, where both are the same. Condition: at most 100000 Pairs. -/
import Derived.Test.YtalkfnblnlcklaaModelBaseDZad
import Derived.Deep.LoopGhost
import Derived.Deep.QuietTactic
import Derived.BigQuiet
namespace Go.Proofs.Ytalkfnblnlcklaa
open Go.ChangeShapes Go.WideShapes Go.ChangeAt Go.RowKit
set_option linter.unusedVariables false
section
variable {w w' : World}
theorem ownPr_lit (w : World) (l : List (Int × Int)) (c : Array Value) (hc : c = (l.flatMap prI).toArray) (hl : l.length ≤ maxLen) : OwnPr (w.alloc (.cells c 73)) (.slice (some ⟨w.heap.size, 0, none⟩) l.length l.length) l := by
 subst hc
 exact World.ownsRow_lit w (l.flatMap prI).toArray l.length (Nat.zero_le _) hl (by simp [flat_len prI_len])
theorem ownPr_shape {w : World} {u : Value} {l : List (Int × Int)} (h : OwnPr w u l) : ∃ A n c, u = .slice A n c := by
 rcases OwnM.form h with ⟨rfl, _⟩ | ⟨g, c, rfl, _⟩
 ·exact ⟨_, _, _, rfl⟩
 ·exact ⟨_, _, _, rfl⟩
theorem pr_neq (a b : Int) (w : World) : (binOp .neq 73 (.agg #[.int .i64 a, .int .i64 b]) (.agg #[.int .i64 a, .int .i64 b])).run Try.prog w = .ok (.bool false) w := by
 simp [go_sem]
set_option maxRecDepth 100000 in
theorem same_pr {v1 v2 : Value} {l : List (Int × Int)} (h1 : OwnPr w v1 l) (h2 : OwnPr w v2 l) (hl : l.length ≤ 100000) :
  Calls Try.prog 12 #[v1, v2] w fun e w' => e = .returned (.bool true) ∧ ∃ d, w' = w.drewN d := by
 rcases OwnM.form h1 with ⟨rfl, rfl⟩ | ⟨g1, c1, rfl, p1, q1, _⟩
 ·obtain ⟨A2, n2, c2, rfl⟩ := ownPr_shape h2
  obtain rfl : n2 = 0 := by
   rcases OwnM.form h2 with ⟨e, _⟩ | ⟨g, c, e, _⟩
   ·cases e; rfl
   ·cases e; rfl
  clear h1 h2
  go_enter Try.func12, Try.ntmps12
  go_wp2
  go_loopw [5] (fun i wr => i = .int .i64 0 ∧ w = wr) (fun i _ => 0)
  case atStart => exact ⟨rfl, rfl⟩
  case round =>
   obtain ⟨rfl, rfl⟩ := hrel
   go_wp2
   go_ret
   exact ⟨rfl, 0, rfl⟩
 ·rcases OwnM.form h2 with ⟨rfl, rfl⟩ | ⟨g2, c2, rfl, p2, q2, _⟩
  ·clear h1 h2
   go_enter Try.func12, Try.ntmps12
   go_wp2
   go_loopw [5] (fun i wr => i = .int .i64 0 ∧ w = wr) (fun i _ => 0)
   case atStart => exact ⟨rfl, rfl⟩
   case round =>
    obtain ⟨rfl, rfl⟩ := hrel
    go_wp2
    go_ret
    exact ⟨rfl, 0, rfl⟩
  ·obtain ⟨n, en⟩ : ∃ n, l.length = n := ⟨_, rfl⟩
   have f1 : ∀ k p, l[k]? = some p → w.cell? ⟨g1, k * 2, none⟩ = some (.int .i64 p.1) ∧ w.cell? ⟨g1, k * 2 + 1, none⟩ = some (.int .i64 p.2) := fun k p hp => by
    obtain ⟨lk, rfl⟩ := List.getElem?_eq_some_iff.1 hp
    exact ⟨OwnM.cell prI_len h1 k 0 lk (by decide), OwnM.cell prI_len h1 k 1 lk (by decide)⟩
   have f2 : ∀ k p, l[k]? = some p → w.cell? ⟨g2, k * 2, none⟩ = some (.int .i64 p.1) ∧ w.cell? ⟨g2, k * 2 + 1, none⟩ = some (.int .i64 p.2) := fun k p hp => by
    obtain ⟨lk, rfl⟩ := List.getElem?_eq_some_iff.1 hp
    exact ⟨OwnM.cell prI_len h2 k 0 lk (by decide), OwnM.cell prI_len h2 k 1 lk (by decide)⟩
   have F1 := Lib.hid f1
   have F2 := Lib.hid f2
   have EN := Lib.hid en
   have PN := pr_neq
   rw [en] at hl q1 q2 ⊢
   clear h1 h2 f1 f2 en
   go_enter Try.func12, Try.ntmps12
   go_wp2
   go_loopw [5] (fun i wr => ∃ k d : Nat, k ≤ n ∧ i = .int .i64 k ∧ wr = w.drewN d) (fun i _ => n - (intOf i).toNat)
   case atStart => exact ⟨0, 0, Nat.zero_le _, rfl, rfl⟩
   case round =>
    obtain ⟨k, d, hk, rfl, rfl⟩ := hrel
    by_cases hlt : k < n
    ·obtain ⟨p, hp⟩ : ∃ p, l[k]? = some p := ⟨_, List.getElem?_eq_getElem (by rw [EN.out]; exact hlt)⟩
     obtain ⟨c0, c1'⟩ := F1.out k p hp
     obtain ⟨g0, g1'⟩ := F2.out k p hp
     obtain ⟨pk, pv⟩ := p
     have wk : IntKind.i64.wrap ((k : Int) + 1) = (k : Int) + 1 := IntWalk.i64_in _ (by omega)
     clear hp
     go_wp2_with fail
     go_quiet (fail)
     go_wp2
     go_roundw
     case rel => exact ⟨k + 1, _, by omega, by go_num, rfl⟩
     case measure => simp [intOf]; omega
    ·obtain rfl : k = n := by omega
     go_wp2
     go_ret
     exact ⟨rfl, d, rfl⟩
end
end Go.Proofs.Ytalkfnblnlcklaa
