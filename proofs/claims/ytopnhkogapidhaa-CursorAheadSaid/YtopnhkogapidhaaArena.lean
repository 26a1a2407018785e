/- Contracts of package arena, but for Words and Copy: what New, access, Load, Store, CAS, Add, Count and Len return and what becomes of the Arena; conditions: the Arena is one that New made, each number fits its kind. -/
import Derived.Test.YtopnhkogapidhaaKeep
import Derived.WalkKit
import Derived.ProofKit
import Derived.OpenShut
import Derived.WalkLawsBesides
import Derived.Below
import Derived.Laws.LoneSync
import Derived.Lib.Hide
namespace Go.Proofs.Ytopnhkogapidhaa
open Go.ChangeShapes Go.WideShapes Go.ChangeAt Go.RowKit
set_option linter.unusedVariables false

/-- An Arena at block p: its words zs in block q, its count c. -/
structure Ar (w : World) (p q : Nat) (zs : List Int) (c : Int) : Prop where
  sl : w.cell? ⟨p, 0, none⟩ = some (.slice (some ⟨q, 0, none⟩) zs.length zs.length)
  cn : w.cell? ⟨p, 1, none⟩ = some (.int .i64 c)
  fc : ∀ i, w.frozen? ⟨p, i, none⟩ = false
  ws : RowU w q zs
  ne : p ≠ q
  len : zs.length ≤ 100000
  all : AllU zs
def Two (p q : Nat) (k : Nat) : Prop := k = p ∨ k = q
theorem two_ge {B p q : Nat} (hp : B ≤ p) (hq : B ≤ q) : ∀ k, Two p q k → B ≤ k := fun k h => by rcases h with h | h <;> omega

theorem Ar.keep {S : Nat → Prop} {w w' : World} {p q : Nat} {zs : List Int} {c : Int} (h : Ar w p q zs c) (k : Keep S w w') (hp : ¬ S p) (hq : ¬ S q) : Ar w' p q zs c :=
  ⟨k.cell h.sl hp, k.cell h.cn hp, fun i => (k.frozen (a := ⟨p, i, none⟩) (lt_of_cell (a := ⟨p, 0, none⟩) h.sl) hp).trans (h.fc i), h.ws.keep k hq, h.ne, h.len, h.all⟩
theorem Ar.lt {w : World} {p q : Nat} {zs : List Int} {c : Int} (h : Ar w p q zs c) : p < w.heap.size := lt_of_cell h.sl
theorem Ar.count {w : World} {p q : Nat} {zs : List Int} {c : Int} (h : Ar w p q zs c) (d : Int) : Ar (w.setCell ⟨p, 1, none⟩ (.int .i64 d)) p q zs d := by
  have hq : (⟨q, 0, none⟩ : Addr).block ≠ p := fun e => h.ne e.symm
  refine ⟨?_, World.cell?_setCell_same _ _ _ h.cn, fun i => ?_, ⟨fun i hi => ?_, fun i => ?_, by simpa [World.setCell] using h.ws.lt⟩, h.ne, h.len, h.all⟩
  · rw [World.cell?_setCell_other _ _ _ _ (by simp)]; exact h.sl
  · simpa using h.fc i
  · rw [World.cell?_setCell_other _ _ _ _ (by simp; intro e; exact absurd e h.ne)]; exact h.ws.cell i hi
  · simpa using h.ws.free i
theorem Ar.set {w : World} {p q : Nat} {zs : List Int} {c : Int} (h : Ar w p q zs c) (i : Nat) (hi : i < zs.length) {x : Int} (h0 : 0 ≤ x) (h1 : x ≤ 18446744073709551615) : Ar (w.setCell ⟨q, i, none⟩ (.int .u64 x)) p q (zs.set i x) c := by
  refine ⟨?_, ?_, fun i => by simpa using h.fc i, h.ws.set i hi x, h.ne, by simpa using h.len, h.all.set i h0 h1⟩
  · rw [World.cell?_setCell_other _ _ _ _ (by simp; intro e; exact absurd e.symm h.ne), List.length_set]; exact h.sl
  · rw [World.cell?_setCell_other _ _ _ _ (by simp; intro e; exact absurd e.symm h.ne)]; exact h.cn

theorem aload_any (a : Addr) (x : Int) (w : World) (hc : w.cell? a = some (.int .u64 x)) (hn : a.spot = none) :
    Calls Try.prog 37 #[.pointer (some a)] w fun e w' => e = .returned (.int .u64 x) ∧ w = w' := by
  have hl := run_call_load (P := Try.prog) Try.func44 (by kernel_rfl) (by kernel_rfl) (by kernel_rfl) .u64 (by kernel_rfl) hc
  obtain ⟨b, o, s⟩ := a
  obtain rfl : s = none := hn
  go_enter Try.func37, Try.ntmps37
  go_wp2
  go_ret
  exact ⟨rfl, rfl⟩
theorem astore_any (a : Addr) (u : Value) (x : Int) (w : World) (hc : w.cell? a = some u) (hz : w.frozen? a = false) (hn : a.spot = none) :
    Calls Try.prog 36 #[.pointer (some a), .int .u64 x] w fun e w' => e = .returned (.tuple #[]) ∧ w' = w.setCell a (.int .u64 x) := by
  have hl := run_call_store (P := Try.prog) Try.func43 (by kernel_rfl) (by kernel_rfl) (by kernel_rfl) (by kernel_rfl) (k := .u64) (y := x) hc hz
  obtain ⟨b, o, s⟩ := a
  obtain rfl : s = none := hn
  go_enter Try.func36, Try.ntmps36
  go_wp2
  go_end0
  exact ⟨rfl, rfl⟩
/-- The sum of 64 bits. -/
def addU (x y : Int) : Int := (x + y) % 18446744073709551616
theorem addU_b (x y : Int) : 0 ≤ addU x y ∧ addU x y ≤ 18446744073709551615 := by unfold addU; omega
theorem wrapU (x y : Int) : IntKind.u64.wrap (x + y) = addU x y := by rw [IntKind.wrap_u64]; rfl
theorem cadd_any (a : Addr) (x : Int) (w : World) (hc : w.cell? a = some (.int .i64 x)) (hz : w.frozen? a = false) (hn : a.spot = none) (h0 : 0 ≤ x) (h1 : x < 9223372036854775807) :
    Calls Try.prog 42 #[.pointer (some a), .int .i64 1] w fun e w' => e = .returned (.int .i64 (x + 1)) ∧ w' = w.setCell a (.int .i64 (x + 1)) := by
  have hs : (Op.intArith .add .i64 x 1).run Try.prog w = .ok (.int .i64 (x + 1)) w := by
    simp [go_sem, IntKind.wrap_i64]
    omega
  have hl := run_call_add (P := Try.prog) Try.func49 (by kernel_rfl) (by kernel_rfl) (by kernel_rfl) .i64 (by kernel_rfl) hc hz hs
  clear hs
  obtain ⟨b, o, s⟩ := a
  obtain rfl : s = none := hn
  go_enter Try.func42, Try.ntmps42
  go_wp2
  go_ret
  exact ⟨rfl, rfl⟩
theorem access_in (p q : Nat) (zs : List Int) (c : Int) (i : Nat) (w : World) (h : Ar w p q zs c) (hi : i < zs.length) (h0 : 0 ≤ c) (h1 : c < 9223372036854775807) :
    Calls Try.prog 35 #[.pointer (some ⟨p, 0, none⟩), .int .i64 i] w fun e w' => e = .returned (.pointer (some ⟨q, i, none⟩)) ∧ w' = w.setCell ⟨p, 1, none⟩ (.int .i64 (c + 1)) := by
  have hs := h.sl
  have hl := h.len
  have hc1 := h.cn
  have hf := h.fc 1
  have hs' := (h.count (c + 1)).sl
  go_enter Try.func35, Try.ntmps35
  go_wp2_with (go_at_call 42; refine (cadd_any _ c _ hc1 hf rfl h0 h1).mono ?_; rintro e w' ⟨rfl, rfl⟩)
  go_ret
  exact ⟨rfl, rfl⟩
theorem access_no (p q : Nat) (zs : List Int) (c : Int) (i : Int) (w : World) (h : Ar w p q zs c) (hi : i < 0 ∨ zs.length ≤ i) :
    Calls Try.prog 35 #[.pointer (some ⟨p, 0, none⟩), .int .i64 i] w fun e w' => e = .returned (.pointer none) ∧ w = w' := by
  have hs := h.sl
  have hl := h.len
  rcases hi with hi | hi
  · go_enter Try.func35, Try.ntmps35
    go_wp2
    go_ret
    exact ⟨rfl, rfl⟩
  · have hn : ¬ i < 0 := by omega
    go_enter Try.func35, Try.ntmps35
    go_wp2
    go_ret
    exact ⟨rfl, rfl⟩
