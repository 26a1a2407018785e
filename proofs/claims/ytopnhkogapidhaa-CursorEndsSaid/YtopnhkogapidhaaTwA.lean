/- Contracts of package arena's Load and Store that say nothing of the count (it may wrap); condition: the place is a word. -/
import Derived.Test.YtopnhkogapidhaaMeth
namespace Go.Proofs.Ytopnhkogapidhaa
open Go.ChangeShapes Go.WideShapes Go.ChangeAt Go.RowKit
set_option linter.unusedVariables false

/-- An Arena at p, its words zs at q, however often they were looked at. -/
def ArX (w : World) (p q : Nat) (zs : List Int) : Prop := ∃ c, Ar w p q zs c
theorem ArX.keep {S : Nat → Prop} {w w' : World} {p q : Nat} {zs : List Int} (h : ArX w p q zs) (k : Keep S w w') (hp : ¬ S p) (hq : ¬ S q) : ArX w' p q zs := by
  obtain ⟨c, h⟩ := h
  exact ⟨c, h.keep k hp hq⟩
theorem caddX_any (a : Addr) (x : Int) (w : World) (hc : w.cell? a = some (.int .i64 x)) (hz : w.frozen? a = false) (hn : a.spot = none) (y : Int) (hy : IntKind.i64.wrap (x + 1) = y) :
    Calls Try.prog 42 #[.pointer (some a), .int .i64 1] w fun e w' => e = .returned (.int .i64 y) ∧ w' = w.setCell a (.int .i64 y) := by
  have hs : (Op.intArith .add .i64 x 1).run Try.prog w = .ok (.int .i64 y) w := by
    rw [← hy]
    simp [go_sem]
  have hl := run_call_add (P := Try.prog) Try.func49 (by kernel_rfl) (by kernel_rfl) (by kernel_rfl) .i64 (by kernel_rfl) hc hz hs
  clear hs hy
  obtain ⟨b, o, s⟩ := a
  obtain rfl : s = none := hn
  go_enter Try.func42, Try.ntmps42
  go_wp2
  go_ret
  exact ⟨rfl, rfl⟩
theorem accessX_in (p q : Nat) (zs : List Int) (c : Int) (i : Nat) (w : World) (h : Ar w p q zs c) (hi : i < zs.length) (y : Int) (hy : IntKind.i64.wrap (c + 1) = y) :
    Calls Try.prog 35 #[.pointer (some ⟨p, 0, none⟩), .int .i64 i] w fun e w' => e = .returned (.pointer (some ⟨q, i, none⟩)) ∧ w' = w.setCell ⟨p, 1, none⟩ (.int .i64 y) := by
  have hs := h.sl
  have hl := h.len
  have hc1 := h.cn
  have hf := h.fc 1
  have hs' := (h.count y).sl
  have hA := caddX_any _ c w hc1 hf rfl y hy
  clear hy
  go_enter Try.func35, Try.ntmps35
  go_wp2_with (go_at_call 42; refine hA.mono ?_; rintro e w' ⟨rfl, rfl⟩)
  go_ret
  exact ⟨rfl, rfl⟩
theorem load_x {p q : Nat} {zs : List Int} (i : Nat) {w : World} (y : Int) (h : ArX w p q zs) (hi : i < zs.length) (hy : zs.getD i 0 = y) :
    Calls Try.prog 31 #[.pointer (some ⟨p, 0, none⟩), .int .i64 i] w fun e w' => e = .returned (.int .u64 y) ∧ ArX w' p q zs ∧ Keep (Two p q) w w' := by
  obtain ⟨c, h⟩ := h
  obtain ⟨c2, ec⟩ : ∃ c2, IntKind.i64.wrap (c + 1) = c2 := ⟨_, rfl⟩
  have hA := accessX_in p q zs c i w h hi c2 ec
  have ha := h.count c2
  have hc := ha.ws.cell i hi
  rw [hy] at hc
  clear ec hy
  go_enter Try.func31, Try.ntmps31
  go_wp2_with fail
  refine hA.mono ?_
  rintro e w1 ⟨rfl, rfl⟩
  go_wp2_with (go_at_call 37; refine (aload_any _ _ _ hc rfl).mono ?_; rintro e w' ⟨rfl, rfl⟩)
  go_ret
  exact ⟨rfl, ⟨c2, ha⟩, (Keep.refl _ _).setCell (Or.inl rfl) _⟩
theorem store_x {p q : Nat} {zs : List Int} (i : Nat) {w : World} (x : Int) (zs2 : List Int) (h : ArX w p q zs) (hi : i < zs.length) (x0 : 0 ≤ x) (x1 : x ≤ 18446744073709551615) (hz2 : zs.set i x = zs2) :
    Calls Try.prog 29 #[.pointer (some ⟨p, 0, none⟩), .int .i64 i, .int .u64 x] w fun e w' => e = .returned (.tuple #[]) ∧ ArX w' p q zs2 ∧ Keep (Two p q) w w' := by
  subst hz2
  obtain ⟨c, h⟩ := h
  obtain ⟨c2, ec⟩ : ∃ c2, IntKind.i64.wrap (c + 1) = c2 := ⟨_, rfl⟩
  have hA := accessX_in p q zs c i w h hi c2 ec
  have ha := h.count c2
  have hc := ha.ws.cell i hi
  have hz := ha.ws.free i
  clear ec
  go_enter Try.func29, Try.ntmps29
  go_wp2_with fail
  refine hA.mono ?_
  rintro e w1 ⟨rfl, rfl⟩
  go_wp2_with (go_at_call 36; refine (astore_any _ _ _ _ hc hz rfl).mono ?_; rintro e w' ⟨rfl, rfl⟩)
  go_end0
  exact ⟨rfl, ⟨c2, ha.set i hi x0 x1⟩, ((Keep.refl _ _).setCell (Or.inl rfl) _).setCell (Or.inr rfl) _⟩
end Go.Proofs.Ytopnhkogapidhaa
