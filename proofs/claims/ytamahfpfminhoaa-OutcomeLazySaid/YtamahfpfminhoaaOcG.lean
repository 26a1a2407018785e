/- Package outcome: a Gate in memory; NewGate, Pass, Left; condition: the number fits an int. -/
import Derived.Test.YtamahfpfminhoaaOcA
namespace Go.Proofs.Ytamahfpfminhoaa
open Go.ChangeShapes Go.WideShapes Go.ChangeAt Go.RowKit
set_option linter.unusedVariables false

structure GaAt (w : World) (g : Nat) (n : Int) : Prop where
  c : w.cell? ⟨g, 0, none⟩ = some (.int .i64 n)
  f : w.frozen? ⟨g, 0, none⟩ = false
section
variable {w w' : World} {g : Nat} {n : Int} {T : Nat → Prop}
theorem GaAt.lt (h : GaAt w g n) : g < w.heap.size := lt_of_cell h.c
theorem GaAt.keep (h : GaAt w g n) (k : Keep T w w') (hn : ¬ T g) : GaAt w' g n := ⟨k.cell h.c hn, (k.frozen (a := ⟨g, 0, none⟩) h.lt hn).trans h.f⟩
theorem GaAt.set (h : GaAt w g n) (m : Int) : GaAt (w.setCell ⟨g, 0, none⟩ (.int .i64 m)) g m := ⟨World.cell?_setCell_same _ _ _ h.c, by rw [World.frozen?_setCell]; exact h.f⟩
theorem gate_new (w : World) (n m : Int) (hn : -9223372036854775808 ≤ n ∧ n ≤ 9223372036854775807) (hm : max n 0 = m) :
    Calls Try.prog 23 #[.int .i64 n] w fun e w' => ∃ g, e = .returned (.pointer (some ⟨g, 0, none⟩)) ∧ GaAt w' g m ∧ Keep (fun _ => False) w w' ∧ w.heap.size ≤ g := by
  have h0 : GaAt (w.alloc (.cells #[.int .i64 0] 97)) w.heap.size 0 := ⟨by simp, by simp⟩
  have k0 : Keep (fun _ => False) w (w.alloc (.cells #[.int .i64 0] 97)) := (Keep.refl _ _).alloc _
  obtain ⟨M, eM⟩ : ∃ M, w.alloc (.cells #[.int .i64 0] 97) = M := ⟨_, rfl⟩
  rw [eM] at h0 k0
  have ST := storeInt64 ⟨w.heap.size, 0, none⟩ _ m M h0.c h0.f rfl
  have h1 := h0.set m
  have k1 : Keep (fun _ => False) w (M.setCell ⟨w.heap.size, 0, none⟩ (.int .i64 m)) := k0.older (keep_one M ⟨w.heap.size, 0, none⟩ _) (fun j e => by have e : j = w.heap.size := e; omega)
  obtain ⟨M2, e2⟩ : ∃ M2, M.setCell ⟨w.heap.size, 0, none⟩ (.int .i64 m) = M2 := ⟨_, rfl⟩
  rw [e2] at ST h1 k1
  have H1 := Lib.hid h1
  have K1 := Lib.hid k1
  have x1 : (if n < 0 then 0 else n) = m := by rw [← hm]; split <;> omega
  have x2 : (if 0 < n then n else 0) = m := by rw [← hm]; split <;> omega
  have HM := Lib.hid hm
  clear hm h0 k0 h1 k1 e2
  go_enter Try.func23, Try.ntmps23
  go_wp2_with fail
  refine ST.mono ?_
  rintro e w1 ⟨rfl, rfl⟩
  clear ST eM
  go_wp2
  go_ret
  exact ⟨_, rfl, H1.out, K1.out, Nat.le_refl _⟩
theorem gate_left (h : GaAt w g n) : Calls Try.prog 24 #[.pointer (some ⟨g, 0, none⟩)] w fun e w' => e = .returned (.int .i64 n) ∧ w = w' := by
  have L := loadInt64 ⟨g, 0, none⟩ n w h.c rfl
  clear h
  go_enter Try.func24, Try.ntmps24
  go_wp2_with fail
  refine L.mono ?_
  rintro e w1 ⟨rfl, rfl⟩
  go_wp2
  go_ret
  exact ⟨rfl, rfl⟩
theorem gate_pass (h : GaAt w g n) (h0 : 0 ≤ n) (h1 : n ≤ 9223372036854775807) (b : Bool) (hb : decide (0 < n) = b) (m : Int) (hm : max (n - 1) 0 = m) :
    Calls Try.prog 25 #[.pointer (some ⟨g, 0, none⟩)] w fun e w' => e = .returned (.bool b) ∧ GaAt w' g m ∧ Keep (fun j => j = g) w w' := by
  have L := loadInt64 ⟨g, 0, none⟩ n w h.c rfl
  by_cases hz : n = 0
  · subst hz
    obtain rfl : false = b := by simpa using hb
    obtain rfl : 0 = m := by rw [← hm]; omega
    clear hb hm
    go_enter Try.func25, Try.ntmps25
    go_wp2
    go_loopw [3] (fun i wr => w = wr) (fun _ _ => 0)
    case atStart => exact rfl
    case round =>
      obtain rfl := hrel
      go_wp2_with fail
      refine L.mono ?_
      rintro e w1 ⟨rfl, rfl⟩
      go_wp2
      go_ret
      exact ⟨rfl, h, Keep.refl _ _⟩
  · obtain rfl : true = b := by rw [← hb]; exact (decide_eq_true (by omega)).symm
    obtain rfl : n - 1 = m := by rw [← hm]; omega
    have q : (n == 0) = false := by simpa using hz
    have wr1 : IntKind.i64.wrap (n - 1) = n - 1 := IntWalk.i64_in _ (by omega)
    have C := casInt64 ⟨g, 0, none⟩ n (n - 1) w h.c h.f rfl
    have h2 := h.set (n - 1)
    have k2 := keep_one w ⟨g, 0, none⟩ (.int .i64 (n - 1))
    obtain ⟨M2, e2⟩ : ∃ M2, w.setCell ⟨g, 0, none⟩ (.int .i64 (n - 1)) = M2 := ⟨_, rfl⟩
    rw [e2] at C h2 k2
    have H2 := Lib.hid h2
    have K2 := Lib.hid k2
    clear hb hm h2 k2 e2 h
    go_enter Try.func25, Try.ntmps25
    go_wp2
    go_loopw [3] (fun i wr => w = wr) (fun _ _ => 0)
    case atStart => exact rfl
    case round =>
      obtain rfl := hrel
      go_wp2_with fail
      refine L.mono ?_
      rintro e w1 ⟨rfl, rfl⟩
      go_wp2_with fail
      refine C.mono ?_
      rintro e w1 ⟨rfl, rfl⟩
      clear L C
      go_wp2
      go_ret
      exact ⟨rfl, H2.out, K2.out⟩
end
end Go.Proofs.Ytamahfpfminhoaa
