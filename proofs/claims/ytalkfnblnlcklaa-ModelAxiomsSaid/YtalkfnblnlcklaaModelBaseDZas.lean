/- Several texts, one behind the other: LdS, LdT. -/
import Derived.Test.YtalkfnblnlcklaaModelBaseDZap
import Derived.Test.YtalkfnblnlcklaaModelBaseDZad
import Derived.Test.YtalkfnblnlcklaaModelBaseDZaa
import Derived.Deep.RegionHeld3
import Derived.Deep.QuietTactic
import Derived.BigQuiet
import Derived.BigRegion
/- Package model as landed, in memory: publish, abort. Condition: the fate is an active one's. -/
namespace Go.Proofs.Ytalkfnblnlcklaa
open Go.ChangeShapes Go.WideShapes Go.ChangeAt Go.RowKit
set_option linter.unusedVariables false
set_option linter.unusedSimpArgs false
section
variable {w w' : World} {m g : Nat} {K : Nat → Value} {o : Nat → Nat} {z : LdI} {T : Nat → Prop} {F : Nat → FtI} {P : VeI → Bool} {t : TtI} {x : FtI}
theorem Keep.trans' {S : Nat → Prop} {a b c : World} (h : Keep (fun _ => False) a b) (k : Keep S b c) : Keep S a c := (h.mono fun _ e => e.elim).trans k
/-- .. a store into a block that was new then. -/
theorem Keep.older' {S : Nat → Prop} {a b c : World} {N : Nat} (h : Keep S a b) (k : Keep (fun j => j = N) b c) (hN : a.heap.size ≤ N) : Keep S a c :=
 ⟨k.os.trans h.os, k.tape.trans h.tape, k.output.trans h.output, Nat.le_trans h.size k.size, fun i hi n => (k.block i (Nat.lt_of_lt_of_le hi h.size) (fun e => by omega)).trans (h.block i hi n)⟩
/-- What the closure of publish leaves. -/
def Pub (g : Nat) (a r : Int) (w w' : World) : Prop :=
 w'.cell? ⟨g, 3, none⟩ = some (.int .i64 a) ∧ w'.cell? ⟨g, 4, none⟩ = some (.int .u64 r) ∧ Keep (fun j => j = g) w w' ∧ (∀ i, w'.frozen? ⟨g, i, none⟩ = false) ∧ ∀ i u, i ≤ 2 → w.cell? ⟨g, i, none⟩ = some u → w'.cell? ⟨g, i, none⟩ = some u
set_option maxRecDepth 100000 in
theorem publish1_any (bs br bo : Nat) (a r : Int) (h0 : w.cell? ⟨bs, 0, none⟩ = some (.int .i64 a)) (h1 : w.cell? ⟨br, 0, none⟩ = some (.int .u64 r)) (h2 : w.cell? ⟨bo, 0, none⟩ = some (.pointer (some ⟨g, 0, none⟩))) {u3 u4 : Value} (h3 : w.cell? ⟨g, 3, none⟩ = some u3) (h4 : w.cell? ⟨g, 4, none⟩ = some u4) (hf : ∀ i, w.frozen? ⟨g, i, none⟩ = false) :
  Calls Try.prog 65 #[.pointer (some ⟨bs, 0, none⟩), .pointer (some ⟨br, 0, none⟩), .pointer (some ⟨bo, 0, none⟩)] w fun e w' => e = .returned (.tuple #[]) ∧ Pub g a r w w' := by
 have f3 := hf 3
 have f4 := hf 4
 have HF := Lib.hid hf
 clear hf
 go_enter Try.func65, Try.ntmps65
 go_wp2_with fail
 go_region
 obtain ⟨M2, e2⟩ : ∃ M2, ((w.setCell ⟨g, 3, none⟩ (.int .i64 a)).setCell ⟨g, 4, none⟩ (.int .u64 r)).drew = M2 := ⟨_, rfl⟩
 have W : Pub g a r w M2 := by
  have dr : ∀ (x : World) (c : Addr), x.drew.cell? c = x.cell? c := fun _ _ => rfl
  rw [← e2]
  refine ⟨?_, ?_, (((Keep.refl (fun j => j = g) w).setCell (p := ⟨g, 3, none⟩) rfl _).setCell (p := ⟨g, 4, none⟩) rfl _).drew, fun i => ?_, fun i u hi hu => ?_⟩
  ·rw [dr, World.cell?_setCell_other _ _ _ _ (by first | (simp; done) | (simp; omega))]; exact World.cell?_setCell_same _ _ _ h3
  ·rw [dr]; exact World.cell?_setCell_same _ _ _ (u := u4) (by rw [World.cell?_setCell_other _ _ _ _ (by first | (simp; done) | (simp; omega))]; exact h4)
  ·show ((w.setCell ⟨g, 3, none⟩ (.int .i64 a)).setCell ⟨g, 4, none⟩ (.int .u64 r)).frozen? _ = false
   rw [World.frozen?_setCell, World.frozen?_setCell]; exact HF.out i
  ·rw [dr, World.cell?_setCell_other _ _ _ _ (by first | (simp; done) | (simp; omega)), World.cell?_setCell_other _ _ _ _ (by first | (simp; done) | (simp; omega))]; exact hu
 rw [e2]
 have HW := Lib.hid W
 clear W e2
 go_wp2
 go_end0
 exact ⟨rfl, HW.out⟩
/-- The three parameters of publish, in blocks of their own. -/
theorem boxesP (w : World) (g : Nat) (a r : Int) : ∃ M, (((w.alloc (.cells #[.pointer (some ⟨g, 0, none⟩)] 88)).alloc (.cells #[.int .i64 a] 3)).alloc (.cells #[.int .u64 r] 27)) = M ∧
  M.cell? ⟨w.heap.size, 0, none⟩ = some (.pointer (some ⟨g, 0, none⟩)) ∧ M.cell? ⟨w.heap.size + 1, 0, none⟩ = some (.int .i64 a) ∧ M.cell? ⟨w.heap.size + 1 + 1, 0, none⟩ = some (.int .u64 r) ∧ Keep (fun _ => False) w M := by
 obtain ⟨w1, e1⟩ : ∃ w1, w.alloc (.cells #[.pointer (some ⟨g, 0, none⟩)] 88) = w1 := ⟨_, rfl⟩
 have s1 : w1.heap.size = w.heap.size + 1 := by rw [← e1]; simp
 have a0 : w1.cell? ⟨w.heap.size, 0, none⟩ = some (.pointer (some ⟨g, 0, none⟩)) := by rw [← e1]; simp
 have k1 : Keep (fun _ => False) w w1 := by rw [← e1]; exact (Keep.refl _ _).alloc _
 rw [e1]
 obtain ⟨w2, e2⟩ : ∃ w2, w1.alloc (.cells #[.int .i64 a] 3) = w2 := ⟨_, rfl⟩
 have s2 : w2.heap.size = w.heap.size + 1 + 1 := by rw [← e2, World.size_alloc, s1]
 have a1 : w2.cell? ⟨w.heap.size + 1, 0, none⟩ = some (.int .i64 a) := by rw [← e2, ← s1]; simp
 have k2 : Keep (fun _ => False) w1 w2 := by rw [← e2]; exact (Keep.refl _ _).alloc _
 rw [e2]
 obtain ⟨w3, e3⟩ : ∃ w3, w2.alloc (.cells #[.int .u64 r] 27) = w3 := ⟨_, rfl⟩
 have a2 : w3.cell? ⟨w.heap.size + 1 + 1, 0, none⟩ = some (.int .u64 r) := by rw [← e3, ← s2]; simp
 have k3 : Keep (fun _ => False) w2 w3 := by rw [← e3]; exact (Keep.refl _ _).alloc _
 exact ⟨_, e3, k3.cell (k2.cell a0 id) id, k3.cell a1 id, a2, (k1.trans k2).trans k3⟩
set_option maxRecDepth 100000 in
theorem publish_any (h : FtAt w g x) (hx : x.st = 1) (a r : Int) (ha : a ≠ 1) : Calls Try.prog 59 #[.pointer (some ⟨g, 0, none⟩), .int .i64 a, .int .u64 r] w fun e w' => e = .returned (.tuple #[]) ∧ FtAt w' g ⟨a, r⟩ ∧ Keep (fun j => j = g) w w' := by
 obtain ⟨M, eM, m0, m1, m2, kM⟩ := boxesP w g a r
 have hM := h.keep kM id
 have hlt := h.lt
 obtain ⟨o0, o1⟩ := hM.on hx
 obtain ⟨M3, e3⟩ : ∃ M3, M.setCell ⟨g, 0 + 1, none⟩ (.int .i32 1) = M3 := ⟨_, rfl⟩
 have k3 : Keep (fun j => j = g) M M3 := by rw [← e3]; exact keep_one M ⟨g, 0 + 1, none⟩ _
 have at3 : ∀ (i : Nat) (u : Value), i ≠ 1 → M.cell? ⟨g, i, none⟩ = some u → M3.cell? ⟨g, i, none⟩ = some u := fun i u hi hu => by rw [← e3, World.cell?_setCell_other _ _ _ _ (fun e => hi (congrArg Addr.off e).symm)]; exact hu
 have fz3 : ∀ i, M3.frozen? ⟨g, i, none⟩ = false := fun i => by rw [← e3, World.frozen?_setCell]; exact hM.fz i
 have T := publish1_any (w := M3) (g := g) (w.heap.size + 1) (w.heap.size + 1 + 1) w.heap.size a r (k3.cell m1 (show ¬ w.heap.size + 1 = g by omega)) (k3.cell m2 (show ¬ w.heap.size + 1 + 1 = g by omega)) (k3.cell m0 (show ¬ w.heap.size = g by omega)) (at3 3 _ (by decide) hM.c3) (at3 4 _ (by decide) hM.c4) fz3
 have on : Calls Try.prog 64 #[.pointer (some ⟨g, 0, none⟩), .func (.func 65) #[] #[.pointer (some ⟨w.heap.size + 1, 0, none⟩), .pointer (some ⟨w.heap.size + 1 + 1, 0, none⟩), .pointer (some ⟨w.heap.size, 0, none⟩)]] M (OnceDid (Pub g a r M3) g 0) := by
  refine once_firstM g 0 _ (Pub g a r M3) M o0 o1 (hM.fz 1) ?_
  rw [e3]
  refine T.mono ?_
  rintro e w' ⟨rfl, W⟩
  exact ⟨rfl, W, W.2.2.2.2 0 _ (by decide) (at3 0 _ (by decide) o0), W.2.2.2.2 1 _ (by decide) (by rw [← e3]; exact World.cell?_setCell_same _ _ _ o1), W.2.2.2.1 0, W.2.2.2.1 1⟩
 have fin : ∀ w2, Pub g a r M3 w2 → ∃ F, (w2.drew.setCell ⟨g, 0, none⟩ (.int .u32 1)).setCell ⟨g, 0 + 1, none⟩ (.int .i32 0) = F ∧ FtAt F g ⟨a, r⟩ ∧ Keep (fun j => j = g) w F := by
  rintro w2 ⟨W3, W4, Wk, Wf, Wo⟩
  have dr : ∀ (x : World) (c : Addr), x.drew.cell? c = x.cell? c := fun _ _ => rfl
  refine ⟨_, rfl, ⟨?_, ?_, fun i => ?_, fun e => absurd e ha⟩, ((((kM.mono fun _ e => e.elim).trans k3).trans Wk).drew.setCell (p := ⟨g, 0, none⟩) rfl _).setCell (p := ⟨g, 0 + 1, none⟩) rfl _⟩
  ·rw [World.cell?_setCell_other _ _ _ _ (by first | (simp; done) | (simp; omega)), World.cell?_setCell_other _ _ _ _ (by first | (simp; done) | (simp; omega)), dr]; exact W3
  ·rw [World.cell?_setCell_other _ _ _ _ (by first | (simp; done) | (simp; omega)), World.cell?_setCell_other _ _ _ _ (by first | (simp; done) | (simp; omega)), dr]; exact W4
  ·rw [World.frozen?_setCell, World.frozen?_setCell]; exact Wf i
 have FIN := Lib.hid fin
 clear fin T e3 at3 fz3 k3 o0 o1 hM m1 m2 h hx kM ha
 go_enter Try.func59, Try.ntmps59
 go_wp2_with fail
 refine on.mono ?_
 rintro e w1 ⟨rfl, w2, hw2, rfl⟩
 obtain ⟨X, eX, f1, k1⟩ := FIN.out w2 hw2
 rw [eX]
 clear eX on eM m0 hw2
 go_wp2
 go_end0
 exact ⟨rfl, f1, k1⟩
set_option maxRecDepth 100000 in
theorem abort_any (h : LdAt w m K o z) {i : Nat} (hi : i < 8) (ht : z.s i = some t) (hx : (z.F t.f).st = 1) (r : Int) : Calls Try.prog 51 #[.pointer (some ⟨t.b, 0, none⟩), .int .i64 r] w fun e w' => e = .returned (reV (MoI.bad r) (.slice none 0 0)) ∧ LdAt w' m K o { z with F := updF z.F t.f ⟨4, 0⟩ } ∧ Keep (fun g => g = t.f) w w' := by
 obtain ⟨M, eM, rb, kM⟩ := res_box w
 have hM := h.quiet kM
 have P := publish_any (hM.tf hi ht) hx 4 0 (by decide)
 have cf := (hM.t i t hi ht).cf
 have of := (h.oT i t hi ht).2
 have fl := (h.tf hi ht).lt
 have ON := Lib.hid (show ∀ g, o g ≠ 0 → g ≠ w.heap.size from fun g hg e => by have := h.lt g hg; omega)
 obtain ⟨N, eN⟩ : ∃ N, w.heap.size = N := ⟨_, rfl⟩
 rw [eN] at fl rb ON
 have hNM := lt_of_cell rb.r0
 have KM := Lib.hid kM
 have HM := Lib.hid hM
 have RB := Lib.hid rb
 have EN := Lib.hid eN
 clear h hx ht kM hM rb
 unfold reV MoI.bad
 dsimp only
 go_enter Try.func51, Try.ntmps51
 go_wp2_with fail
 refine P.mono ?_
 rintro e w1 ⟨rfl, f1, k1⟩
 clear P cf eM
 have hne : ¬ N = t.f := by omega
 have R6 := Lib.hid (RB.out.keep k1 hne)
 obtain ⟨q0, q1, q2, q3, q4, q5⟩ := R6.out
 go_wp2
 (obtain ⟨W7, eW7⟩ : ∃ W7, (((((w1.setCell ⟨N, 0, none⟩ (.int .i64 14)).setCell ⟨N, 1, none⟩ (.int .i64 0)).setCell ⟨N, 2, none⟩ (.slice none 0 0)).setCell ⟨N, 3, none⟩ (.int .i64 4)).setCell ⟨N, 4, none⟩ (.int .i64 r)) = W7 := ⟨_, rfl⟩; obtain ⟨⟨v0, v1, v2, v3, v4, _⟩, k7⟩ := res_set R6.out _ _ _ _ _ eW7; rw [eW7]; refine bodyPost_ret (v := .agg #[.int .i64 14, .int .i64 0, .slice none 0 0, .int .i64 4, .int .i64 r]) (by simp [results, Try.results51, go_sem, v0, v1, v2, v3, v4]) rfl ⟨rfl, ?_⟩)
 have a1 := HM.out.fate of k1 f1
 exact ⟨a1.keep k7 (fun g hg e => ON.out g hg e), ((KM.out.trans' k1)).older' k7 (by rw [EN.out]; exact Nat.le_refl _)⟩
end
end Go.Proofs.Ytalkfnblnlcklaa
/- Package model as landed, in memory: which calls may be; fault, draw. Condition: times below 2^63. WRITTEN by wip/tools/genisop.py. -/
namespace Go.Proofs.Ytalkfnblnlcklaa
open Go.ChangeShapes Go.WideShapes Go.ChangeAt Go.RowKit
set_option linter.unusedVariables false
set_option linter.unusedSimpArgs false
section
variable {w w' : World} {m g : Nat} {K : Nat → Value} {o : Nat → Nat} {z : LdI} {T : Nat → Prop} {F : Nat → FtI} {P : VeI → Bool} {t : TtI} {x : FtI}
set_option maxRecDepth 100000 in
theorem iskey_any (n : Int) (r : Bool) (hr : r = decide (0 ≤ n ∧ n ≤ 63)) (w : World) : Calls Try.prog 48 #[.int .i64 n] w fun e w' => e = .returned (.bool r) ∧ w' = w := by
 by_cases h1 : 0 ≤ n
 ·have d1 : decide (0 ≤ n) = true := decide_eq_true h1
  by_cases h2 : n ≤ 63
  ·have d2 : decide (n ≤ 63) = true := decide_eq_true h2
   obtain rfl : r = true := hr.trans (decide_eq_true ⟨h1, h2⟩)
   clear hr
   go_enter Try.func48, Try.ntmps48
   go_wp2
   go_ret
   exact ⟨rfl, rfl⟩
  ·have d2 : decide (n ≤ 63) = false := decide_eq_false h2
   obtain rfl : r = false := hr.trans (decide_eq_false fun q => h2 q.2)
   clear hr
   go_enter Try.func48, Try.ntmps48
   go_wp2
   go_ret
   exact ⟨rfl, rfl⟩
 ·have d1 : decide (0 ≤ n) = false := decide_eq_false h1
  obtain rfl : r = false := hr.trans (decide_eq_false fun q => h1 q.1)
  clear hr
  go_enter Try.func48, Try.ntmps48
  go_wp2
  go_ret
  exact ⟨rfl, rfl⟩
set_option maxRecDepth 100000 in
theorem isvalue_any (n : Int) (r : Bool) (hr : r = decide (0 ≤ n ∧ n ≤ 65535)) (w : World) : Calls Try.prog 49 #[.int .i64 n] w fun e w' => e = .returned (.bool r) ∧ w' = w := by
 by_cases h1 : 0 ≤ n
 ·have d1 : decide (0 ≤ n) = true := decide_eq_true h1
  by_cases h2 : n ≤ 65535
  ·have d2 : decide (n ≤ 65535) = true := decide_eq_true h2
   obtain rfl : r = true := hr.trans (decide_eq_true ⟨h1, h2⟩)
   clear hr
   go_enter Try.func49, Try.ntmps49
   go_wp2
   go_ret
   exact ⟨rfl, rfl⟩
  ·have d2 : decide (n ≤ 65535) = false := decide_eq_false h2
   obtain rfl : r = false := hr.trans (decide_eq_false fun q => h2 q.2)
   clear hr
   go_enter Try.func49, Try.ntmps49
   go_wp2
   go_ret
   exact ⟨rfl, rfl⟩
 ·have d1 : decide (0 ≤ n) = false := decide_eq_false h1
  obtain rfl : r = false := hr.trans (decide_eq_false fun q => h1 q.1)
  clear hr
  go_enter Try.func49, Try.ntmps49
  go_wp2
  go_ret
  exact ⟨rfl, rfl⟩
set_option maxRecDepth 100000 in
theorem issession_any (n : Int) (r : Bool) (hr : r = decide (0 ≤ n ∧ n < 8)) (w : World) : Calls Try.prog 28 #[.int .i64 n] w fun e w' => e = .returned (.bool r) ∧ w' = w := by
 by_cases h1 : 0 ≤ n
 ·have d1 : decide (0 ≤ n) = true := decide_eq_true h1
  by_cases h2 : n < 8
  ·have d2 : decide (n < 8) = true := decide_eq_true h2
   obtain rfl : r = true := hr.trans (decide_eq_true ⟨h1, h2⟩)
   clear hr
   go_enter Try.func28, Try.ntmps28
   go_wp2
   go_ret
   exact ⟨rfl, rfl⟩
  ·have d2 : decide (n < 8) = false := decide_eq_false h2
   obtain rfl : r = false := hr.trans (decide_eq_false fun q => h2 q.2)
   clear hr
   go_enter Try.func28, Try.ntmps28
   go_wp2
   go_ret
   exact ⟨rfl, rfl⟩
 ·have d1 : decide (0 ≤ n) = false := decide_eq_false h1
  obtain rfl : r = false := hr.trans (decide_eq_false fun q => h1 q.1)
  clear hr
  go_enter Try.func28, Try.ntmps28
  go_wp2
  go_ret
  exact ⟨rfl, rfl⟩
set_option maxRecDepth 100000 in
set_option maxHeartbeats 4000000 in
theorem isop_1 (key hi val : Int) (w : World) : Calls Try.prog 36 #[opV ⟨1, key, hi, val⟩] w fun e w' => e = .returned (.bool (okI ⟨1, key, hi, val⟩)) ∧ Keep (fun _ => False) w w' := by
 obtain ⟨W, eW, ob, kW⟩ := op_box w ⟨1, key, hi, val⟩
 obtain ⟨M, eM⟩ : ∃ M, w.heap.size = M := ⟨_, rfl⟩
 rw [eM] at ob
 obtain ⟨o0, o1, o2, o3⟩ := ob
 dsimp only at *
 obtain ⟨r, hr⟩ : ∃ r, okI ⟨1, key, hi, val⟩ = r := ⟨_, rfl⟩
 rw [hr]
 have HR := Lib.hid hr
 clear hr
 unfold opV
 dsimp only
 by_cases h0 : 0 ≤ key ∧ key ≤ 63
 ·have C0 := iskey_any key true (by simp [h0]; try omega) W
  by_cases h1 : hi = 0
  ·have d1 : (hi == 0) = true := by simpa using h1
   by_cases h2 : val = 0
   ·have d2 : (val == 0) = true := by simpa using h2
    obtain rfl : r = true := by rw [← HR.out]; simp [okI]; try omega
    clear h0 h1 h2
    go_enter Try.func36, Try.ntmps36
    go_wp2_with fail
    refine C0.mono ?_
    rintro e wX ⟨rfl, rfl⟩
    go_wp2
    go_ret
    exact ⟨rfl, kW⟩
   ·have d2 : (val == 0) = false := by simpa using h2
    obtain rfl : r = false := by rw [← HR.out]; simp [okI]; try omega
    clear h0 h1 h2
    go_enter Try.func36, Try.ntmps36
    go_wp2_with fail
    refine C0.mono ?_
    rintro e wX ⟨rfl, rfl⟩
    go_wp2
    go_ret
    exact ⟨rfl, kW⟩
  ·have d1 : (hi == 0) = false := by simpa using h1
   obtain rfl : r = false := by rw [← HR.out]; simp [okI]; try omega
   clear h0 h1
   go_enter Try.func36, Try.ntmps36
   go_wp2_with fail
   refine C0.mono ?_
   rintro e wX ⟨rfl, rfl⟩
   go_wp2
   go_ret
   exact ⟨rfl, kW⟩
 ·have C0 := iskey_any key false (by simp [h0]; try omega) W
  obtain rfl : r = false := by rw [← HR.out]; simp [okI]; try omega
  clear h0
  go_enter Try.func36, Try.ntmps36
  go_wp2_with fail
  refine C0.mono ?_
  rintro e wX ⟨rfl, rfl⟩
  go_wp2
  go_ret
  exact ⟨rfl, kW⟩
set_option maxRecDepth 100000 in
set_option maxHeartbeats 4000000 in
theorem isop_4 (key hi val : Int) (w : World) : Calls Try.prog 36 #[opV ⟨4, key, hi, val⟩] w fun e w' => e = .returned (.bool (okI ⟨4, key, hi, val⟩)) ∧ Keep (fun _ => False) w w' := by
 obtain ⟨W, eW, ob, kW⟩ := op_box w ⟨4, key, hi, val⟩
 obtain ⟨M, eM⟩ : ∃ M, w.heap.size = M := ⟨_, rfl⟩
 rw [eM] at ob
 obtain ⟨o0, o1, o2, o3⟩ := ob
 dsimp only at *
 obtain ⟨r, hr⟩ : ∃ r, okI ⟨4, key, hi, val⟩ = r := ⟨_, rfl⟩
 rw [hr]
 have HR := Lib.hid hr
 clear hr
 unfold opV
 dsimp only
 by_cases h0 : 0 ≤ key ∧ key ≤ 63
 ·have C0 := iskey_any key true (by simp [h0]; try omega) W
  by_cases h1 : hi = 0
  ·have d1 : (hi == 0) = true := by simpa using h1
   by_cases h2 : val = 0
   ·have d2 : (val == 0) = true := by simpa using h2
    obtain rfl : r = true := by rw [← HR.out]; simp [okI]; try omega
    clear h0 h1 h2
    go_enter Try.func36, Try.ntmps36
    go_wp2_with fail
    refine C0.mono ?_
    rintro e wX ⟨rfl, rfl⟩
    go_wp2
    go_ret
    exact ⟨rfl, kW⟩
   ·have d2 : (val == 0) = false := by simpa using h2
    obtain rfl : r = false := by rw [← HR.out]; simp [okI]; try omega
    clear h0 h1 h2
    go_enter Try.func36, Try.ntmps36
    go_wp2_with fail
    refine C0.mono ?_
    rintro e wX ⟨rfl, rfl⟩
    go_wp2
    go_ret
    exact ⟨rfl, kW⟩
  ·have d1 : (hi == 0) = false := by simpa using h1
   obtain rfl : r = false := by rw [← HR.out]; simp [okI]; try omega
   clear h0 h1
   go_enter Try.func36, Try.ntmps36
   go_wp2_with fail
   refine C0.mono ?_
   rintro e wX ⟨rfl, rfl⟩
   go_wp2
   go_ret
   exact ⟨rfl, kW⟩
 ·have C0 := iskey_any key false (by simp [h0]; try omega) W
  obtain rfl : r = false := by rw [← HR.out]; simp [okI]; try omega
  clear h0
  go_enter Try.func36, Try.ntmps36
  go_wp2_with fail
  refine C0.mono ?_
  rintro e wX ⟨rfl, rfl⟩
  go_wp2
  go_ret
  exact ⟨rfl, kW⟩
set_option maxRecDepth 100000 in
set_option maxHeartbeats 4000000 in
theorem isop_2 (key hi val : Int) (w : World) : Calls Try.prog 36 #[opV ⟨2, key, hi, val⟩] w fun e w' => e = .returned (.bool (okI ⟨2, key, hi, val⟩)) ∧ Keep (fun _ => False) w w' := by
 obtain ⟨W, eW, ob, kW⟩ := op_box w ⟨2, key, hi, val⟩
 obtain ⟨M, eM⟩ : ∃ M, w.heap.size = M := ⟨_, rfl⟩
 rw [eM] at ob
 obtain ⟨o0, o1, o2, o3⟩ := ob
 dsimp only at *
 obtain ⟨r, hr⟩ : ∃ r, okI ⟨2, key, hi, val⟩ = r := ⟨_, rfl⟩
 rw [hr]
 have HR := Lib.hid hr
 clear hr
 unfold opV
 dsimp only
 by_cases h0 : 0 ≤ key ∧ key ≤ 63
 ·have C0 := iskey_any key true (by simp [h0]; try omega) W
  by_cases h1 : hi = 0
  ·have d1 : (hi == 0) = true := by simpa using h1
   by_cases h2 : 0 ≤ val ∧ val ≤ 65535
   ·have C2 := isvalue_any val true (by simp [h2]; try omega) W
    obtain rfl : r = true := by rw [← HR.out]; simp [okI]; try omega
    clear h0 h1 h2
    go_enter Try.func36, Try.ntmps36
    go_wp2_with fail
    refine C0.mono ?_
    rintro e wX ⟨rfl, rfl⟩
    go_wp2_with fail
    refine C2.mono ?_
    rintro e wX ⟨rfl, rfl⟩
    go_wp2
    go_ret
    exact ⟨rfl, kW⟩
   ·have C2 := isvalue_any val false (by simp [h2]; try omega) W
    obtain rfl : r = false := by rw [← HR.out]; simp [okI]; try omega
    clear h0 h1 h2
    go_enter Try.func36, Try.ntmps36
    go_wp2_with fail
    refine C0.mono ?_
    rintro e wX ⟨rfl, rfl⟩
    go_wp2_with fail
    refine C2.mono ?_
    rintro e wX ⟨rfl, rfl⟩
    go_wp2
    go_ret
    exact ⟨rfl, kW⟩
  ·have d1 : (hi == 0) = false := by simpa using h1
   obtain rfl : r = false := by rw [← HR.out]; simp [okI]; try omega
   clear h0 h1
   go_enter Try.func36, Try.ntmps36
   go_wp2_with fail
   refine C0.mono ?_
   rintro e wX ⟨rfl, rfl⟩
   go_wp2
   go_ret
   exact ⟨rfl, kW⟩
 ·have C0 := iskey_any key false (by simp [h0]; try omega) W
  obtain rfl : r = false := by rw [← HR.out]; simp [okI]; try omega
  clear h0
  go_enter Try.func36, Try.ntmps36
  go_wp2_with fail
  refine C0.mono ?_
  rintro e wX ⟨rfl, rfl⟩
  go_wp2
  go_ret
  exact ⟨rfl, kW⟩
set_option maxRecDepth 100000 in
set_option maxHeartbeats 4000000 in
theorem isop_3 (key hi val : Int) (w : World) : Calls Try.prog 36 #[opV ⟨3, key, hi, val⟩] w fun e w' => e = .returned (.bool (okI ⟨3, key, hi, val⟩)) ∧ Keep (fun _ => False) w w' := by
 obtain ⟨W, eW, ob, kW⟩ := op_box w ⟨3, key, hi, val⟩
 obtain ⟨M, eM⟩ : ∃ M, w.heap.size = M := ⟨_, rfl⟩
 rw [eM] at ob
 obtain ⟨o0, o1, o2, o3⟩ := ob
 dsimp only at *
 obtain ⟨r, hr⟩ : ∃ r, okI ⟨3, key, hi, val⟩ = r := ⟨_, rfl⟩
 rw [hr]
 have HR := Lib.hid hr
 clear hr
 unfold opV
 dsimp only
 by_cases h0 : 0 ≤ key ∧ key ≤ 63
 ·have C0 := iskey_any key true (by simp [h0]; try omega) W
  by_cases h1 : hi = 0
  ·have d1 : (hi == 0) = true := by simpa using h1
   by_cases h2 : 0 ≤ val ∧ val ≤ 65535
   ·have C2 := isvalue_any val true (by simp [h2]; try omega) W
    obtain rfl : r = true := by rw [← HR.out]; simp [okI]; try omega
    clear h0 h1 h2
    go_enter Try.func36, Try.ntmps36
    go_wp2_with fail
    refine C0.mono ?_
    rintro e wX ⟨rfl, rfl⟩
    go_wp2_with fail
    refine C2.mono ?_
    rintro e wX ⟨rfl, rfl⟩
    go_wp2
    go_ret
    exact ⟨rfl, kW⟩
   ·have C2 := isvalue_any val false (by simp [h2]; try omega) W
    obtain rfl : r = false := by rw [← HR.out]; simp [okI]; try omega
    clear h0 h1 h2
    go_enter Try.func36, Try.ntmps36
    go_wp2_with fail
    refine C0.mono ?_
    rintro e wX ⟨rfl, rfl⟩
    go_wp2_with fail
    refine C2.mono ?_
    rintro e wX ⟨rfl, rfl⟩
    go_wp2
    go_ret
    exact ⟨rfl, kW⟩
  ·have d1 : (hi == 0) = false := by simpa using h1
   obtain rfl : r = false := by rw [← HR.out]; simp [okI]; try omega
   clear h0 h1
   go_enter Try.func36, Try.ntmps36
   go_wp2_with fail
   refine C0.mono ?_
   rintro e wX ⟨rfl, rfl⟩
   go_wp2
   go_ret
   exact ⟨rfl, kW⟩
 ·have C0 := iskey_any key false (by simp [h0]; try omega) W
  obtain rfl : r = false := by rw [← HR.out]; simp [okI]; try omega
  clear h0
  go_enter Try.func36, Try.ntmps36
  go_wp2_with fail
  refine C0.mono ?_
  rintro e wX ⟨rfl, rfl⟩
  go_wp2
  go_ret
  exact ⟨rfl, kW⟩
set_option maxRecDepth 100000 in
set_option maxHeartbeats 4000000 in
theorem isop_5 (key hi val : Int) (w : World) : Calls Try.prog 36 #[opV ⟨5, key, hi, val⟩] w fun e w' => e = .returned (.bool (okI ⟨5, key, hi, val⟩)) ∧ Keep (fun _ => False) w w' := by
 obtain ⟨W, eW, ob, kW⟩ := op_box w ⟨5, key, hi, val⟩
 obtain ⟨M, eM⟩ : ∃ M, w.heap.size = M := ⟨_, rfl⟩
 rw [eM] at ob
 obtain ⟨o0, o1, o2, o3⟩ := ob
 dsimp only at *
 obtain ⟨r, hr⟩ : ∃ r, okI ⟨5, key, hi, val⟩ = r := ⟨_, rfl⟩
 rw [hr]
 have HR := Lib.hid hr
 clear hr
 unfold opV
 dsimp only
 by_cases h0 : 0 ≤ key ∧ key ≤ 63
 ·have C0 := iskey_any key true (by simp [h0]; try omega) W
  by_cases h1 : 0 ≤ hi ∧ hi ≤ 63
  ·have C1 := iskey_any hi true (by simp [h1]; try omega) W
   by_cases h2 : key ≤ hi
   ·have d2 : decide (key ≤ hi) = true := by simpa using h2
    by_cases h3 : val = 0
    ·have d3 : (val == 0) = true := by simpa using h3
     obtain rfl : r = true := by rw [← HR.out]; simp [okI]; try omega
     clear h0 h1 h2 h3
     go_enter Try.func36, Try.ntmps36
     go_wp2_with fail
     refine C0.mono ?_
     rintro e wX ⟨rfl, rfl⟩
     go_wp2_with fail
     refine C1.mono ?_
     rintro e wX ⟨rfl, rfl⟩
     go_wp2
     go_ret
     exact ⟨rfl, kW⟩
    ·have d3 : (val == 0) = false := by simpa using h3
     obtain rfl : r = false := by rw [← HR.out]; simp [okI]; try omega
     clear h0 h1 h2 h3
     go_enter Try.func36, Try.ntmps36
     go_wp2_with fail
     refine C0.mono ?_
     rintro e wX ⟨rfl, rfl⟩
     go_wp2_with fail
     refine C1.mono ?_
     rintro e wX ⟨rfl, rfl⟩
     go_wp2
     go_ret
     exact ⟨rfl, kW⟩
   ·have d2 : decide (key ≤ hi) = false := by simpa using h2
    obtain rfl : r = false := by rw [← HR.out]; simp [okI]; try omega
    clear h0 h1 h2
    go_enter Try.func36, Try.ntmps36
    go_wp2_with fail
    refine C0.mono ?_
    rintro e wX ⟨rfl, rfl⟩
    go_wp2_with fail
    refine C1.mono ?_
    rintro e wX ⟨rfl, rfl⟩
    go_wp2
    go_ret
    exact ⟨rfl, kW⟩
  ·have C1 := iskey_any hi false (by simp [h1]; try omega) W
   obtain rfl : r = false := by rw [← HR.out]; simp [okI]; try omega
   clear h0 h1
   go_enter Try.func36, Try.ntmps36
   go_wp2_with fail
   refine C0.mono ?_
   rintro e wX ⟨rfl, rfl⟩
   go_wp2_with fail
   refine C1.mono ?_
   rintro e wX ⟨rfl, rfl⟩
   go_wp2
   go_ret
   exact ⟨rfl, kW⟩
 ·have C0 := iskey_any key false (by simp [h0]; try omega) W
  obtain rfl : r = false := by rw [← HR.out]; simp [okI]; try omega
  clear h0
  go_enter Try.func36, Try.ntmps36
  go_wp2_with fail
  refine C0.mono ?_
  rintro e wX ⟨rfl, rfl⟩
  go_wp2
  go_ret
  exact ⟨rfl, kW⟩
set_option maxRecDepth 100000 in
set_option maxHeartbeats 4000000 in
theorem isop_6 (key hi val : Int) (w : World) : Calls Try.prog 36 #[opV ⟨6, key, hi, val⟩] w fun e w' => e = .returned (.bool (okI ⟨6, key, hi, val⟩)) ∧ Keep (fun _ => False) w w' := by
 obtain ⟨W, eW, ob, kW⟩ := op_box w ⟨6, key, hi, val⟩
 obtain ⟨M, eM⟩ : ∃ M, w.heap.size = M := ⟨_, rfl⟩
 rw [eM] at ob
 obtain ⟨o0, o1, o2, o3⟩ := ob
 dsimp only at *
 obtain ⟨r, hr⟩ : ∃ r, okI ⟨6, key, hi, val⟩ = r := ⟨_, rfl⟩
 rw [hr]
 have HR := Lib.hid hr
 clear hr
 unfold opV
 dsimp only
 by_cases h0 : key = 0
 ·have d0 : (key == 0) = true := by simpa using h0
  by_cases h1 : hi = 0
  ·have d1 : (hi == 0) = true := by simpa using h1
   by_cases h2 : val = 0
   ·have d2 : (val == 0) = true := by simpa using h2
    obtain rfl : r = true := by rw [← HR.out]; simp [okI]; try omega
    clear h0 h1 h2
    go_enter Try.func36, Try.ntmps36
    go_wp2
    go_ret
    exact ⟨rfl, kW⟩
   ·have d2 : (val == 0) = false := by simpa using h2
    obtain rfl : r = false := by rw [← HR.out]; simp [okI]; try omega
    clear h0 h1 h2
    go_enter Try.func36, Try.ntmps36
    go_wp2
    go_ret
    exact ⟨rfl, kW⟩
  ·have d1 : (hi == 0) = false := by simpa using h1
   obtain rfl : r = false := by rw [← HR.out]; simp [okI]; try omega
   clear h0 h1
   go_enter Try.func36, Try.ntmps36
   go_wp2
   go_ret
   exact ⟨rfl, kW⟩
 ·have d0 : (key == 0) = false := by simpa using h0
  obtain rfl : r = false := by rw [← HR.out]; simp [okI]; try omega
  clear h0
  go_enter Try.func36, Try.ntmps36
  go_wp2
  go_ret
  exact ⟨rfl, kW⟩
set_option maxRecDepth 100000 in
set_option maxHeartbeats 4000000 in
theorem isop_7 (key hi val : Int) (w : World) : Calls Try.prog 36 #[opV ⟨7, key, hi, val⟩] w fun e w' => e = .returned (.bool (okI ⟨7, key, hi, val⟩)) ∧ Keep (fun _ => False) w w' := by
 obtain ⟨W, eW, ob, kW⟩ := op_box w ⟨7, key, hi, val⟩
 obtain ⟨M, eM⟩ : ∃ M, w.heap.size = M := ⟨_, rfl⟩
 rw [eM] at ob
 obtain ⟨o0, o1, o2, o3⟩ := ob
 dsimp only at *
 obtain ⟨r, hr⟩ : ∃ r, okI ⟨7, key, hi, val⟩ = r := ⟨_, rfl⟩
 rw [hr]
 have HR := Lib.hid hr
 clear hr
 unfold opV
 dsimp only
 by_cases h0 : key = 0
 ·have d0 : (key == 0) = true := by simpa using h0
  by_cases h1 : hi = 0
  ·have d1 : (hi == 0) = true := by simpa using h1
   by_cases h2 : val = 0
   ·have d2 : (val == 0) = true := by simpa using h2
    obtain rfl : r = true := by rw [← HR.out]; simp [okI]; try omega
    clear h0 h1 h2
    go_enter Try.func36, Try.ntmps36
    go_wp2
    go_ret
    exact ⟨rfl, kW⟩
   ·have d2 : (val == 0) = false := by simpa using h2
    obtain rfl : r = false := by rw [← HR.out]; simp [okI]; try omega
    clear h0 h1 h2
    go_enter Try.func36, Try.ntmps36
    go_wp2
    go_ret
    exact ⟨rfl, kW⟩
  ·have d1 : (hi == 0) = false := by simpa using h1
   obtain rfl : r = false := by rw [← HR.out]; simp [okI]; try omega
   clear h0 h1
   go_enter Try.func36, Try.ntmps36
   go_wp2
   go_ret
   exact ⟨rfl, kW⟩
 ·have d0 : (key == 0) = false := by simpa using h0
  obtain rfl : r = false := by rw [← HR.out]; simp [okI]; try omega
  clear h0
  go_enter Try.func36, Try.ntmps36
  go_wp2
  go_ret
  exact ⟨rfl, kW⟩
set_option maxRecDepth 100000 in
set_option maxHeartbeats 4000000 in
theorem isop_no (kind key hi val : Int) (hk : kind < 1 ∨ 7 < kind) (w : World) : Calls Try.prog 36 #[opV ⟨kind, key, hi, val⟩] w fun e w' => e = .returned (.bool (okI ⟨kind, key, hi, val⟩)) ∧ Keep (fun _ => False) w w' := by
 obtain ⟨W, eW, ob, kW⟩ := op_box w ⟨kind, key, hi, val⟩
 obtain ⟨M, eM⟩ : ∃ M, w.heap.size = M := ⟨_, rfl⟩
 rw [eM] at ob
 obtain ⟨o0, o1, o2, o3⟩ := ob
 dsimp only at *
 have : okI ⟨kind, key, hi, val⟩ = false := by
  unfold okI
  simp only
  rw [if_neg (by omega), if_neg (by omega), if_neg (by omega), if_neg (by omega)]
 rw [this]
 clear this
 have q1 : (kind == 1) = false := by simp; omega
 have q2 : (kind == 2) = false := by simp; omega
 have q3 : (kind == 3) = false := by simp; omega
 have q4 : (kind == 4) = false := by simp; omega
 have q5 : (kind == 5) = false := by simp; omega
 have q6 : (kind == 6) = false := by simp; omega
 have q7 : (kind == 7) = false := by simp; omega
 clear hk
 unfold opV
 dsimp only
 go_enter Try.func36, Try.ntmps36
 go_wp2
 go_ret
 exact ⟨rfl, kW⟩
theorem isop_any (op : OpI) (w : World) : Calls Try.prog 36 #[opV op] w fun e w' => e = .returned (.bool (okI op)) ∧ Keep (fun _ => False) w w' := by
 obtain ⟨kind, key, hi, val⟩ := op
 by_cases hk : kind < 1 ∨ 7 < kind
 ·exact isop_no kind key hi val hk w
 ·rcases (show kind = 1 ∨ kind = 2 ∨ kind = 3 ∨ kind = 4 ∨ kind = 5 ∨ kind = 6 ∨ kind = 7 by omega) with rfl | rfl | rfl | rfl | rfl | rfl | rfl
  ·exact isop_1 key hi val w
  ·exact isop_2 key hi val w
  ·exact isop_3 key hi val w
  ·exact isop_4 key hi val w
  ·exact isop_5 key hi val w
  ·exact isop_6 key hi val w
  ·exact isop_7 key hi val w
set_option maxRecDepth 100000 in
theorem ends_any (op : OpI) (w : World) : Calls Try.prog 37 #[opV op] w fun e w' => e = .returned (.bool (decide (op.kind = 6 ∨ op.kind = 7))) ∧ Keep (fun _ => False) w w' := by
 obtain ⟨W, eW, ob, kW⟩ := op_box w op
 obtain ⟨M, eM⟩ : ∃ M, w.heap.size = M := ⟨_, rfl⟩
 rw [eM] at ob
 obtain ⟨kind, key, hi, val⟩ := op
 obtain ⟨o0, o1, o2, o3⟩ := ob
 dsimp only at *
 unfold opV
 dsimp only
 by_cases h6 : kind = 6
 ·subst h6
  go_enter Try.func37, Try.ntmps37
  go_wp2
  go_ret
  exact ⟨rfl, kW⟩
 ·have d6 : (kind == 6) = false := by simpa using h6
  obtain ⟨r, hr⟩ : ∃ r, (kind == 7) = r := ⟨_, rfl⟩
  have e : decide (kind = 6 ∨ kind = 7) = r := by
   rw [← hr, Bool.eq_iff_iff, decide_eq_true_iff, beq_iff_eq]; omega
  rw [e]
  clear e h6
  go_enter Try.func37, Try.ntmps37
  go_wp2
  go_ret
  exact ⟨rfl, kW⟩
theorem fault_any (kind : Int) (b : Bool) (r : Int) (hr : r = if kind = 2 ∧ b = true then 12 else if kind ≠ 2 ∧ b = false then 11 else 0) (w : World) : Calls Try.prog 61 #[.int .i64 kind, .bool b] w fun e w' => e = .returned (.int .i64 r) ∧ w' = w := by
 by_cases h : kind = 2
 ·subst h
  cases b
  ·obtain rfl : r = 0 := by rw [hr]; simp
   clear hr
   go_enter Try.func61, Try.ntmps61
   go_wp2
   go_ret
   exact ⟨rfl, rfl⟩
  ·obtain rfl : r = 12 := by rw [hr]; simp
   clear hr
   go_enter Try.func61, Try.ntmps61
   go_wp2
   go_ret
   exact ⟨rfl, rfl⟩
 ·have d2 : (kind == 2) = false := by simpa using h
  have d3 : (kind != 2) = true := by simpa using h
  cases b
  ·obtain rfl : r = 11 := by rw [hr]; simp [h]
   clear hr
   go_enter Try.func61, Try.ntmps61
   go_wp2
   go_ret
   exact ⟨rfl, rfl⟩
  ·obtain rfl : r = 0 := by rw [hr]; simp [h]
   clear hr
   go_enter Try.func61, Try.ntmps61
   go_wp2
   go_ret
   exact ⟨rfl, rfl⟩
set_option maxRecDepth 100000 in
theorem draw_no (h : LdAt w m K o z) (hl : z.limit = z.clock) : Calls Try.prog 29 #[.pointer (some ⟨m, 0, none⟩)] w fun e w' => e = .returned (.tuple #[.int .u64 0, .bool false]) ∧ Keep (fun _ => False) w w' := by
 have c1 := h.a.c1
 have c2 := h.a.c2
 obtain ⟨l, el⟩ : ∃ l, z.limit = l := ⟨_, rfl⟩
 rw [← hl, el] at c2
 rw [el] at c1
 have d : (l == l) = true := by simp
 clear h hl el
 go_enter Try.func29, Try.ntmps29
 go_wp2
 go_quiet (fail)
 go_wp2
 refine bodyPost_ret (v := .tuple #[.int .u64 0, .bool false]) (by simp [results, Try.results29, go_sem]) rfl ?_
 exact ⟨rfl, drewN_keep _ _ _⟩
set_option maxRecDepth 100000 in
theorem draw_yes (h : LdAt w m K o z) (hl : z.limit ≠ z.clock) (h0 : 0 ≤ z.clock) (h1 : z.clock ≤ z.limit) (h2 : z.limit ≤ 1099511627776) : Calls Try.prog 29 #[.pointer (some ⟨m, 0, none⟩)] w fun e w' => e = .returned (.tuple #[.int .u64 (z.clock + 1), .bool true]) ∧ LdAt w' m K o { z with clock := z.clock + 1 } ∧ Keep (fun g => g = m) w w' := by
 have c1 := h.a.c1
 have c2 := h.a.c2
 have f2 := h.a.fz 2
 have H := Lib.hid h
 have st := fun w1 (k : Keep (fun _ => False) w w1) => (h.quiet k).clock (z.clock + 1)
 obtain ⟨l, el⟩ : ∃ l, z.limit = l := ⟨_, rfl⟩
 obtain ⟨c, ec⟩ : ∃ c, z.clock = c := ⟨_, rfl⟩
 rw [ec] at c2 hl h0 h1
 rw [el] at c1 hl h1 h2
 simp only [ec] at st
 have ST := Lib.hid st
 have EC := Lib.hid ec
 obtain ⟨z', ez⟩ : ∃ z' : LdI, { z with clock := c + 1 } = z' := ⟨_, rfl⟩
 have EZ := Lib.hid ez
 rw [ec, ez]
 have d : (c == l) = false := by simp; omega
 have wk : IntKind.u64.wrap (c + 1) = c + 1 := IntWalk.u64_in _ (by omega)
 clear h hl h0 h1 h2 el ec st ez
 go_enter Try.func29, Try.ntmps29
 go_wp2
 go_quiet (fail)
 go_wp2
 refine bodyPost_ret (v := .tuple #[.int .u64 (c + 1), .bool true]) (by simp [results, Try.results29, go_sem]) rfl ?_
 refine ⟨rfl, ?_, (drewN_keep _ _ _).trans (keep_one _ ⟨m, 2, none⟩ _)⟩
 rw [← EZ.out]
 exact ST.out _ (drewN_keep _ _ _)
end
end Go.Proofs.Ytalkfnblnlcklaa
