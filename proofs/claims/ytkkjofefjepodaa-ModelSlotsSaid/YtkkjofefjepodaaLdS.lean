/- Package model as landed, in memory: publish, abort. Condition: the fate is an active one's. -/
import Derived.Test.YtkkjofefjepodaaLdA
import Derived.Test.YtkkjofefjepodaaRes
import Derived.Test.YtkkjofefjepodaaOnceC
import Derived.Deep.RegionHeld3
import Derived.Deep.QuietTactic
import Derived.BigQuiet
import Derived.BigRegion
namespace Go.Proofs.Ytkkjofefjepodaa
open Go.ChangeShapes Go.WideShapes Go.ChangeAt Go.RowKit
set_option linter.unusedVariables false
set_option linter.unusedSimpArgs false
section
variable {w w' : World} {m g : Nat} {K : Nat → Value} {o : Nat → Nat} {z : LdI} {T : Nat → Prop} {F : Nat → FtI} {P : VeI → Bool} {t : TtI} {x : FtI}
theorem Keep.trans' {S : Nat → Prop} {a b c : World} (h : Keep (fun _ => False) a b) (k : Keep S b c) : Keep S a c := (h.mono fun _ e => e.elim).trans k
/-- .. a store into a block that was new then. -/
theorem Keep.older' {S : Nat → Prop} {a b c : World} {N : Nat} (h : Keep S a b) (k : Keep (fun j => j = N) b c) (hN : a.heap.size ≤ N) : Keep S a c :=
  ⟨k.os.trans h.os, k.tape.trans h.tape, k.output.trans h.output, Nat.le_trans h.size k.size, fun i hi n => (k.block i (Nat.lt_of_lt_of_le hi h.size) (fun e => by omega)).trans (h.block i hi n)⟩
/-- What the closure of publish leaves. -/
def Pub (g : Nat) (a r : Int) (w w' : World) : Prop :=
  w'.cell? ⟨g, 3, none⟩ = some (.int .i64 a) ∧ w'.cell? ⟨g, 4, none⟩ = some (.int .u64 r) ∧ Keep (fun j => j = g) w w' ∧ (∀ i, w'.frozen? ⟨g, i, none⟩ = false) ∧ ∀ i u, i ≤ 2 → w.cell? ⟨g, i, none⟩ = some u → w'.cell? ⟨g, i, none⟩ = some u
set_option maxRecDepth 100000 in
theorem publish1_any (bs br bo : Nat) (a r : Int) (h0 : w.cell? ⟨bs, 0, none⟩ = some (.int .i64 a)) (h1 : w.cell? ⟨br, 0, none⟩ = some (.int .u64 r)) (h2 : w.cell? ⟨bo, 0, none⟩ = some (.pointer (some ⟨g, 0, none⟩))) {u3 u4 : Value} (h3 : w.cell? ⟨g, 3, none⟩ = some u3) (h4 : w.cell? ⟨g, 4, none⟩ = some u4) (hf : ∀ i, w.frozen? ⟨g, i, none⟩ = false) :
    Calls Try.prog 102 #[.pointer (some ⟨bs, 0, none⟩), .pointer (some ⟨br, 0, none⟩), .pointer (some ⟨bo, 0, none⟩)] w fun e w' => e = .returned (.tuple #[]) ∧ Pub g a r w w' := by
  have f3 := hf 3
  have f4 := hf 4
  have HF := Lib.hid hf
  clear hf
  go_enter Try.func102, Try.ntmps102
  go_wp2_with fail
  go_region
  obtain ⟨M2, e2⟩ : ∃ M2, ((w.setCell ⟨g, 3, none⟩ (.int .i64 a)).setCell ⟨g, 4, none⟩ (.int .u64 r)).drew = M2 := ⟨_, rfl⟩
  have W : Pub g a r w M2 := by
    have dr : ∀ (x : World) (c : Addr), x.drew.cell? c = x.cell? c := fun _ _ => rfl
    rw [← e2]
    refine ⟨?_, ?_, (((Keep.refl (fun j => j = g) w).setCell (p := ⟨g, 3, none⟩) rfl _).setCell (p := ⟨g, 4, none⟩) rfl _).drew, fun i => ?_, fun i u hi hu => ?_⟩
    · rw [dr, World.cell?_setCell_other _ _ _ _ (by first | (simp; done) | (simp; omega))]; exact World.cell?_setCell_same _ _ _ h3
    · rw [dr]; exact World.cell?_setCell_same _ _ _ (u := u4) (by rw [World.cell?_setCell_other _ _ _ _ (by first | (simp; done) | (simp; omega))]; exact h4)
    · show ((w.setCell ⟨g, 3, none⟩ (.int .i64 a)).setCell ⟨g, 4, none⟩ (.int .u64 r)).frozen? _ = false
      rw [World.frozen?_setCell, World.frozen?_setCell]; exact HF.out i
    · rw [dr, World.cell?_setCell_other _ _ _ _ (by first | (simp; done) | (simp; omega)), World.cell?_setCell_other _ _ _ _ (by first | (simp; done) | (simp; omega))]; exact hu
  rw [e2]
  have HW := Lib.hid W
  clear W e2
  go_wp2
  go_end0
  exact ⟨rfl, HW.out⟩
/-- The three parameters of publish, in blocks of their own. -/
theorem boxesP (w : World) (g : Nat) (a r : Int) : ∃ M, (((w.alloc (.cells #[.pointer (some ⟨g, 0, none⟩)] 98)).alloc (.cells #[.int .i64 a] 3)).alloc (.cells #[.int .u64 r] 46)) = M ∧
    M.cell? ⟨w.heap.size, 0, none⟩ = some (.pointer (some ⟨g, 0, none⟩)) ∧ M.cell? ⟨w.heap.size + 1, 0, none⟩ = some (.int .i64 a) ∧ M.cell? ⟨w.heap.size + 1 + 1, 0, none⟩ = some (.int .u64 r) ∧ Keep (fun _ => False) w M := by
  obtain ⟨w1, e1⟩ : ∃ w1, w.alloc (.cells #[.pointer (some ⟨g, 0, none⟩)] 98) = w1 := ⟨_, rfl⟩
  have s1 : w1.heap.size = w.heap.size + 1 := by rw [← e1]; simp
  have a0 : w1.cell? ⟨w.heap.size, 0, none⟩ = some (.pointer (some ⟨g, 0, none⟩)) := by rw [← e1]; simp
  have k1 : Keep (fun _ => False) w w1 := by rw [← e1]; exact (Keep.refl _ _).alloc _
  rw [e1]
  obtain ⟨w2, e2⟩ : ∃ w2, w1.alloc (.cells #[.int .i64 a] 3) = w2 := ⟨_, rfl⟩
  have s2 : w2.heap.size = w.heap.size + 1 + 1 := by rw [← e2, World.size_alloc, s1]
  have a1 : w2.cell? ⟨w.heap.size + 1, 0, none⟩ = some (.int .i64 a) := by rw [← e2, ← s1]; simp
  have k2 : Keep (fun _ => False) w1 w2 := by rw [← e2]; exact (Keep.refl _ _).alloc _
  rw [e2]
  obtain ⟨w3, e3⟩ : ∃ w3, w2.alloc (.cells #[.int .u64 r] 46) = w3 := ⟨_, rfl⟩
  have a2 : w3.cell? ⟨w.heap.size + 1 + 1, 0, none⟩ = some (.int .u64 r) := by rw [← e3, ← s2]; simp
  have k3 : Keep (fun _ => False) w2 w3 := by rw [← e3]; exact (Keep.refl _ _).alloc _
  exact ⟨_, e3, k3.cell (k2.cell a0 id) id, k3.cell a1 id, a2, (k1.trans k2).trans k3⟩
set_option maxRecDepth 100000 in
theorem publish_any (h : FtAt w g x) (hx : x.st = 1) (a r : Int) (ha : a ≠ 1) : Calls Try.prog 92 #[.pointer (some ⟨g, 0, none⟩), .int .i64 a, .int .u64 r] w fun e w' => e = .returned (.tuple #[]) ∧ FtAt w' g ⟨a, r⟩ ∧ Keep (fun j => j = g) w w' := by
  obtain ⟨M, eM, m0, m1, m2, kM⟩ := boxesP w g a r
  have hM := h.keep kM id
  have hlt := h.lt
  obtain ⟨o0, o1⟩ := hM.on hx
  obtain ⟨M3, e3⟩ : ∃ M3, M.setCell ⟨g, 0 + 1, none⟩ (.int .i32 1) = M3 := ⟨_, rfl⟩
  have k3 : Keep (fun j => j = g) M M3 := by rw [← e3]; exact keep_one M ⟨g, 0 + 1, none⟩ _
  have at3 : ∀ (i : Nat) (u : Value), i ≠ 1 → M.cell? ⟨g, i, none⟩ = some u → M3.cell? ⟨g, i, none⟩ = some u := fun i u hi hu => by rw [← e3, World.cell?_setCell_other _ _ _ _ (fun e => hi (congrArg Addr.off e).symm)]; exact hu
  have fz3 : ∀ i, M3.frozen? ⟨g, i, none⟩ = false := fun i => by rw [← e3, World.frozen?_setCell]; exact hM.fz i
  have T := publish1_any (w := M3) (g := g) (w.heap.size + 1) (w.heap.size + 1 + 1) w.heap.size a r (k3.cell m1 (show ¬ w.heap.size + 1 = g by omega)) (k3.cell m2 (show ¬ w.heap.size + 1 + 1 = g by omega)) (k3.cell m0 (show ¬ w.heap.size = g by omega)) (at3 3 _ (by decide) hM.c3) (at3 4 _ (by decide) hM.c4) fz3
  have on : Calls Try.prog 101 #[.pointer (some ⟨g, 0, none⟩), .func (.func 102) #[] #[.pointer (some ⟨w.heap.size + 1, 0, none⟩), .pointer (some ⟨w.heap.size + 1 + 1, 0, none⟩), .pointer (some ⟨w.heap.size, 0, none⟩)]] M (OnceDid (Pub g a r M3) g 0) := by
    refine once_firstM g 0 _ (Pub g a r M3) M o0 o1 (hM.fz 1) ?_
    rw [e3]
    refine T.mono ?_
    rintro e w' ⟨rfl, W⟩
    exact ⟨rfl, W, W.2.2.2.2 0 _ (by decide) (at3 0 _ (by decide) o0), W.2.2.2.2 1 _ (by decide) (by rw [← e3]; exact World.cell?_setCell_same _ _ _ o1), W.2.2.2.1 0, W.2.2.2.1 1⟩
  have fin : ∀ w2, Pub g a r M3 w2 → ∃ F, (w2.drew.setCell ⟨g, 0, none⟩ (.int .u32 1)).setCell ⟨g, 0 + 1, none⟩ (.int .i32 0) = F ∧ FtAt F g ⟨a, r⟩ ∧ Keep (fun j => j = g) w F := by
    rintro w2 ⟨W3, W4, Wk, Wf, Wo⟩
    have dr : ∀ (x : World) (c : Addr), x.drew.cell? c = x.cell? c := fun _ _ => rfl
    refine ⟨_, rfl, ⟨?_, ?_, fun i => ?_, fun e => absurd e ha⟩, ((((kM.mono fun _ e => e.elim).trans k3).trans Wk).drew.setCell (p := ⟨g, 0, none⟩) rfl _).setCell (p := ⟨g, 0 + 1, none⟩) rfl _⟩
    · rw [World.cell?_setCell_other _ _ _ _ (by first | (simp; done) | (simp; omega)), World.cell?_setCell_other _ _ _ _ (by first | (simp; done) | (simp; omega)), dr]; exact W3
    · rw [World.cell?_setCell_other _ _ _ _ (by first | (simp; done) | (simp; omega)), World.cell?_setCell_other _ _ _ _ (by first | (simp; done) | (simp; omega)), dr]; exact W4
    · rw [World.frozen?_setCell, World.frozen?_setCell]; exact Wf i
  have FIN := Lib.hid fin
  clear fin T e3 at3 fz3 k3 o0 o1 hM m1 m2 h hx kM ha
  go_enter Try.func92, Try.ntmps92
  go_wp2_with fail
  refine on.mono ?_
  rintro e w1 ⟨rfl, w2, hw2, rfl⟩
  obtain ⟨X, eX, f1, k1⟩ := FIN.out w2 hw2
  rw [eX]
  clear eX on eM m0 hw2
  go_wp2
  go_end0
  exact ⟨rfl, f1, k1⟩
set_option maxRecDepth 100000 in
theorem abort_any (h : LdAt w m K o z) {i : Nat} (hi : i < 8) (ht : z.s i = some t) (hx : (z.F t.f).st = 1) (r : Int) : Calls Try.prog 74 #[.pointer (some ⟨t.b, 0, none⟩), .int .i64 r] w fun e w' => e = .returned (reV (MoI.bad r) (.slice none 0 0)) ∧ LdAt w' m K o { z with F := updF z.F t.f ⟨4, 0⟩ } ∧ Keep (fun g => g = t.f) w w' := by
  obtain ⟨M, eM, rb, kM⟩ := res_box w
  have hM := h.quiet kM
  have P := publish_any (hM.tf hi ht) hx 4 0 (by decide)
  have cf := (hM.t i t hi ht).cf
  have of := (h.oT i t hi ht).2
  have fl := (h.tf hi ht).lt
  have ON := Lib.hid (show ∀ g, o g ≠ 0 → g ≠ w.heap.size from fun g hg e => by have := h.lt g hg; omega)
  obtain ⟨N, eN⟩ : ∃ N, w.heap.size = N := ⟨_, rfl⟩
  rw [eN] at fl rb ON
  have hNM := lt_of_cell rb.r0
  have KM := Lib.hid kM
  have HM := Lib.hid hM
  have RB := Lib.hid rb
  have EN := Lib.hid eN
  clear h hx ht kM hM rb
  unfold reV MoI.bad
  dsimp only
  go_enter Try.func74, Try.ntmps74
  go_wp2_with fail
  refine P.mono ?_
  rintro e w1 ⟨rfl, f1, k1⟩
  clear P cf eM
  have hne : ¬ N = t.f := by omega
  have R6 := Lib.hid (RB.out.keep k1 hne)
  obtain ⟨q0, q1, q2, q3, q4, q5⟩ := R6.out
  go_wp2
  (obtain ⟨W7, eW7⟩ : ∃ W7, (((((w1.setCell ⟨N, 0, none⟩ (.int .i64 14)).setCell ⟨N, 1, none⟩ (.int .i64 0)).setCell ⟨N, 2, none⟩ (.slice none 0 0)).setCell ⟨N, 3, none⟩ (.int .i64 4)).setCell ⟨N, 4, none⟩ (.int .i64 r)) = W7 := ⟨_, rfl⟩; obtain ⟨⟨v0, v1, v2, v3, v4, _⟩, k7⟩ := res_set R6.out _ _ _ _ _ eW7; rw [eW7]; refine bodyPost_ret (v := .agg #[.int .i64 14, .int .i64 0, .slice none 0 0, .int .i64 4, .int .i64 r]) (by simp [results, Try.results74, go_sem, v0, v1, v2, v3, v4]) rfl ⟨rfl, ?_⟩)
  have a1 := HM.out.fate of k1 f1
  exact ⟨a1.keep k7 (fun g hg e => ON.out g hg e), ((KM.out.trans' k1)).older' k7 (by rw [EN.out]; exact Nat.le_refl _)⟩
end
end Go.Proofs.Ytkkjofefjepodaa
