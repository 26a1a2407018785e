/- Package bond: finish: an end is published once (sync.Once with its closure); condition: the Once's lock is free, as it always is between calls. -/
import Derived.Test.YtjobphjpfknfeaaDoorBnM
import Derived.Test.YtjobphjpfknfeaaDoorOnceC
namespace Go.Proofs.YtjobphjpfknfeaaDoor
open Go.ChangeShapes Go.WideShapes Go.ChangeAt Go.RowKit
set_option linter.unusedVariables false
open Classical

section
variable {w w' : World} {b i : Nat} {x : Pty} {s : Int}
/-- The three variables that finish's closure catches, in blocks of their own. -/
theorem boxes3 (w : World) (b : Nat) (s : Int) : ∃ M, (((w.alloc (.cells #[.pointer (some ⟨b, 0, none⟩)] 56)).alloc (.cells #[.int .i64 s] 3)).alloc (.cells #[.bool false] 4)).setCell ⟨w.heap.size + 2, 0, none⟩ (.bool false) = M ∧
    M.cell? ⟨w.heap.size, 0, none⟩ = some (.pointer (some ⟨b, 0, none⟩)) ∧ M.cell? ⟨w.heap.size + 1, 0, none⟩ = some (.int .i64 s) ∧ M.cell? ⟨w.heap.size + 2, 0, none⟩ = some (.bool false) ∧ M.frozen? ⟨w.heap.size + 2, 0, none⟩ = false ∧ Keep (fun _ => False) w M ∧ M.heap.size = w.heap.size + 3 := by
  obtain ⟨w1, e1⟩ : ∃ w1, w.alloc (.cells #[.pointer (some ⟨b, 0, none⟩)] 56) = w1 := ⟨_, rfl⟩
  have s1 : w1.heap.size = w.heap.size + 1 := by rw [← e1]; simp
  have a0 : w1.cell? ⟨w.heap.size, 0, none⟩ = some (.pointer (some ⟨b, 0, none⟩)) := by rw [← e1]; simp
  have k1 : Keep (fun _ => False) w w1 := by rw [← e1]; exact (Keep.refl _ _).alloc _
  rw [e1]
  obtain ⟨w2, e2⟩ : ∃ w2, w1.alloc (.cells #[.int .i64 s] 3) = w2 := ⟨_, rfl⟩
  have s2 : w2.heap.size = w.heap.size + 2 := by rw [← e2, World.size_alloc, s1]
  have a1 : w2.cell? ⟨w.heap.size + 1, 0, none⟩ = some (.int .i64 s) := by rw [← e2, ← s1]; simp
  have k2 : Keep (fun _ => False) w1 w2 := by rw [← e2]; exact (Keep.refl _ _).alloc _
  rw [e2]
  obtain ⟨w3, e3⟩ : ∃ w3, w2.alloc (.cells #[.bool false] 4) = w3 := ⟨_, rfl⟩
  have s3 : w3.heap.size = w.heap.size + 3 := by rw [← e3, World.size_alloc, s2]
  have a2 : w3.cell? ⟨w.heap.size + 2, 0, none⟩ = some (.bool false) := by rw [← e3, ← s2]; simp
  have f2 : w3.frozen? ⟨w.heap.size + 2, 0, none⟩ = false := by rw [← e3, ← s2]; simp
  have k3 : Keep (fun _ => False) w2 w3 := by rw [← e3]; exact (Keep.refl _ _).alloc _
  rw [e3]
  have kk : Keep (fun g => g = w.heap.size + 2) w3 (w3.setCell ⟨w.heap.size + 2, 0, none⟩ (.bool false)) := keep_one w3 ⟨w.heap.size + 2, 0, none⟩ _
  have kw := ((k1.trans k2).trans k3)
  exact ⟨_, rfl, kk.cell (k3.cell (k2.cell a0 id) id) (by simp), kk.cell (k3.cell a1 id) (by simp), World.cell?_setCell_same _ _ _ a2, by rw [World.frozen?_setCell]; exact f2, kw.older (kk.mono (T := fun g => g = w.heap.size + 2) fun _ e => e) (fun j hj => by omega), by rw [← s3]; simp [World.setCell]⟩
theorem finish1_any (t2 t3 t5 b : Nat) (h3 : w.cell? ⟨t3, 0, none⟩ = some (.int .i64 s)) (h2 : w.cell? ⟨t2, 0, none⟩ = some (.pointer (some ⟨b, 0, none⟩))) (h5 : w.cell? ⟨t5, 0, none⟩ = some (.bool false)) (f5 : w.frozen? ⟨t5, 0, none⟩ = false) {o : Value} (hb : w.cell? ⟨b, 2, none⟩ = some o) (fb : w.frozen? ⟨b, 2, none⟩ = false) (hne : t5 ≠ b) :
    Calls Tryd.prog 43 #[.pointer (some ⟨t3, 0, none⟩), .pointer (some ⟨t2, 0, none⟩), .pointer (some ⟨t5, 0, none⟩)] w fun e w' => e = .returned (.tuple #[]) ∧ w' = (w.setCell ⟨b, 2, none⟩ (.int .i64 s)).setCell ⟨t5, 0, none⟩ (.bool true) := by
  have h5' : (w.setCell ⟨b, 2, none⟩ (.int .i64 s)).cell? ⟨t5, 0, none⟩ = some (.bool false) := by rw [World.cell?_setCell_other _ _ _ _ (by simp)]; exact h5
  go_enter Tryd.func43, Tryd.ntmps43
  go_wp2
  go_end0
  exact ⟨rfl, rfl⟩
/-- The world behind a first finish. -/
def finW (M : World) (b t5 : Nat) (s : Int) : World := (((((M.setCell ⟨b, 3 + 1, none⟩ (.int .i32 1)).setCell ⟨b, 2, none⟩ (.int .i64 s)).setCell ⟨t5, 0, none⟩ (.bool true)).drew.setCell ⟨b, 3, none⟩ (.int .u32 1)).setCell ⟨b, 3 + 1, none⟩ (.int .i32 0))
theorem finW_keep (M : World) (b t5 : Nat) (s : Int) : Keep (fun g => g = b ∨ g = t5) M (finW M b t5 s) :=
  (((((Keep.refl (fun g => g = b ∨ g = t5) M).setCell (p := ⟨b, 3 + 1, none⟩) (.inl rfl) (.int .i32 1)).setCell (p := ⟨b, 2, none⟩) (.inl rfl) (.int .i64 s)).setCell (p := ⟨t5, 0, none⟩) (.inr rfl) (.bool true)).drew.setCell (p := ⟨b, 3, none⟩) (.inl rfl) (.int .u32 1)).setCell (p := ⟨b, 3 + 1, none⟩) (.inl rfl) (.int .i32 0)
theorem finW_far {M : World} {b t5 j : Nat} {s : Int} (hne : t5 ≠ b) (hj : j < 2 ∨ 5 ≤ j) : (finW M b t5 s).cell? ⟨b, j, none⟩ = M.cell? ⟨b, j, none⟩ := by
  have ne : ∀ k : Nat, (k = 2 ∨ k = 3 ∨ k = 4) → (⟨b, k, none⟩ : Addr) ≠ ⟨b, j, none⟩ := fun k hk e => by have := congrArg Addr.off e; simp at this; omega
  have n5 : (⟨t5, 0, none⟩ : Addr) ≠ ⟨b, j, none⟩ := fun e => hne (congrArg Addr.block e)
  unfold finW
  rw [World.cell?_setCell_other _ _ _ _ (ne 4 (by omega)), World.cell?_setCell_other _ _ _ _ (ne 3 (by omega))]
  show (((M.setCell ⟨b, 3 + 1, none⟩ (.int .i32 1)).setCell ⟨b, 2, none⟩ (.int .i64 s)).setCell ⟨t5, 0, none⟩ (.bool true)).cell? ⟨b, j, none⟩ = _
  rw [World.cell?_setCell_other _ _ _ _ n5, World.cell?_setCell_other _ _ _ _ (ne 2 (by omega)), World.cell?_setCell_other _ _ _ _ (ne 4 (by omega))]
theorem finW_fz (M : World) (b t5 j : Nat) (s : Int) : (finW M b t5 s).frozen? ⟨b, j, none⟩ = M.frozen? ⟨b, j, none⟩ := by
  unfold finW
  rw [World.frozen?_setCell, World.frozen?_setCell]
  show (((M.setCell ⟨b, 3 + 1, none⟩ (.int .i32 1)).setCell ⟨b, 2, none⟩ (.int .i64 s)).setCell ⟨t5, 0, none⟩ (.bool true)).frozen? ⟨b, j, none⟩ = _
  rw [World.frozen?_setCell, World.frozen?_setCell, World.frozen?_setCell]
theorem finW_three {M : World} {t5 : Nat} (hne : t5 ≠ b) (h : PtyAt M b i x) (h5 : M.cell? ⟨t5, 0, none⟩ = some (.bool false)) : (finW M b t5 s).cell? ⟨b, 2, none⟩ = some (.int .i64 s) ∧ (finW M b t5 s).cell? ⟨b, 3, none⟩ = some (.int .u32 1) ∧ (finW M b t5 s).cell? ⟨b, 4, none⟩ = some (.int .i32 0) ∧ (finW M b t5 s).cell? ⟨t5, 0, none⟩ = some (.bool true) := by
  have n5 : ∀ k : Nat, (⟨t5, 0, none⟩ : Addr) ≠ ⟨b, k, none⟩ := fun k e => hne (congrArg Addr.block e)
  have n6 : ∀ k : Nat, (⟨b, k, none⟩ : Addr) ≠ ⟨t5, 0, none⟩ := fun k e => hne (congrArg Addr.block e).symm
  have ne : ∀ k j : Nat, k ≠ j → (⟨b, k, none⟩ : Addr) ≠ ⟨b, j, none⟩ := fun k j hk e => hk (congrArg Addr.off e)
  obtain ⟨M1, e1⟩ : ∃ M1, ((M.setCell ⟨b, 3 + 1, none⟩ (.int .i32 1)).setCell ⟨b, 2, none⟩ (.int .i64 s)).setCell ⟨t5, 0, none⟩ (.bool true) = M1 := ⟨_, rfl⟩
  have a2 : M1.cell? ⟨b, 2, none⟩ = some (.int .i64 s) := by
    rw [← e1, World.cell?_setCell_other _ _ _ _ (n5 2)]
    exact World.cell?_setCell_same _ _ _ (u := .int .i64 x.st) (by rw [World.cell?_setCell_other _ _ _ _ (ne 4 2 (by decide))]; exact h.c2)
  have a3 : M1.cell? ⟨b, 3, none⟩ = some (.int .u32 (dnP x)) := by
    rw [← e1, World.cell?_setCell_other _ _ _ _ (n5 3), World.cell?_setCell_other _ _ _ _ (ne 2 3 (by decide)), World.cell?_setCell_other _ _ _ _ (ne 4 3 (by decide))]
    exact h.c3
  have a4 : M1.cell? ⟨b, 4, none⟩ = some (.int .i32 1) := by
    rw [← e1, World.cell?_setCell_other _ _ _ _ (n5 4), World.cell?_setCell_other _ _ _ _ (ne 2 4 (by decide))]
    exact World.cell?_setCell_same _ _ _ h.c4
  have a5 : M1.cell? ⟨t5, 0, none⟩ = some (.bool true) := by
    rw [← e1]
    exact World.cell?_setCell_same _ _ _ (u := .bool false) (by rw [World.cell?_setCell_other _ _ _ _ (n6 2), World.cell?_setCell_other _ _ _ _ (n6 4)]; exact h5)
  unfold finW
  rw [e1]
  refine ⟨?_, ?_, ?_, ?_⟩
  · rw [World.cell?_setCell_other _ _ _ _ (ne 4 2 (by decide)), World.cell?_setCell_other _ _ _ _ (ne 3 2 (by decide))]; exact a2
  · rw [World.cell?_setCell_other _ _ _ _ (ne 4 3 (by decide))]
    exact World.cell?_setCell_same _ _ _ (u := .int .u32 (dnP x)) a3
  · exact World.cell?_setCell_same _ _ _ (u := .int .i32 1) (by rw [World.cell?_setCell_other _ _ _ _ (ne 3 4 (by decide))]; exact a4)
  · rw [World.cell?_setCell_other _ _ _ _ (n6 4), World.cell?_setCell_other _ _ _ _ (n6 3)]; exact a5
set_option maxRecDepth 100000 in
theorem finish_first (h : PtyAt w b i x) (hx : x.st ≤ 2) (hs : ¬ s ≤ 2) : Calls Tryd.prog 29 #[.pointer (some ⟨b, 0, none⟩), .int .i64 s] w fun e w' => e = .returned (.bool true) ∧ PtyAt w' b i { x with st := s } ∧ Keep (fun g => g = b) w w' := by
  obtain ⟨M, eM, m2, m3, m5, f5, kM, sM⟩ := boxes3 w b s
  have bl := h.lt
  have hM := h.keep kM id
  have hne : w.heap.size + 2 ≠ b := by omega
  have d0 : dnP x = 0 := if_pos hx
  have c3 := hM.c3
  rw [d0] at c3
  have kl : Keep (fun g => g = b) M (M.setCell ⟨b, 3 + 1, none⟩ (.int .i32 1)) := keep_one M ⟨b, 4, none⟩ _
  have on : Calls Tryd.prog 42 #[.pointer (some ⟨b, 3, none⟩), .func (.func 43) #[] #[.pointer (some ⟨w.heap.size + 1, 0, none⟩), .pointer (some ⟨w.heap.size, 0, none⟩), .pointer (some ⟨w.heap.size + 2, 0, none⟩)]] M (OnceDid (fun w2 => w2 = ((M.setCell ⟨b, 3 + 1, none⟩ (.int .i32 1)).setCell ⟨b, 2, none⟩ (.int .i64 s)).setCell ⟨w.heap.size + 2, 0, none⟩ (.bool true)) b 3) := by
    refine once_firstB b 3 _ _ M c3 hM.c4 (hM.fz 4) ?_
    refine (finish1_any (w.heap.size) (w.heap.size + 1) (w.heap.size + 2) b (o := .int .i64 x.st) (kl.cell m3 (by show ¬ w.heap.size + 1 = b; omega)) (kl.cell m2 (by show ¬ w.heap.size = b; omega)) (kl.cell m5 (by show ¬ w.heap.size + 2 = b; omega)) (by rw [World.frozen?_setCell]; exact f5) (by rw [World.cell?_setCell_other _ _ _ _ (by simp)]; exact hM.c2) (by rw [World.frozen?_setCell]; exact hM.fz 2) hne).mono ?_
    rintro e w' ⟨rfl, rfl⟩
    have n5 : ∀ k : Nat, (⟨w.heap.size + 2, 0, none⟩ : Addr) ≠ ⟨b, k, none⟩ := fun k e => hne (congrArg Addr.block e)
    refine ⟨rfl, rfl, ?_, ?_, ?_, ?_⟩
    · rw [World.cell?_setCell_other _ _ _ _ (n5 3), World.cell?_setCell_other _ _ _ _ (by simp), World.cell?_setCell_other _ _ _ _ (by simp)]; exact c3
    · rw [World.cell?_setCell_other _ _ _ _ (n5 _), World.cell?_setCell_other _ _ _ _ (by simp)]; exact World.cell?_setCell_same _ _ _ hM.c4
    · rw [World.frozen?_setCell, World.frozen?_setCell, World.frozen?_setCell]; exact hM.fz 3
    · rw [World.frozen?_setCell, World.frozen?_setCell, World.frozen?_setCell]; exact hM.fz _
  obtain ⟨f2, f3, f4, f6⟩ := finW_three (s := s) hne hM m5
  have kF := finW_keep M b (w.heap.size + 2) s
  have far := fun j hj => finW_far (M := M) (b := b) (t5 := w.heap.size + 2) (j := j) (s := s) hne hj
  have fz := fun j => finW_fz M b (w.heap.size + 2) j s
  obtain ⟨F, eF⟩ : ∃ F, finW M b (w.heap.size + 2) s = F := ⟨_, rfl⟩
  rw [eF] at f2 f3 f4 f6 kF
  simp only [eF] at far fz
  have sets : ∀ {o : Nat} {P : Nat → Prop}, 6 ≤ o → SetAt M b o P → SetAt F b o P := fun ho hS => ⟨fun i hi => (far _ (by omega)).trans (hS.cell i hi), fun i => (fz i).trans (hS.fz i)⟩
  have new : PtyAt F b i { x with st := s } := ⟨(far 0 (by omega)).trans hM.c0, (far 1 (by omega)).trans hM.c1, f2, by rw [f3]; unfold dnP; rw [if_neg hs], f4, sets (by omega) hM.s1, sets (by omega) hM.s2, sets (by omega) hM.s3⟩
  have kw : Keep (fun g => g = b) w F := by
    have a1 : Keep (fun g => g = b ∨ w.heap.size ≤ g) w F := (kM.mono fun _ e => e.elim).trans (kF.mono fun g e => by
      rcases e with e | e
      · exact .inl e
      · exact .inr (by omega))
    exact ⟨a1.os, a1.tape, a1.output, a1.size, fun g hg hn => a1.block g hg fun c => by
      rcases c with c | c
      · exact hn c
      · omega⟩
  have NEW := Lib.hid new
  have KW := Lib.hid kw
  have EF := Lib.hid eF
  clear kF far fz sets new kw eF f2 f3 f4 h hM c3 kl kM m3 m5 f5 d0
  go_enter Tryd.func29, Tryd.ntmps29
  go_wp2_with fail
  refine on.mono ?_
  rintro e w' ⟨rfl, w2, rfl, rfl⟩
  have e9 : ((((M.setCell ⟨b, 3 + 1, none⟩ (.int .i32 1)).setCell ⟨b, 2, none⟩ (.int .i64 s)).setCell ⟨w.heap.size + 2, 0, none⟩ (.bool true)).drew.setCell ⟨b, 3, none⟩ (.int .u32 1)).setCell ⟨b, 3 + 1, none⟩ (.int .i32 0) = F := EF.out
  rw [e9]
  clear e9 on EF
  go_wp2
  go_ret
  exact ⟨rfl, NEW.out, KW.out⟩
set_option maxRecDepth 100000 in
theorem finish_done (h : PtyAt w b i x) (hx : ¬ x.st ≤ 2) : Calls Tryd.prog 29 #[.pointer (some ⟨b, 0, none⟩), .int .i64 s] w fun e w' => e = .returned (.bool false) ∧ Keep (fun _ => False) w w' := by
  obtain ⟨M, eM, m2, m3, m5, f5, kM, sM⟩ := boxes3 w b s
  have hM := h.keep kM id
  have d0 : dnP x = 1 := if_neg hx
  have c3 := hM.c3
  rw [d0] at c3
  have on := once_done b 3 (.func (.func 43) #[] #[.pointer (some ⟨w.heap.size + 1, 0, none⟩), .pointer (some ⟨w.heap.size, 0, none⟩), .pointer (some ⟨w.heap.size + 2, 0, none⟩)]) M c3
  have KW := Lib.hid kM
  clear h hM kM m3 f5 d0 c3
  go_enter Tryd.func29, Tryd.ntmps29
  go_wp2_with fail
  refine on.mono ?_
  rintro e w' ⟨rfl, rfl⟩
  clear on eM
  go_wp2
  go_ret
  exact ⟨rfl, KW.out⟩
end
end Go.Proofs.YtjobphjpfknfeaaDoor
