/- Package outcome: an Outcome in memory; Tell, Get, Count, New. Condition: the Once's lock is free, as it always is between calls. -/
import Derived.Test.YtamahfpfminhoaaOcA
namespace Go.Proofs.Ytamahfpfminhoaa
open Go.ChangeShapes Go.WideShapes Go.ChangeAt Go.RowKit
set_option linter.unusedVariables false

/-- What is told of a transaction's end, and how often it has been tried. -/
structure OcI where
  st : Int
  rs : Int
  told : Bool
  n : Nat
def OcI.tell (s : OcI) (a r : Int) : Bool × OcI :=
  if s.told = false ∧ (a = 3 ∨ a = 4) then (true, ⟨a, r, true, s.n + 1⟩) else (false, ⟨s.st, s.rs, s.told, s.n + 1⟩)
/-- An Outcome's cells at block o. -/
structure OcAt (w : World) (o : Nat) (s : OcI) : Prop where
  c0 : w.cell? ⟨o, 0, none⟩ = some (.int .i64 s.n)
  c1 : w.cell? ⟨o, 1, none⟩ = some (.int .u32 (dnB s.told))
  c2 : w.cell? ⟨o, 2, none⟩ = some (.int .i32 0)
  c4 : w.cell? ⟨o, 4, none⟩ = some (.int .i64 s.st)
  c5 : w.cell? ⟨o, 5, none⟩ = some (.int .i64 s.rs)
  c6 : w.cell? ⟨o, 6, none⟩ = some (.int .u32 (dnB s.told))
  fz : ∀ i, w.frozen? ⟨o, i, none⟩ = false
  z : s.told = false → s.st = 0 ∧ s.rs = 0
section
variable {W w w' : World} {o : Nat} {S S' T : Nat → Prop} {s s' : OcI}
theorem OcAt.lt (h : OcAt w o s) : o < w.heap.size := lt_of_cell h.c0
theorem OcAt.keep (h : OcAt w o s) (k : Keep T w w') (hn : ¬ T o) : OcAt w' o s :=
  ⟨k.cell h.c0 hn, k.cell h.c1 hn, k.cell h.c2 hn, k.cell h.c4 hn, k.cell h.c5 hn, k.cell h.c6 hn, fun i => (k.frozen (a := ⟨o, i, none⟩) h.lt hn).trans (h.fz i), h.z⟩
theorem outcome_new (w : World) : Calls Try.prog 7 #[] w fun e w' => ∃ o, e = .returned (.pointer (some ⟨o, 0, none⟩)) ∧ OcAt w' o ⟨0, 0, false, 0⟩ ∧ Keep (fun _ => False) w w' ∧ w.heap.size ≤ o := by
  go_enter Try.func7, Try.ntmps7
  go_wp2
  go_ret
  refine ⟨_, rfl, ⟨?_, ?_, ?_, ?_, ?_, ?_, ?_, fun _ => ⟨rfl, rfl⟩⟩, (Keep.refl _ _).alloc _, Nat.le_refl _⟩
  all_goals simp [dnB]
theorem outcome_get (h : OcAt w o s) : Calls Try.prog 9 #[.pointer (some ⟨o, 0, none⟩)] w fun e w' => e = .returned (.tuple #[.int .i64 s.st, .int .i64 s.rs, .bool s.told]) ∧ Keep (fun _ => False) w w' := by
  obtain ⟨st, rs, tl, n⟩ := s
  have L := boolLoad o 6 tl w h.c6
  have d4 := h.c4
  have d5 := h.c5
  have hz := h.z
  dsimp only at d4 d5 hz ⊢
  clear h
  cases tl
  · obtain ⟨rfl, rfl⟩ := hz rfl
    clear hz
    go_enter Try.func9, Try.ntmps9
    go_wp2_with fail
    refine L.mono ?_
    rintro e w1 ⟨rfl, rfl⟩
    go_wp2
    first | go_ret3 | refine bodyPost_ret (v := .tuple #[.int .i64 0, .int .i64 0, .bool false]) (by simp [results, Try.results9, go_sem]) rfl ?_
    exact ⟨rfl, Keep.refl _ _⟩
  · clear hz
    go_enter Try.func9, Try.ntmps9
    go_wp2_with fail
    refine L.mono ?_
    rintro e w1 ⟨rfl, rfl⟩
    go_wp2
    go_quiet (fail)
    go_wp2
    refine bodyPost_ret (v := .tuple #[.int .i64 st, .int .i64 rs, .bool true]) (by simp [results, Try.results9, go_sem]) rfl ?_
    exact ⟨rfl, drewN_keep _ _ _⟩
theorem outcome_count (h : OcAt w o s) : Calls Try.prog 10 #[.pointer (some ⟨o, 0, none⟩)] w fun e w' => e = .returned (.int .i64 s.n) ∧ w = w' := by
  have L := loadInt64 ⟨o, 0, none⟩ s.n w h.c0 rfl
  obtain ⟨m, em⟩ : ∃ m : Int, (s.n : Int) = m := ⟨_, rfl⟩
  rw [em] at L ⊢
  clear em h
  go_enter Try.func10, Try.ntmps10
  go_wp2_with fail
  refine L.mono ?_
  rintro e w1 ⟨rfl, rfl⟩
  go_wp2
  go_ret
  exact ⟨rfl, rfl⟩
/-- What the closure that tells leaves. -/
def Wrote (o bd : Nat) (a r : Int) (w w' : World) : Prop :=
  w'.cell? ⟨o, 4, none⟩ = some (.int .i64 a) ∧ w'.cell? ⟨o, 5, none⟩ = some (.int .i64 r) ∧ w'.cell? ⟨o, 6, none⟩ = some (.int .u32 1) ∧ w'.cell? ⟨bd, 0, none⟩ = some (.bool true) ∧ Keep (fun g => g = o ∨ g = bd) w w' ∧ (∀ i, w'.frozen? ⟨o, i, none⟩ = false) ∧
    ∀ i u, i ≤ 3 → w.cell? ⟨o, i, none⟩ = some u → w'.cell? ⟨o, i, none⟩ = some u
theorem wrote_of {bd : Nat} {a r : Int} {M : World} (hk : Keep (fun _ => False) w M) (hM : M.cell? ⟨bd, 0, none⟩ = some (.bool false)) (hne : bd ≠ o) {u4 u5 u6 : Value} (h4 : M.cell? ⟨o, 4, none⟩ = some u4) (h5 : M.cell? ⟨o, 5, none⟩ = some u5) (h6 : M.cell? ⟨o, 6, none⟩ = some u6) (hf : ∀ i, M.frozen? ⟨o, i, none⟩ = false) (M2 : World)
    (e2 : ((M.setCell ⟨o, 4, none⟩ (.int .i64 a)).setCell ⟨o, 5, none⟩ (.int .i64 r)).drew = M2) : Wrote o bd a r w ((M2.drew.setCell ⟨o, 6, none⟩ (.int .u32 (dnB true))).setCell ⟨bd, 0, none⟩ (.bool true)) := by
  have lo : o < w.heap.size ∨ True := .inr trivial
  have k2 : Keep (fun g => g = o ∨ g = bd) M M2 := by rw [← e2]; exact (((Keep.refl (fun g => g = o ∨ g = bd) M).setCell (p := ⟨o, 4, none⟩) (.inl rfl) _).setCell (p := ⟨o, 5, none⟩) (.inl rfl) _).drew
  have no : ∀ k, (⟨bd, 0, none⟩ : Addr) ≠ ⟨o, k, none⟩ := fun k e => hne (congrArg Addr.block e)
  have no' : ∀ k, (⟨o, k, none⟩ : Addr) ≠ ⟨bd, 0, none⟩ := fun k e => hne (congrArg Addr.block e).symm
  have ne : ∀ k j : Nat, k ≠ j → (⟨o, k, none⟩ : Addr) ≠ ⟨o, j, none⟩ := fun k j hk e => hk (congrArg Addr.off e)
  have dr : ∀ (x : World) (c : Addr), x.drew.cell? c = x.cell? c := fun _ _ => rfl
  refine ⟨?_, ?_, ?_, ?_, ?_, ?_, ?_⟩
  · rw [World.cell?_setCell_other _ _ _ _ (no 4), World.cell?_setCell_other _ _ _ _ (ne 6 4 (by decide)), dr, ← e2, dr, World.cell?_setCell_other _ _ _ _ (ne 5 4 (by decide))]
    exact World.cell?_setCell_same _ _ _ h4
  · rw [World.cell?_setCell_other _ _ _ _ (no 5), World.cell?_setCell_other _ _ _ _ (ne 6 5 (by decide)), dr, ← e2, dr]
    exact World.cell?_setCell_same _ _ _ (u := u5) (by rw [World.cell?_setCell_other _ _ _ _ (ne 4 5 (by decide))]; exact h5)
  · rw [World.cell?_setCell_other _ _ _ _ (no 6)]
    exact World.cell?_setCell_same _ _ _ (u := u6) (by rw [dr, ← e2, dr, World.cell?_setCell_other _ _ _ _ (ne 5 6 (by decide)), World.cell?_setCell_other _ _ _ _ (ne 4 6 (by decide))]; exact h6)
  · exact World.cell?_setCell_same _ _ _ (u := .bool false) (by rw [World.cell?_setCell_other _ _ _ _ (no' 6), dr, ← e2, dr, World.cell?_setCell_other _ _ _ _ (no' 5), World.cell?_setCell_other _ _ _ _ (no' 4)]; exact hM)
  · exact (((hk.mono fun _ e => e.elim).trans k2).drew.setCell (p := ⟨o, 6, none⟩) (.inl rfl) _).setCell (p := ⟨bd, 0, none⟩) (.inr rfl) _
  · intro i
    rw [World.frozen?_setCell, World.frozen?_setCell]
    show M2.frozen? _ = false
    rw [← e2]
    show ((M.setCell ⟨o, 4, none⟩ (.int .i64 a)).setCell ⟨o, 5, none⟩ (.int .i64 r)).frozen? _ = false
    rw [World.frozen?_setCell, World.frozen?_setCell]
    exact hf i
  · intro i u hi hu
    have hlt := lt_of_cell hu
    rw [World.cell?_setCell_other _ _ _ _ (no i), World.cell?_setCell_other _ _ _ _ (ne 6 i (by omega)), dr, ← e2, dr, World.cell?_setCell_other _ _ _ _ (ne 5 i (by omega)), World.cell?_setCell_other _ _ _ _ (ne 4 i (by omega))]
    exact hk.cell hu id
set_option maxRecDepth 100000 in
theorem tell1_any (bs br bo bd : Nat) (a r : Int) (h0 : w.cell? ⟨bs, 0, none⟩ = some (.int .i64 a)) (h1 : w.cell? ⟨br, 0, none⟩ = some (.int .i64 r)) (h2 : w.cell? ⟨bo, 0, none⟩ = some (.pointer (some ⟨o, 0, none⟩))) (h3 : w.cell? ⟨bd, 0, none⟩ = some (.bool false)) (f3 : w.frozen? ⟨bd, 0, none⟩ = false)
    {u4 u5 u6 : Value} (h4 : w.cell? ⟨o, 4, none⟩ = some u4) (h5 : w.cell? ⟨o, 5, none⟩ = some u5) (h6 : w.cell? ⟨o, 6, none⟩ = some u6) (hf : ∀ i, w.frozen? ⟨o, i, none⟩ = false) (hne : bd ≠ o) (hno : bo ≠ o) :
    Calls Try.prog 28 #[.pointer (some ⟨bs, 0, none⟩), .pointer (some ⟨br, 0, none⟩), .pointer (some ⟨bo, 0, none⟩), .pointer (some ⟨bd, 0, none⟩)] w fun e w' => e = .returned (.tuple #[]) ∧ Wrote o bd a r w w' := by
  have f4 := hf 4
  have f5 := hf 5
  have f6 := hf 6
  have HF := Lib.hid hf
  clear hf
  go_enter Try.func28, Try.ntmps28
  go_wp2_with fail
  go_region
  obtain ⟨M2, e2⟩ : ∃ M2, ((w.setCell ⟨o, 4, none⟩ (.int .i64 a)).setCell ⟨o, 5, none⟩ (.int .i64 r)).drew = M2 := ⟨_, rfl⟩
  have W := wrote_of (a := a) (r := r) (Keep.refl _ w) h3 hne h4 h5 h6 HF.out M2 e2
  have k2 : Keep (fun g => g = o) w M2 := by rw [← e2]; exact (((Keep.refl (fun g => g = o) w).setCell (p := ⟨o, 4, none⟩) rfl _).setCell (p := ⟨o, 5, none⟩) rfl _).drew
  have b2 : M2.cell? ⟨bo, 0, none⟩ = some (.pointer (some ⟨o, 0, none⟩)) := k2.cell h2 hno
  have b3 : M2.cell? ⟨bd, 0, none⟩ = some (.bool false) := k2.cell h3 hne
  have g3 : M2.frozen? ⟨bd, 0, none⟩ = false := (k2.frozen (a := ⟨bd, 0, none⟩) (lt_of_cell h3) hne).trans f3
  have b6 : M2.cell? ⟨o, 6, none⟩ = some u6 := by
    rw [← e2]
    show ((w.setCell ⟨o, 4, none⟩ (.int .i64 a)).setCell ⟨o, 5, none⟩ (.int .i64 r)).cell? _ = _
    rw [World.cell?_setCell_other _ _ _ _ (by simp), World.cell?_setCell_other _ _ _ _ (by simp)]
    exact h6
  have g6 : M2.frozen? ⟨o, 6, none⟩ = false := by
    rw [← e2]
    show ((w.setCell ⟨o, 4, none⟩ (.int .i64 a)).setCell ⟨o, 5, none⟩ (.int .i64 r)).frozen? _ = _
    rw [World.frozen?_setCell, World.frozen?_setCell]
    exact f6
  rw [e2]
  have HW := Lib.hid W
  clear W e2 h0 h1 h2 h3 h4 h5 h6 f4 f5 f6 HF f3
  have BS := boolStore o 6 true u6 M2 b6 g6
  have c3 : (M2.drew.setCell ⟨o, 6, none⟩ (.int .u32 (dnB true))).cell? ⟨bd, 0, none⟩ = some (.bool false) := (World.cell?_setCell_other _ _ _ _ (fun e => hne (congrArg Addr.block e).symm)).trans b3
  have d3 : (M2.drew.setCell ⟨o, 6, none⟩ (.int .u32 (dnB true))).frozen? ⟨bd, 0, none⟩ = false := by rw [World.frozen?_setCell]; exact g3
  clear b3 g3 b6 g6
  go_wp2_with fail
  refine BS.mono ?_
  rintro e w1 ⟨rfl, rfl⟩
  obtain ⟨M3, e3⟩ : ∃ M3, M2.drew.setCell ⟨o, 6, none⟩ (.int .u32 (dnB true)) = M3 := ⟨_, rfl⟩
  rw [e3] at c3 d3 HW ⊢
  clear e3 b2 BS
  go_wp2
  go_end0
  exact ⟨rfl, HW.out⟩
/-- The three parameters of Tell, in blocks of their own. -/
theorem boxesT (w : World) (o : Nat) (a r : Int) : ∃ M, (((w.alloc (.cells #[.pointer (some ⟨o, 0, none⟩)] 22)).alloc (.cells #[.int .i64 a] 3)).alloc (.cells #[.int .i64 r] 3)) = M ∧
    M.cell? ⟨w.heap.size, 0, none⟩ = some (.pointer (some ⟨o, 0, none⟩)) ∧ M.cell? ⟨w.heap.size + 1, 0, none⟩ = some (.int .i64 a) ∧ M.cell? ⟨w.heap.size + 1 + 1, 0, none⟩ = some (.int .i64 r) ∧ Keep (fun _ => False) w M ∧ M.heap.size = w.heap.size + 3 := by
  obtain ⟨w1, e1⟩ : ∃ w1, w.alloc (.cells #[.pointer (some ⟨o, 0, none⟩)] 22) = w1 := ⟨_, rfl⟩
  have s1 : w1.heap.size = w.heap.size + 1 := by rw [← e1]; simp
  have a0 : w1.cell? ⟨w.heap.size, 0, none⟩ = some (.pointer (some ⟨o, 0, none⟩)) := by rw [← e1]; simp
  have k1 : Keep (fun _ => False) w w1 := by rw [← e1]; exact (Keep.refl _ _).alloc _
  rw [e1]
  obtain ⟨w2, e2⟩ : ∃ w2, w1.alloc (.cells #[.int .i64 a] 3) = w2 := ⟨_, rfl⟩
  have s2 : w2.heap.size = w.heap.size + 1 + 1 := by rw [← e2, World.size_alloc, s1]
  have a1 : w2.cell? ⟨w.heap.size + 1, 0, none⟩ = some (.int .i64 a) := by rw [← e2, ← s1]; simp
  have k2 : Keep (fun _ => False) w1 w2 := by rw [← e2]; exact (Keep.refl _ _).alloc _
  rw [e2]
  obtain ⟨w3, e3⟩ : ∃ w3, w2.alloc (.cells #[.int .i64 r] 3) = w3 := ⟨_, rfl⟩
  have s3 : w3.heap.size = w.heap.size + 3 := by rw [← e3, World.size_alloc, s2]
  have a2 : w3.cell? ⟨w.heap.size + 1 + 1, 0, none⟩ = some (.int .i64 r) := by rw [← e3, ← s2]; simp
  have k3 : Keep (fun _ => False) w2 w3 := by rw [← e3]; exact (Keep.refl _ _).alloc _
  exact ⟨_, e3, k3.cell (k2.cell a0 id) id, k3.cell a1 id, a2, (k1.trans k2).trans k3, s3⟩
theorem box1 (w : World) (v : Value) (t : TypeId) : ∃ M, (w.alloc (.cells #[v] t)).setCell ⟨w.heap.size, 0, none⟩ v = M ∧ M.cell? ⟨w.heap.size, 0, none⟩ = some v ∧ M.frozen? ⟨w.heap.size, 0, none⟩ = false ∧ Keep (fun _ => False) w M ∧ M.heap.size = w.heap.size + 1 := by
  obtain ⟨w1, e1⟩ : ∃ w1, w.alloc (.cells #[v] t) = w1 := ⟨_, rfl⟩
  have s1 : w1.heap.size = w.heap.size + 1 := by rw [← e1]; simp
  have a0 : w1.cell? ⟨w.heap.size, 0, none⟩ = some v := by rw [← e1]; simp
  have f0 : w1.frozen? ⟨w.heap.size, 0, none⟩ = false := by rw [← e1]; simp
  have k1 : Keep (fun _ => False) w w1 := by rw [← e1]; exact (Keep.refl _ _).alloc _
  rw [e1]
  exact ⟨_, rfl, World.cell?_setCell_same _ _ _ a0, by rw [World.frozen?_setCell]; exact f0, k1.older (keep_one w1 ⟨w.heap.size, 0, none⟩ _) (fun j e => by have e : j = w.heap.size := e; omega), by rw [← s1]; simp [World.setCell]⟩
theorem OcAt.count (h : OcAt w o s) {M1 : World} (e1 : w.setCell ⟨o, 0, none⟩ (.int .i64 (s.n + 1 : Nat)) = M1) : OcAt M1 o ⟨s.st, s.rs, s.told, s.n + 1⟩ ∧ Keep (fun g => g = o) w M1 := by
  have ne : ∀ k j : Nat, k ≠ j → (⟨o, k, none⟩ : Addr) ≠ ⟨o, j, none⟩ := fun k j hk e => hk (congrArg Addr.off e)
  subst e1
  exact ⟨⟨World.cell?_setCell_same _ _ _ h.c0, (World.cell?_setCell_other _ _ _ _ (ne 0 1 (by decide))).trans h.c1, (World.cell?_setCell_other _ _ _ _ (ne 0 2 (by decide))).trans h.c2, (World.cell?_setCell_other _ _ _ _ (ne 0 4 (by decide))).trans h.c4, (World.cell?_setCell_other _ _ _ _ (ne 0 5 (by decide))).trans h.c5, (World.cell?_setCell_other _ _ _ _ (ne 0 6 (by decide))).trans h.c6, fun i => by rw [World.frozen?_setCell]; exact h.fz i, h.z⟩, keep_one w ⟨o, 0, none⟩ _⟩
set_option maxRecDepth 100000 in
theorem tell_bad (h : OcAt w o s) (hn : s.n ≤ 1000) (a r : Int) (h3 : a ≠ 3) (h4 : a ≠ 4) :
    Calls Try.prog 8 #[.pointer (some ⟨o, 0, none⟩), .int .i64 a, .int .i64 r] w fun e w' => e = .returned (.bool false) ∧ OcAt w' o ⟨s.st, s.rs, s.told, s.n + 1⟩ ∧ Keep (fun g => g = o) w w' := by
  obtain ⟨M, eM, m0, m1, m2, kM, sM⟩ := boxesT w o a r; have hM := h.keep kM id; obtain ⟨M1, e1⟩ : ∃ M1, M.setCell ⟨o, 0, none⟩ (.int .i64 (s.n + 1 : Nat)) = M1 := ⟨_, rfl⟩; obtain ⟨h1, k1⟩ := hM.count e1; have hlt := h.lt; have y0 := k1.cell m0 (show ¬ w.heap.size = o by omega); have y1 := k1.cell m1 (show ¬ w.heap.size + 1 = o by omega); have y2 := k1.cell m2 (show ¬ w.heap.size + 1 + 1 = o by omega); have AD : Calls Try.prog 26 #[.pointer (some ⟨o, 0, none⟩), .int .i64 1] M fun e w' => e = .returned (.int .i64 (s.n + 1 : Nat)) ∧ w' = M1 := ((addInt64 ⟨o, 0, none⟩ s.n 1 (s.n + 1 : Nat) M hM.c0 (hM.fz 0) rfl (IntWalk.i64_in _ (by omega))).mono (fun e w' x => ⟨x.1, x.2.trans e1⟩)); have sz1 : M1.heap.size = w.heap.size + 3 := (by rw [← e1, ← sM]; simp [World.setCell]); have kw : Keep (fun g => g = o) w M1 := ((kM.mono fun _ e => e.elim).trans k1)
  have KW := Lib.hid kw; have H1 := Lib.hid h1; have SZ := Lib.hid sz1; clear kw h1 sz1 h hM k1 e1 kM sM
  clear m1 m2 y0 y2
  have q3 : (a != 3) = true := by simpa using h3
  have q4 : (a != 4) = true := by simpa using h4
  go_enter Try.func8, Try.ntmps8
  go_wp2_with fail
  refine AD.mono ?_
  rintro e w1 ⟨rfl, rfl⟩
  clear AD eM
  go_wp2
  go_ret
  exact ⟨rfl, H1.out, KW.out⟩
set_option maxRecDepth 100000 in
theorem tell_late (h : OcAt w o s) (hn : s.n ≤ 1000) (a r : Int) (ha : a = 3 ∨ a = 4) (ht : s.told = true) :
    Calls Try.prog 8 #[.pointer (some ⟨o, 0, none⟩), .int .i64 a, .int .i64 r] w fun e w' => e = .returned (.bool false) ∧ OcAt w' o ⟨s.st, s.rs, s.told, s.n + 1⟩ ∧ Keep (fun g => g = o) w w' := by
  obtain ⟨M, eM, m0, m1, m2, kM, sM⟩ := boxesT w o a r; have hM := h.keep kM id; obtain ⟨M1, e1⟩ : ∃ M1, M.setCell ⟨o, 0, none⟩ (.int .i64 (s.n + 1 : Nat)) = M1 := ⟨_, rfl⟩; obtain ⟨h1, k1⟩ := hM.count e1; have hlt := h.lt; have y0 := k1.cell m0 (show ¬ w.heap.size = o by omega); have y1 := k1.cell m1 (show ¬ w.heap.size + 1 = o by omega); have y2 := k1.cell m2 (show ¬ w.heap.size + 1 + 1 = o by omega); have AD : Calls Try.prog 26 #[.pointer (some ⟨o, 0, none⟩), .int .i64 1] M fun e w' => e = .returned (.int .i64 (s.n + 1 : Nat)) ∧ w' = M1 := ((addInt64 ⟨o, 0, none⟩ s.n 1 (s.n + 1 : Nat) M hM.c0 (hM.fz 0) rfl (IntWalk.i64_in _ (by omega))).mono (fun e w' x => ⟨x.1, x.2.trans e1⟩)); have sz1 : M1.heap.size = w.heap.size + 3 := (by rw [← e1, ← sM]; simp [World.setCell]); have kw : Keep (fun g => g = o) w M1 := ((kM.mono fun _ e => e.elim).trans k1)
  obtain ⟨M2, e2, b2, f2, k2, s2⟩ := box1 M1 (.bool false) 4
  have z0 := k2.cell y0 id
  have h2 := h1.keep k2 id
  have c1 := h2.c1
  rw [show dnB s.told = 1 by rw [ht]; rfl] at c1
  have on := once_done o 1 (.func (.func 28) #[] #[.pointer (some ⟨w.heap.size + 1, 0, none⟩), .pointer (some ⟨w.heap.size + 1 + 1, 0, none⟩), .pointer (some ⟨w.heap.size, 0, none⟩), .pointer (some ⟨M1.heap.size, 0, none⟩)]) M2 c1
  have H2 := Lib.hid h2
  have K2 := Lib.hid k2
  have S2 := Lib.hid s2
  have KW := Lib.hid kw; have H1 := Lib.hid h1; have SZ := Lib.hid sz1; clear kw h1 sz1 h hM k1 e1 kM sM
  clear m1 m2 c1 f2 h2 k2 s2 ht y0 y2
  rcases ha with rfl | rfl
  all_goals
    go_enter Try.func8, Try.ntmps8
    go_wp2_with fail
    refine AD.mono ?_
    rintro e w1 ⟨rfl, rfl⟩
    clear AD eM
    go_wp2_with fail
    refine on.mono ?_
    rintro e w2 ⟨rfl, rfl⟩
    clear on e2
    go_wp2
    go_ret
    exact ⟨rfl, H2.out, KW.out.trans (K2.out.mono fun _ e => e.elim)⟩
set_option maxRecDepth 100000 in
theorem tell_now (h : OcAt w o s) (hn : s.n ≤ 1000) (a r : Int) (ha : a = 3 ∨ a = 4) (ht : s.told = false) :
    Calls Try.prog 8 #[.pointer (some ⟨o, 0, none⟩), .int .i64 a, .int .i64 r] w fun e w' => e = .returned (.bool true) ∧ OcAt w' o ⟨a, r, true, s.n + 1⟩ ∧ Keep (fun g => g = o) w w' := by
  obtain ⟨M, eM, m0, m1, m2, kM, sM⟩ := boxesT w o a r; have hM := h.keep kM id; obtain ⟨M1, e1⟩ : ∃ M1, M.setCell ⟨o, 0, none⟩ (.int .i64 (s.n + 1 : Nat)) = M1 := ⟨_, rfl⟩; obtain ⟨h1, k1⟩ := hM.count e1; have hlt := h.lt; have y0 := k1.cell m0 (show ¬ w.heap.size = o by omega); have y1 := k1.cell m1 (show ¬ w.heap.size + 1 = o by omega); have y2 := k1.cell m2 (show ¬ w.heap.size + 1 + 1 = o by omega); have AD : Calls Try.prog 26 #[.pointer (some ⟨o, 0, none⟩), .int .i64 1] M fun e w' => e = .returned (.int .i64 (s.n + 1 : Nat)) ∧ w' = M1 := ((addInt64 ⟨o, 0, none⟩ s.n 1 (s.n + 1 : Nat) M hM.c0 (hM.fz 0) rfl (IntWalk.i64_in _ (by omega))).mono (fun e w' x => ⟨x.1, x.2.trans e1⟩)); have sz1 : M1.heap.size = w.heap.size + 3 := (by rw [← e1, ← sM]; simp [World.setCell]); have kw : Keep (fun g => g = o) w M1 := ((kM.mono fun _ e => e.elim).trans k1)
  obtain ⟨M2, e2, b2, f2, k2, s2⟩ := box1 M1 (.bool false) 4
  have z0 := k2.cell y0 id
  have h2 := h1.keep k2 id
  have c1 := h2.c1
  rw [show dnB s.told = 0 by rw [ht]; rfl] at c1
  have lo := h2.lt
  have no : M1.heap.size ≠ o := by omega
  have ne : ∀ k j : Nat, k ≠ j → (⟨o, k, none⟩ : Addr) ≠ ⟨o, j, none⟩ := fun k j hk e => hk (congrArg Addr.off e)
  obtain ⟨M3, e3⟩ : ∃ M3, M2.setCell ⟨o, 1 + 1, none⟩ (.int .i32 1) = M3 := ⟨_, rfl⟩
  have k3 : Keep (fun g => g = o) M2 M3 := by rw [← e3]; exact keep_one M2 ⟨o, 1 + 1, none⟩ _
  have at3 : ∀ (i : Nat) (u : Value), i ≠ 2 → M2.cell? ⟨o, i, none⟩ = some u → M3.cell? ⟨o, i, none⟩ = some u := fun i u hi hu => by rw [← e3, World.cell?_setCell_other _ _ _ _ (ne _ i (by omega))]; exact hu
  have fz3 : ∀ i, M3.frozen? ⟨o, i, none⟩ = false := fun i => by rw [← e3, World.frozen?_setCell]; exact h2.fz i
  have T := tell1_any (w := M3) (o := o) (w.heap.size + 1) (w.heap.size + 1 + 1) w.heap.size M1.heap.size a r (k3.cell (k2.cell y1 id) (show ¬ w.heap.size + 1 = o by omega)) (k3.cell (k2.cell y2 id) (show ¬ w.heap.size + 1 + 1 = o by omega)) (k3.cell (k2.cell y0 id) (show ¬ w.heap.size = o by omega)) (k3.cell b2 no) ((k3.frozen (a := ⟨M1.heap.size, 0, none⟩) (lt_of_cell b2) no).trans f2) (at3 4 _ (by decide) h2.c4) (at3 5 _ (by decide) h2.c5) (at3 6 _ (by decide) h2.c6) fz3 no (by omega)
  have on : Calls Try.prog 27 #[.pointer (some ⟨o, 1, none⟩), .func (.func 28) #[] #[.pointer (some ⟨w.heap.size + 1, 0, none⟩), .pointer (some ⟨w.heap.size + 1 + 1, 0, none⟩), .pointer (some ⟨w.heap.size, 0, none⟩), .pointer (some ⟨M1.heap.size, 0, none⟩)]] M2 (OnceDid (Wrote o M1.heap.size a r M3) o 1) := by
    refine once_firstT o 1 _ (Wrote o M1.heap.size a r M3) M2 c1 h2.c2 (h2.fz 2) ?_
    rw [e3]
    refine T.mono ?_
    rintro e w' ⟨rfl, W⟩
    exact ⟨rfl, W, W.2.2.2.2.2.2 1 _ (by decide) (at3 1 _ (by decide) c1), W.2.2.2.2.2.2 2 _ (by decide) (by rw [← e3]; exact World.cell?_setCell_same _ _ _ h2.c2), W.2.2.2.2.2.1 1, W.2.2.2.2.2.1 2⟩
  have fin : ∀ w2, Wrote o M1.heap.size a r M3 w2 → ∃ F, (w2.drew.setCell ⟨o, 1, none⟩ (.int .u32 1)).setCell ⟨o, 1 + 1, none⟩ (.int .i32 0) = F ∧ OcAt F o ⟨a, r, true, s.n + 1⟩ ∧ Keep (fun g => g = o) w F ∧ F.cell? ⟨M1.heap.size, 0, none⟩ = some (.bool true) := by
    rintro w2 ⟨W4, W5, W6, Wd, Wk, Wf, Wo⟩
    have nb : ∀ k, (⟨o, k, none⟩ : Addr) ≠ ⟨M1.heap.size, 0, none⟩ := fun k e => no (congrArg Addr.block e).symm
    have dr : ∀ (x : World) (c : Addr), x.drew.cell? c = x.cell? c := fun _ _ => rfl
    have far : ∀ (i : Nat) (u : Value), i ≠ 1 → i ≠ 2 → w2.cell? ⟨o, i, none⟩ = some u → ((w2.drew.setCell ⟨o, 1, none⟩ (.int .u32 1)).setCell ⟨o, 1 + 1, none⟩ (.int .i32 0)).cell? ⟨o, i, none⟩ = some u := fun i u n1 n2 hu => by
      rw [World.cell?_setCell_other _ _ _ _ (ne _ i (by omega)), World.cell?_setCell_other _ _ _ _ (ne _ i (by omega)), dr]; exact hu
    have w1c := Wo 1 _ (by decide) (at3 1 _ (by decide) c1)
    have w2c := Wo 2 _ (by decide) (show M3.cell? ⟨o, 2, none⟩ = some (.int .i32 1) by rw [← e3]; exact World.cell?_setCell_same _ _ _ h2.c2)
    refine ⟨_, rfl, ⟨far 0 _ (by decide) (by decide) (Wo 0 _ (by decide) (at3 0 _ (by decide) h2.c0)), ?_, ?_, far 4 _ (by decide) (by decide) W4, far 5 _ (by decide) (by decide) W5, far 6 _ (by decide) (by decide) W6, fun i => ?_, fun e => by cases e⟩, ?_, ?_⟩
    · rw [World.cell?_setCell_other _ _ _ _ (ne _ 1 (by decide))]
      exact World.cell?_setCell_same _ _ _ (u := .int .u32 0) (by rw [dr]; exact w1c)
    · exact World.cell?_setCell_same _ _ _ (u := .int .i32 1) (by rw [World.cell?_setCell_other _ _ _ _ (ne _ _ (by decide)), dr]; exact w2c)
    · rw [World.frozen?_setCell, World.frozen?_setCell]; exact Wf i
    · have kA : Keep (fun g => g = o ∨ w.heap.size ≤ g) w w2 := (((kw.trans (k2.mono fun _ e => e.elim)).trans k3).mono fun _ e => .inl e).trans (Wk.mono fun g e => by
        rcases e with e | e
        · exact .inl e
        · exact .inr (by omega))
      have kB := (kA.drew.setCell (p := ⟨o, 1, none⟩) (.inl rfl) (.int .u32 1)).setCell (p := ⟨o, 1 + 1, none⟩) (.inl rfl) (.int .i32 0)
      exact ⟨kB.os, kB.tape, kB.output, kB.size, fun g hg hn => kB.block g hg fun c => by
        rcases c with c | c
        · exact hn c
        · omega⟩
    · rw [World.cell?_setCell_other _ _ _ _ (nb _), World.cell?_setCell_other _ _ _ _ (nb _), dr]; exact Wd
  have FIN := Lib.hid fin
  have KW := Lib.hid kw; have H1 := Lib.hid h1; have SZ := Lib.hid sz1; clear kw h1 sz1 h hM k1 e1 kM sM
  clear m1 m2 c1 f2 h2 k2 s2 ht fin T at3 fz3 k3 e3 b2 ne no y0 y2
  rcases ha with rfl | rfl
  all_goals
    go_enter Try.func8, Try.ntmps8
    go_wp2_with fail
    refine AD.mono ?_
    rintro e w1 ⟨rfl, rfl⟩
    clear AD eM
    go_wp2_with fail
    refine on.mono ?_
    rintro e w2 ⟨rfl, wx, hx, rfl⟩
    clear on e2
    obtain ⟨F, eF, f1, f3, f4⟩ := FIN.out wx hx
    rw [eF]
    have F1 := Lib.hid f1
    have F3 := Lib.hid f3
    clear f1 f3 eF hx z0 y1
    go_wp2
    go_ret
    exact ⟨rfl, F1.out, F3.out⟩
theorem tell_any (h : OcAt w o s) (hn : s.n ≤ 1000) (a r : Int) :
    Calls Try.prog 8 #[.pointer (some ⟨o, 0, none⟩), .int .i64 a, .int .i64 r] w fun e w' => e = .returned (.bool (s.tell a r).1) ∧ OcAt w' o (s.tell a r).2 ∧ Keep (fun g => g = o) w w' := by
  unfold OcI.tell
  by_cases hg : a = 3 ∨ a = 4
  · cases ht : s.told with
    | true =>
      have := tell_late h hn a r hg ht
      rw [if_neg (by simp)]
      rw [ht] at this
      exact this
    | false =>
      rw [if_pos ⟨rfl, hg⟩]
      exact tell_now h hn a r hg ht
  · rw [if_neg (fun e => hg e.2)]
    exact tell_bad h hn a r (fun e => hg (.inl e)) (fun e => hg (.inr e))
end
end Go.Proofs.Ytamahfpfminhoaa
