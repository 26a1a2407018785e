/- Package outcome: a Lazy in memory; Make, Done, take, try (a deferred recover that finds nothing), Get; condition: the Once's lock is free. -/
import Derived.Test.YtamahfpfminhoaaOcA
import Derived.Recover
import Derived.Laws.EntriesVeiled
import Derived.StillTailTactics
import Derived.Lib.Builder
namespace Go.Proofs.Ytamahfpfminhoaa
open Go.ChangeShapes Go.WideShapes Go.ChangeAt Go.RowKit
set_option linter.unusedVariables false

/-- A Lazy's cells at block l: its function, whether the Once is done, whether the function was called, where its value lies. -/
structure LzAt (w : World) (l : Nat) (fv : Value) (d c : Bool) (pv : Option Addr) : Prop where
  c0 : w.cell? ⟨l, 0, none⟩ = some fv
  c1 : w.cell? ⟨l, 1, none⟩ = some (.int .u32 (dnB d))
  c2 : w.cell? ⟨l, 2, none⟩ = some (.int .i32 0)
  c4 : w.cell? ⟨l, 4, none⟩ = some (.int .u32 (dnB c))
  c5 : w.cell? ⟨l, 5, none⟩ = some (.pointer pv)
  fz : ∀ i, w.frozen? ⟨l, i, none⟩ = false
section
variable {w w' : World} {l : Nat} {fv : Value} {d c : Bool} {pv : Option Addr} {T : Nat → Prop}
theorem LzAt.lt (h : LzAt w l fv d c pv) : l < w.heap.size := lt_of_cell h.c0
theorem LzAt.keep (h : LzAt w l fv d c pv) (k : Keep T w w') (hn : ¬ T l) : LzAt w' l fv d c pv :=
  ⟨k.cell h.c0 hn, k.cell h.c1 hn, k.cell h.c2 hn, k.cell h.c4 hn, k.cell h.c5 hn, fun i => (k.frozen (a := ⟨l, i, none⟩) h.lt hn).trans (h.fz i)⟩
end
/-- What take's closure leaves. -/
def TookL (l bf : Nat) (fv : Value) (nb : Bool) (w w' : World) : Prop :=
  w'.cell? ⟨l, 0, none⟩ = some .nilFunc ∧ w'.cell? ⟨l, 4, none⟩ = some (.int .u32 (dnB nb)) ∧ w'.cell? ⟨bf, 0, none⟩ = some fv ∧ Keep (fun g => g = l ∨ g = bf) w w' ∧ (∀ i, w'.frozen? ⟨l, i, none⟩ = false) ∧ w'.frozen? ⟨bf, 0, none⟩ = false ∧
    ∀ i u, i ≠ 0 → i ≠ 4 → w.cell? ⟨l, i, none⟩ = some u → w'.cell? ⟨l, i, none⟩ = some u
theorem tookL_of {w M2 : World} {l bf : Nat} {fv u0 u4 : Value} {nb : Bool} (h0 : w.cell? ⟨l, 0, none⟩ = some u0) (h4 : w.cell? ⟨l, 4, none⟩ = some u4) (hb : w.cell? ⟨bf, 0, none⟩ = some .nilFunc) (hf : ∀ i, w.frozen? ⟨l, i, none⟩ = false) (fb : w.frozen? ⟨bf, 0, none⟩ = false) (hne : bf ≠ l)
    (e2 : ((w.setCell ⟨bf, 0, none⟩ fv).setCell ⟨l, 0, none⟩ .nilFunc).drew = M2) : TookL l bf fv nb w (M2.drew.drew.setCell ⟨l, 4, none⟩ (.int .u32 (dnB nb))) := by
  have no : ∀ k, (⟨bf, 0, none⟩ : Addr) ≠ ⟨l, k, none⟩ := fun k e => hne (congrArg Addr.block e)
  have no' : ∀ k, (⟨l, k, none⟩ : Addr) ≠ ⟨bf, 0, none⟩ := fun k e => hne (congrArg Addr.block e).symm
  have ne : ∀ k j : Nat, k ≠ j → (⟨l, k, none⟩ : Addr) ≠ ⟨l, j, none⟩ := fun k j hk e => hk (congrArg Addr.off e)
  have dr : ∀ (x : World) (c : Addr), x.drew.cell? c = x.cell? c := fun _ _ => rfl
  have fr : ∀ (x : World) (c : Addr), x.drew.frozen? c = x.frozen? c := fun _ _ => rfl
  subst e2
  refine ⟨?_, ?_, ?_, ?_, ?_, ?_, ?_⟩
  · rw [World.cell?_setCell_other _ _ _ _ (ne 4 0 (by decide)), dr, dr, dr]
    exact World.cell?_setCell_same _ _ _ (u := u0) (by rw [World.cell?_setCell_other _ _ _ _ (no 0)]; exact h0)
  · exact World.cell?_setCell_same _ _ _ (u := u4) (by rw [dr, dr, dr, World.cell?_setCell_other _ _ _ _ (ne 0 4 (by decide)), World.cell?_setCell_other _ _ _ _ (no 4)]; exact h4)
  · rw [World.cell?_setCell_other _ _ _ _ (no' 4), dr, dr, dr, World.cell?_setCell_other _ _ _ _ (no' 0)]
    exact World.cell?_setCell_same _ _ _ hb
  · exact ((((Keep.refl (fun g => g = l ∨ g = bf) w).setCell (p := ⟨bf, 0, none⟩) (.inr rfl) _).setCell (p := ⟨l, 0, none⟩) (.inl rfl) _).drew).drew.drew.setCell (p := ⟨l, 4, none⟩) (.inl rfl) _
  · intro i
    rw [World.frozen?_setCell, fr, fr, fr, World.frozen?_setCell, World.frozen?_setCell]
    exact hf i
  · rw [World.frozen?_setCell, fr, fr, fr, World.frozen?_setCell, World.frozen?_setCell]
    exact fb
  · intro i u n0 n4 hu
    rw [World.cell?_setCell_other _ _ _ _ (ne 4 i (by omega)), dr, dr, dr, World.cell?_setCell_other _ _ _ _ (ne 0 i (by omega)), World.cell?_setCell_other _ _ _ _ (no i)]
    exact hu
/-- A function value, or none. -/
def IsF (fv : Value) (nb : Bool) : Prop := (fv = .nilFunc ∧ nb = false) ∨ ∃ k caps, fv = .func (.func k) #[] caps ∧ nb = true
/-- Two blocks of one's own: a pointer, and no function yet. -/
theorem boxesL (w : World) (l : Nat) (t t' : TypeId) : ∃ M, ((w.alloc (.cells #[.pointer (some ⟨l, 0, none⟩)] t)).alloc (.cells #[.nilFunc] t')) = M ∧
    M.cell? ⟨w.heap.size, 0, none⟩ = some (.pointer (some ⟨l, 0, none⟩)) ∧ M.cell? ⟨w.heap.size + 1, 0, none⟩ = some .nilFunc ∧ M.frozen? ⟨w.heap.size + 1, 0, none⟩ = false ∧ Keep (fun _ => False) w M ∧ M.heap.size = w.heap.size + 2 := by
  obtain ⟨w1, e1⟩ : ∃ w1, w.alloc (.cells #[.pointer (some ⟨l, 0, none⟩)] t) = w1 := ⟨_, rfl⟩
  have s1 : w1.heap.size = w.heap.size + 1 := by rw [← e1]; simp
  have a0 : w1.cell? ⟨w.heap.size, 0, none⟩ = some (.pointer (some ⟨l, 0, none⟩)) := by rw [← e1]; simp
  have k1 : Keep (fun _ => False) w w1 := by rw [← e1]; exact (Keep.refl _ _).alloc _
  rw [e1]
  obtain ⟨w2, e2⟩ : ∃ w2, w1.alloc (.cells #[.nilFunc] t') = w2 := ⟨_, rfl⟩
  have s2 : w2.heap.size = w.heap.size + 2 := by rw [← e2, World.size_alloc, s1]
  have a1 : w2.cell? ⟨w.heap.size + 1, 0, none⟩ = some .nilFunc := by rw [← e2, ← s1]; simp
  have f1 : w2.frozen? ⟨w.heap.size + 1, 0, none⟩ = false := by rw [← e2, ← s1]; simp
  have k2 : Keep (fun _ => False) w1 w2 := by rw [← e2]; exact (Keep.refl _ _).alloc _
  exact ⟨_, e2, k2.cell a0 id, a1, f1, k1.trans k2, s2⟩
section
variable {P : Program} {f : FuncId} {fn : Func}
theorem run_loadp (hf : P.funcs[f]? = some fn) (hname : (fn.name == "runtime.NumGoroutine") = false) (hb : fn.body.isNone = true) (hn : Extern.findNext fn = none) (he : Extern.find fn = some (Extern.Atomic.loadT .ptr))
    {a : Addr} {x : Option Addr} {w : World} (hc : w.cell? a = some (.pointer x)) : (callFunc f #[.pointer (some a)]).run P w = .ok (.value (.pointer x)) w := by
  rw [run_callFunc_extern hf hname hb hn he]
  change (Sem.run P (do Extern.Atomic.read .ptr (← asAddr (.pointer (some a)))) w).andThen _ = _
  simp [Extern.Atomic.read, asAddr, hc, Result.andThen]
theorem run_storep (hf : P.funcs[f]? = some fn) (hname : (fn.name == "runtime.NumGoroutine") = false) (hb : fn.body.isNone = true) (hn : Extern.findNext fn = none) (he : Extern.find fn = some Extern.Atomic.storeT)
    {a : Addr} {y : Option Addr} {u : Value} {w : World} (hc : w.cell? a = some u) (hz : w.frozen? a = false) : (callFunc f #[.pointer (some a), .pointer y]).run P w = .ok (.value (.tuple #[])) (w.setCell a (.pointer y)) := by
  rw [run_callFunc_extern hf hname hb hn he]
  change (Sem.run P (do
    store (← asAddr (.pointer (some a))) (.pointer y) .atomic
    pure Extern.Atomic.none_) w).andThen _ = _
  simp [asAddr, hc, hz, run_store P w a (.pointer y) .atomic rfl, Result.andThen, Extern.Atomic.none_]
end
/-- Block q holds one value v of type t. -/
def BoxV (w : World) (t : TypeId) (q : Nat) (v : Value) : Prop := w.heap[q]? = some (.cells #[v] t (0, 0))
section
variable {w w' : World} {t : TypeId} {q : Nat} {v : Value} {T : Nat → Prop}
theorem BoxV.lt (h : BoxV w t q v) : q < w.heap.size := lt_of_block h
theorem BoxV.cell (h : BoxV w t q v) : w.cell? ⟨q, 0, none⟩ = some v := by unfold BoxV at h; simp [World.cell?, h]
theorem BoxV.keep (h : BoxV w t q v) (k : Keep T w w') (hn : ¬ T q) : BoxV w' t q v := (k.block q h.lt hn).trans h
theorem BoxV.shape (h : BoxV w t q v) : w.shape? q = some (t, 1) := by unfold BoxV at h; simp [World.shape?, h]
theorem boxedV (w2 : World) (u v' : Value) (W : World) (e : (w2.alloc (.cells #[u] t)).setCell ⟨w2.heap.size, 0, none⟩ v' = W) : BoxV W t w2.heap.size v' ∧ Keep (fun _ => False) w2 W := by
  subst e
  have k : Keep (fun _ => False) w2 (w2.alloc (.cells #[u] t)) := (Keep.refl _ _).alloc _
  refine ⟨?_, k.older (keep_one _ ⟨w2.heap.size, 0, none⟩ _) (fun j e => by have e : j = w2.heap.size := e; omega)⟩
  unfold BoxV
  have h : (w2.alloc (.cells #[u] t)).heap[w2.heap.size]? = some (.cells #[u] t (0, 0)) := heap_alloc_new w2 _
  simp only [World.setCell]
  rw [Array.getElem?_modify, h]
  simp
end
/-- A Lazy's value has been made, and lies in a block of its own. -/
def GotL (w w' : World) (l : Nat) (t : TypeId) (v : Value) (R : World → World → Prop) : Prop :=
  ∃ w1 w2 q, Keep (fun g => g = l) w w1 ∧ R w1 w2 ∧ Keep (fun g => g = l) w2 w' ∧ LzAt w' l .nilFunc true true (some ⟨q, 0, none⟩) ∧ BoxV w' t q v ∧ w2.heap.size ≤ q
section
variable {w w' : World} {l : Nat} {fv : Value} {d c : Bool} {pv : Option Addr} {T : Nat → Prop}
theorem neq_funcI (k : FuncId) (caps : Array Value) (w : World) : (binOp .neq 27 (.func (.func k) #[] caps) .nilFunc).run Try.prog w = .ok (.bool true) w := by kernel_rfl
theorem neq_noneI (w : World) : (binOp .neq 27 .nilFunc .nilFunc).run Try.prog w = .ok (.bool false) w := by kernel_rfl
theorem make_anyI (w : World) (hf : ∃ nb, IsF fv nb) : Calls Try.prog 12 #[fv] w fun e w' => ∃ l, e = .returned (.pointer (some ⟨l, 0, none⟩)) ∧ LzAt w' l fv false false none ∧ Keep (fun _ => False) w w' ∧ w.heap.size ≤ l := by
  obtain ⟨nb, ⟨rfl, _⟩ | ⟨k, caps, rfl, _⟩⟩ := hf
  all_goals
    go_enter Try.func12, Try.ntmps12
    go_wp2
    go_ret
    refine ⟨_, rfl, ⟨?_, ?_, ?_, ?_, ?_, ?_⟩, (Keep.refl _ _).alloc _, Nat.le_refl _⟩
    all_goals simp [dnB]
theorem done_anyI (h : LzAt w l fv d c pv) : Calls Try.prog 17 #[.pointer (some ⟨l, 0, none⟩)] w fun e w' => e = .returned (.bool c) ∧ w = w' := by
  have L := boolLoad l 4 c w h.c4
  clear h
  go_enter Try.func17, Try.ntmps17
  go_wp2_with fail
  refine L.mono ?_
  rintro e w1 ⟨rfl, rfl⟩
  go_wp2
  go_ret
  exact ⟨rfl, rfl⟩
set_option maxRecDepth 100000 in
theorem take1_anyI (bl bf : Nat) {nb : Bool} (hF : IsF fv nb) (hl : w.cell? ⟨bl, 0, none⟩ = some (.pointer (some ⟨l, 0, none⟩))) (hb : w.cell? ⟨bf, 0, none⟩ = some .nilFunc) (fb : w.frozen? ⟨bf, 0, none⟩ = false) (h0 : w.cell? ⟨l, 0, none⟩ = some fv) {u4 : Value} (h4 : w.cell? ⟨l, 4, none⟩ = some u4) (hf : ∀ i, w.frozen? ⟨l, i, none⟩ = false) (hne : bf ≠ l) (hnl : bl ≠ l) (hnb : bl ≠ bf) :
    Calls Try.prog 53 #[.pointer (some ⟨bl, 0, none⟩), .pointer (some ⟨bf, 0, none⟩)] w fun e w' => e = .returned (.tuple #[]) ∧ TookL l bf fv nb w w' := by
  obtain ⟨M2, e2⟩ : ∃ M2, ((w.setCell ⟨bf, 0, none⟩ fv).setCell ⟨l, 0, none⟩ .nilFunc).drew = M2 := ⟨_, rfl⟩
  have W := tookL_of (nb := nb) h0 h4 hb hf fb hne e2
  have k2 : Keep (fun g => g = l ∨ g = bf) w M2 := by rw [← e2]; exact ((((Keep.refl (fun g => g = l ∨ g = bf) w).setCell (p := ⟨bf, 0, none⟩) (.inr rfl) _).setCell (p := ⟨l, 0, none⟩) (.inl rfl) _).drew)
  have b1 : M2.cell? ⟨bl, 0, none⟩ = some (.pointer (some ⟨l, 0, none⟩)) := k2.cell hl (fun e => by rcases e with e | e; exact hnl e; exact hnb e)
  have b2 : M2.cell? ⟨bf, 0, none⟩ = some fv := by
    rw [← e2]
    show ((w.setCell ⟨bf, 0, none⟩ fv).setCell ⟨l, 0, none⟩ .nilFunc).cell? _ = _
    rw [World.cell?_setCell_other _ _ _ _ (fun e => hne (congrArg Addr.block e).symm)]
    exact World.cell?_setCell_same _ _ _ hb
  have b4 : M2.cell? ⟨l, 4, none⟩ = some u4 := by
    rw [← e2]
    show ((w.setCell ⟨bf, 0, none⟩ fv).setCell ⟨l, 0, none⟩ .nilFunc).cell? _ = _
    rw [World.cell?_setCell_other _ _ _ _ (by simp), World.cell?_setCell_other _ _ _ _ (fun e => hne (congrArg Addr.block e))]
    exact h4
  have g4 : M2.frozen? ⟨l, 4, none⟩ = false := by
    rw [← e2]
    show ((w.setCell ⟨bf, 0, none⟩ fv).setCell ⟨l, 0, none⟩ .nilFunc).frozen? _ = _
    rw [World.frozen?_setCell, World.frozen?_setCell]
    exact hf 4
  have BS := boolStore l 4 nb u4 M2.drew b4 g4
  have f0 := hf 0
  have HW := Lib.hid W
  have hq1 := neq_funcI
  have hq2 := neq_noneI
  clear W k2 h4 hf b4 g4
  rcases hF with ⟨rfl, rfl⟩ | ⟨k, caps, rfl, rfl⟩
  all_goals
    go_enter Try.func53, Try.ntmps53
    go_wp2_with fail
    go_region
    clear e2 h0 f0 hl hb fb
    go_wp2_with fail
    go_still_tail 5, (by kernel_rfl)
    try refine wpStill_nil ?_
    change wpList _ _ _ _ _ M2.drew
    go_wp2_with fail
    refine BS.mono ?_
    rintro e w1 ⟨rfl, rfl⟩
    clear BS b1 b2
    go_wp2
    go_end0
    exact ⟨rfl, HW.out⟩
/-- The world behind a first take. -/
theorem took_finI {M M3 : World} {bf : Nat} {nb' : Bool} (h : LzAt M l fv false false none) (e3 : M.setCell ⟨l, 1 + 1, none⟩ (.int .i32 1) = M3) (hne : bf ≠ l) (w2 : World) (W : TookL l bf fv nb' M3 w2) :
    ∃ F, (w2.drew.setCell ⟨l, 1, none⟩ (.int .u32 1)).setCell ⟨l, 1 + 1, none⟩ (.int .i32 0) = F ∧ F.cell? ⟨bf, 0, none⟩ = some fv ∧ F.frozen? ⟨bf, 0, none⟩ = false ∧ LzAt (F.setCell ⟨bf, 0, none⟩ fv) l .nilFunc true nb' none ∧ Keep (fun g => g = l ∨ g = bf) M (F.setCell ⟨bf, 0, none⟩ fv) ∧ (F.setCell ⟨bf, 0, none⟩ fv).cell? ⟨bf, 0, none⟩ = some fv := by
  obtain ⟨W0, W4, Wb, Wk, Wf, Wg, Wo⟩ := W
  have ne : ∀ k j : Nat, k ≠ j → (⟨l, k, none⟩ : Addr) ≠ ⟨l, j, none⟩ := fun k j hk e => hk (congrArg Addr.off e)
  have nb : ∀ k, (⟨l, k, none⟩ : Addr) ≠ ⟨bf, 0, none⟩ := fun k e => hne (congrArg Addr.block e).symm
  have dr : ∀ (x : World) (c : Addr), x.drew.cell? c = x.cell? c := fun _ _ => rfl
  have fr : ∀ (x : World) (c : Addr), x.drew.frozen? c = x.frozen? c := fun _ _ => rfl
  have k3 : Keep (fun g => g = l ∨ g = bf) M M3 := by rw [← e3]; exact (keep_one M ⟨l, 1 + 1, none⟩ _).mono fun _ e => .inl e
  have far : ∀ (i : Nat) (u : Value), i ≠ 1 → i ≠ 2 → w2.cell? ⟨l, i, none⟩ = some u → ((w2.drew.setCell ⟨l, 1, none⟩ (.int .u32 1)).setCell ⟨l, 1 + 1, none⟩ (.int .i32 0)).cell? ⟨l, i, none⟩ = some u := fun i u n1 n2 hu => by
    rw [World.cell?_setCell_other _ _ _ _ (ne _ i (by omega)), World.cell?_setCell_other _ _ _ _ (ne _ i (by omega)), dr]; exact hu
  have at3 : ∀ (i : Nat) (u : Value), i ≠ 2 → M.cell? ⟨l, i, none⟩ = some u → M3.cell? ⟨l, i, none⟩ = some u := fun i u hi hu => by rw [← e3, World.cell?_setCell_other _ _ _ _ (ne _ i (by omega))]; exact hu
  have w1c := Wo 1 _ (by decide) (by decide) (at3 1 _ (by decide) h.c1)
  have w2c := Wo 2 _ (by decide) (by decide) (show M3.cell? ⟨l, 2, none⟩ = some (.int .i32 1) by rw [← e3]; exact World.cell?_setCell_same _ _ _ h.c2)
  obtain ⟨F, eF⟩ : ∃ F, (w2.drew.setCell ⟨l, 1, none⟩ (.int .u32 1)).setCell ⟨l, 1 + 1, none⟩ (.int .i32 0) = F := ⟨_, rfl⟩
  have kF : Keep (fun g => g = l ∨ g = bf) M F := by rw [← eF]; exact ((k3.trans Wk).drew.setCell (p := ⟨l, 1, none⟩) (.inl rfl) (.int .u32 1)).setCell (p := ⟨l, 1 + 1, none⟩) (.inl rfl) (.int .i32 0)
  have cF : F.cell? ⟨bf, 0, none⟩ = some fv := by rw [← eF, World.cell?_setCell_other _ _ _ _ (nb _), World.cell?_setCell_other _ _ _ _ (nb _), dr]; exact Wb
  have fF : F.frozen? ⟨bf, 0, none⟩ = false := by rw [← eF, World.frozen?_setCell, World.frozen?_setCell, fr]; exact Wg
  have lF : LzAt F l .nilFunc true nb' none := by
    rw [← eF]
    refine ⟨far 0 _ (by decide) (by decide) W0, ?_, ?_, far 4 _ (by decide) (by decide) W4, far 5 _ (by decide) (by decide) (Wo 5 _ (by decide) (by decide) (at3 5 _ (by decide) h.c5)), fun i => ?_⟩
    · rw [World.cell?_setCell_other _ _ _ _ (ne _ 1 (by decide))]
      exact World.cell?_setCell_same _ _ _ (u := .int .u32 0) (by rw [dr]; exact w1c)
    · exact World.cell?_setCell_same _ _ _ (u := .int .i32 1) (by rw [World.cell?_setCell_other _ _ _ _ (ne _ _ (by decide)), dr]; exact w2c)
    · rw [World.frozen?_setCell, World.frozen?_setCell, fr]; exact Wf i
  have ks := keep_one F ⟨bf, 0, none⟩ fv
  exact ⟨F, eF, cF, fF, lF.keep ks (fun e => hne (e : l = bf).symm), kF.trans (ks.mono fun _ e => .inr e), World.cell?_setCell_same _ _ _ cF⟩
set_option maxRecDepth 100000 in
theorem take_firstI {nb : Bool} (hF : IsF fv nb) (h : LzAt w l fv false false none) :
    Calls Try.prog 33 #[.pointer (some ⟨l, 0, none⟩)] w fun e w' => e = .returned fv ∧ LzAt w' l .nilFunc true nb none ∧ Keep (fun g => g = l) w w' := by
  obtain ⟨M, eM, m0, m1, f1, kM, sM⟩ := boxesL w l 32 27
  have hM := h.keep kM id
  have lw := h.lt
  obtain ⟨M3, e3⟩ : ∃ M3, M.setCell ⟨l, 1 + 1, none⟩ (.int .i32 1) = M3 := ⟨_, rfl⟩
  have k3 : Keep (fun g => g = l) M M3 := by rw [← e3]; exact keep_one M ⟨l, 1 + 1, none⟩ _
  have ne : ∀ k j : Nat, k ≠ j → (⟨l, k, none⟩ : Addr) ≠ ⟨l, j, none⟩ := fun k j hk e => hk (congrArg Addr.off e)
  have at3 : ∀ (i : Nat) (u : Value), i ≠ 2 → M.cell? ⟨l, i, none⟩ = some u → M3.cell? ⟨l, i, none⟩ = some u := fun i u hi hu => by rw [← e3, World.cell?_setCell_other _ _ _ _ (ne _ i (by omega))]; exact hu
  have fz3 : ∀ i, M3.frozen? ⟨l, i, none⟩ = false := fun i => by rw [← e3, World.frozen?_setCell]; exact hM.fz i
  have n0 : w.heap.size ≠ l := by omega
  have n1 : w.heap.size + 1 ≠ l := by omega
  have TK := take1_anyI (w := M3) (l := l) w.heap.size (w.heap.size + 1) hF (k3.cell m0 n0) (k3.cell m1 n1) ((k3.frozen (a := ⟨w.heap.size + 1, 0, none⟩) (lt_of_cell m1) n1).trans f1) (at3 0 _ (by decide) hM.c0) (at3 4 _ (by decide) hM.c4) fz3 n1 n0 (by omega)
  have on : Calls Try.prog 27 #[.pointer (some ⟨l, 1, none⟩), .func (.func 53) #[] #[.pointer (some ⟨w.heap.size, 0, none⟩), .pointer (some ⟨w.heap.size + 1, 0, none⟩)]] M (OnceDid (TookL l (w.heap.size + 1) fv nb M3) l 1) := by
    refine once_firstI l 1 _ (TookL l (w.heap.size + 1) fv nb M3) M hM.c1 hM.c2 (hM.fz 2) ?_
    rw [e3]
    refine TK.mono ?_
    rintro e w' ⟨rfl, W⟩
    exact ⟨rfl, W, W.2.2.2.2.2.2 1 _ (by decide) (by decide) (at3 1 _ (by decide) hM.c1), W.2.2.2.2.2.2 2 _ (by decide) (by decide) (by rw [← e3]; exact World.cell?_setCell_same _ _ _ hM.c2), W.2.2.2.2.1 1, W.2.2.2.2.1 2⟩
  have fin := took_finI (nb' := nb) hM e3 n1
  have FIN := Lib.hid fin
  have KM := Lib.hid kM
  clear fin TK fz3 at3 k3 e3 ne hM h kM n0 sM m1 f1
  rcases hF with ⟨rfl, rfl⟩ | ⟨k, caps, rfl, rfl⟩
  all_goals
    go_enter Try.func33, Try.ntmps33
    go_wp2_with fail
    refine on.mono ?_
    rintro e w2 ⟨rfl, wx, hx, rfl⟩
    clear on eM
    obtain ⟨F, eF, f1, f2, f3, f4, f5⟩ := FIN.out wx hx
    rw [eF]
    have kA : Keep (fun g => g = l ∨ w.heap.size ≤ g) w _ := (KM.out.mono fun _ e => e.elim).trans (f4.mono fun g e => by
      rcases e with e | e
      · exact .inl e
      · exact .inr (by omega))
    have KK := Lib.hid (show Keep (fun g => g = l) w _ from ⟨kA.os, kA.tape, kA.output, kA.size, fun g hg hn => kA.block g hg fun c => by
      rcases c with c | c
      · exact hn c
      · omega⟩)
    have F3 := Lib.hid f3
    clear f3 f4 kA eF hx FIN KM n1 lw
    go_wp2
    refine bodyPost_ret (v := _) (by simp [results, Try.results33, go_sem, f5]; rfl) rfl ?_
    exact ⟨rfl, F3.out, KK.out⟩
theorem take_againI (h : LzAt w l .nilFunc true c pv) :
    Calls Try.prog 33 #[.pointer (some ⟨l, 0, none⟩)] w fun e w' => e = .returned .nilFunc ∧ Keep (fun _ => False) w w' := by
  obtain ⟨M, eM, m0, m1, f1, kM, sM⟩ := boxesL w l 32 27
  have hM := h.keep kM id
  have on := once_done l 1 (.func (.func 53) #[] #[.pointer (some ⟨w.heap.size, 0, none⟩), .pointer (some ⟨w.heap.size + 1, 0, none⟩)]) M hM.c1
  have KK := Lib.hid (kM.older (keep_one M ⟨w.heap.size + 1, 0, none⟩ .nilFunc) (fun j e => by have e : j = w.heap.size + 1 := e; omega))
  have f5 := World.cell?_setCell_same M ⟨w.heap.size + 1, 0, none⟩ .nilFunc m1
  clear h hM kM sM
  go_enter Try.func33, Try.ntmps33
  go_wp2_with fail
  refine on.mono ?_
  rintro e w2 ⟨rfl, rfl⟩
  clear on eM
  go_wp2
  refine bodyPost_ret (v := _) (by simp [results, Try.results33, go_sem, f5]; rfl) rfl ?_
  exact ⟨rfl, KK.out⟩
theorem idleTI (w : World) : CallsD Try.prog 54 #[] .returning w fun e u' w' => e = .returned (.tuple #[]) ∧ u' = .returning ∧ w' = w := by
  refine callsD_of_wpS Try.func54 rfl fun c₀ cs hu => ?_
  apply wpS_region
  simp [wpOpsS, go_sem, recoverD, hu, Try.ntmps54, bodyPostS, results, Try.results54]
  cases c₀
  simp_all
theorem try_funcI {f : FuncId} {caps : Array Value} {x : Int} {R : World → Prop} (hent : ∀ (a : Array Value) (w : World), (callFunc f a).run Try.prog w = .ok (.enter f a) w) (hc : Calls Try.prog f caps w fun e w' => e = .returned (Value.int .i64 x) ∧ R w') :
    Calls Try.prog 34 #[.func (.func f) #[] caps] w fun e w' => e = .returned (Value.int .i64 x) ∧ R w' := by
  have hmf : ∀ (fn : Fn) (first cap : Array Value) (w : World), (Instr.makeFunc fn first cap).run Try.prog w = .ok (.func fn first cap) w := fun _ _ _ _ => rfl
  go_enter_defers Try.func34, Try.ntmps34
  go_wp2_with fail
  refine hc.mono ?_
  rintro e w2 ⟨rfl, b2⟩
  clear hc
  go_wp2
  refine leaves_cons (f := 54) (args := #[]) (by simp) (by simp [go_sem]) ?_
  refine (idleTI _).mono ?_
  rintro e u' w'' ⟨rfl, rfl, rfl⟩
  simp [Leaves, settle, results, Try.results34, go_sem]
  exact b2
theorem sizeI : (Try.prog.info? 3).map (fun i => decide (i.size = 0)) = some false := by kernel_rfl
theorem liesI : liesAt Try.prog Try.prog.depth 3 (1 / Try.prog.cellsOf 3) 0 3 1 = true := by kernel_rfl
theorem to_rawI {q : Nat} {v : Value} (h : BoxV w 3 q v) : (convert 65 67 (.pointer (some ⟨q, 0, none⟩))).run Try.prog w = .ok (.pointer (some ⟨q, 0, none⟩)) w :=
  run_convert_to_unsafe Try.underlying65 Try.underlying67 sizeI h.cell
theorem of_rawI {q : Nat} {v : Value} (h : BoxV w 3 q v) : (convert 67 65 (.pointer (some ⟨q, 0, none⟩))).run Try.prog w = .ok (.pointer (some ⟨q, 0, none⟩)) w := by
  obtain ⟨i, hi, _⟩ := Option.map_eq_some_iff.1 sizeI
  exact Lib.run_from_unsafe _ (⟨q, 0, none⟩ : Addr) Try.underlying67 Try.underlying65 hi h.shape liesI
theorem ploadI (m o : Nat) {q : Nat} {v : Value} (hc : w.cell? ⟨m, o, none⟩ = some (.pointer (some ⟨q, 0, none⟩))) (h : BoxV w 3 q v) :
    Calls Try.prog 36 #[.pointer (some ⟨m, o, none⟩)] w fun e w' => e = .returned (.pointer (some ⟨q, 0, none⟩)) ∧ w = w' := by
  have hl := run_loadp (P := Try.prog) Try.func56 (by kernel_rfl) (by kernel_rfl) (by kernel_rfl) (by kernel_rfl) hc
  have hr := of_rawI h
  go_enter Try.func36, Try.ntmps36
  go_wp2
  go_ret
  exact ⟨rfl, rfl⟩
theorem pstoreI (m o : Nat) {q : Nat} {v : Value} (u : Value) (hc : w.cell? ⟨m, o, none⟩ = some u) (hz : w.frozen? ⟨m, o, none⟩ = false) (h : BoxV w 3 q v) :
    Calls Try.prog 35 #[.pointer (some ⟨m, o, none⟩), .pointer (some ⟨q, 0, none⟩)] w fun e w' => e = .returned (.tuple #[]) ∧ w' = w.setCell ⟨m, o, none⟩ (.pointer (some ⟨q, 0, none⟩)) := by
  have hl := run_storep (P := Try.prog) Try.func55 (by kernel_rfl) (by kernel_rfl) (by kernel_rfl) (by kernel_rfl) (y := some ⟨q, 0, none⟩) hc hz
  have hr := to_rawI h
  go_enter Try.func35, Try.ntmps35
  go_wp2
  go_end0
  exact ⟨rfl, rfl⟩
theorem ploadNI (m o : Nat) (hc : w.cell? ⟨m, o, none⟩ = some (.pointer none)) :
    Calls Try.prog 36 #[.pointer (some ⟨m, o, none⟩)] w fun e w' => e = .returned (.pointer none) ∧ w = w' := by
  have hl := run_loadp (P := Try.prog) Try.func56 (by kernel_rfl) (by kernel_rfl) (by kernel_rfl) (by kernel_rfl) hc
  have hr : (convert 67 65 (.pointer none)).run Try.prog w = .ok (.pointer none) w := by kernel_rfl
  go_enter Try.func36, Try.ntmps36
  go_wp2
  go_ret
  exact ⟨rfl, rfl⟩
/-- Asked again. -/
theorem get_againI {x : Int} {q : Nat} (h : LzAt w l .nilFunc true c (some ⟨q, 0, none⟩)) (hb : BoxV w 3 q (Value.int .i64 x)) :
    Calls Try.prog 20 #[.pointer (some ⟨l, 0, none⟩)] w fun e w' => e = .returned (Value.int .i64 x) ∧ Keep (fun _ => False) w w' := by
  have TK := take_againI h
  have hn := neq_noneI
  have fin : ∀ w1, Keep (fun _ => False) w w1 → Calls Try.prog 36 #[.pointer (some ⟨l, 5, none⟩)] w1 (fun e w' => e = .returned (.pointer (some ⟨q, 0, none⟩)) ∧ w1 = w') ∧ w1.cell? ⟨q, 0, none⟩ = some (Value.int .i64 x) := fun w1 k => ⟨ploadI l 5 (h.keep k id).c5 (hb.keep k id), (hb.keep k id).cell⟩
  have FIN := Lib.hid fin
  clear fin h hb
  go_enter Try.func20, Try.ntmps20
  go_wp2_with fail
  refine TK.mono ?_
  rintro e w1 ⟨rfl, k1⟩
  obtain ⟨PL, PC⟩ := FIN.out w1 k1
  have K1 := Lib.hid k1
  clear TK k1
  go_wp2_with fail
  refine PL.mono ?_
  rintro e w2 ⟨rfl, rfl⟩
  go_wp2
  go_ret
  exact ⟨rfl, K1.out⟩
/-- Asked first; the function makes the value. -/
theorem get_firstI {f : FuncId} {caps : Array Value} {x : Int} {R : World → World → Prop} {X : Nat → Prop} (hent : ∀ (a : Array Value) (w : World), (callFunc f a).run Try.prog w = .ok (.enter f a) w) (h : LzAt w l (.func (.func f) #[] caps) false false none)
    (hc : ∀ w1, Keep (fun g => g = l) w w1 → Calls Try.prog f caps w1 fun e w2 => e = .returned (Value.int .i64 x) ∧ R w1 w2) (hR : ∀ w1 w2, R w1 w2 → Keep X w1 w2) (hX : ¬ X l) :
    Calls Try.prog 20 #[.pointer (some ⟨l, 0, none⟩)] w fun e w' => e = .returned (Value.int .i64 x) ∧ GotL w w' l 3 (Value.int .i64 x) R := by
  have TK := take_firstI (nb := true) (.inr ⟨f, caps, rfl, rfl⟩) h
  have hn := neq_funcI
  have hn2 : ∀ w1, Keep (fun g => g = l) w w1 → Calls Try.prog 34 #[.func (.func f) #[] caps] w1 fun e w' => e = .returned (Value.int .i64 x) ∧ R w1 w' := fun w1 k => try_funcI hent (hc w1 k)
  have HN2 := Lib.hid hn2
  have HRR := Lib.hid hR
  clear h hc hn2 hR
  go_enter Try.func20, Try.ntmps20
  go_wp2_with fail
  refine TK.mono ?_
  rintro e w1 ⟨rfl, h1, k1⟩
  clear TK
  have TR := HN2.out w1 k1
  have H1 := Lib.hid h1
  have K1 := Lib.hid k1
  clear h1 k1
  go_wp2_with fail
  refine TR.mono ?_
  rintro e w2 ⟨rfl, r2⟩
  clear TR
  have k2 := HRR.out _ _ r2
  have h2 := H1.out.keep k2 hX
  have lt2 := h2.lt
  obtain ⟨M, eM⟩ : ∃ M, (w2.alloc (.cells #[(Value.int .i64 0)] 3)).setCell ⟨w2.heap.size, 0, none⟩ (Value.int .i64 x) = M := ⟨_, rfl⟩
  obtain ⟨bM, kM⟩ := boxedV w2 _ _ M eM
  have hM := h2.keep kM id
  have PS := pstoreI l 5 _ hM.c5 (hM.fz 5) bM
  obtain ⟨M2, e2⟩ : ∃ M2, M.setCell ⟨l, 5, none⟩ (.pointer (some ⟨w2.heap.size, 0, none⟩)) = M2 := ⟨_, rfl⟩
  rw [e2] at PS
  have k2' : Keep (fun g => g = l) M M2 := by rw [← e2]; exact keep_one M ⟨l, 5, none⟩ _
  have b2 : BoxV M2 3 w2.heap.size (Value.int .i64 x) := bM.keep k2' (by omega)
  have ne : ∀ k j : Nat, k ≠ j → (⟨l, k, none⟩ : Addr) ≠ ⟨l, j, none⟩ := fun k j hk e => hk (congrArg Addr.off e)
  have hl2 : LzAt M2 l .nilFunc true true (some ⟨w2.heap.size, 0, none⟩) := by
    rw [← e2]
    exact ⟨(World.cell?_setCell_other _ _ _ _ (ne _ _ (by decide))).trans hM.c0, (World.cell?_setCell_other _ _ _ _ (ne _ _ (by decide))).trans hM.c1, (World.cell?_setCell_other _ _ _ _ (ne _ _ (by decide))).trans hM.c2, (World.cell?_setCell_other _ _ _ _ (ne _ _ (by decide))).trans hM.c4, World.cell?_setCell_same _ _ _ hM.c5, fun i => by rw [World.frozen?_setCell]; exact hM.fz i⟩
  have PL := ploadI l 5 hl2.c5 b2
  have PC := b2.cell
  have GOT := Lib.hid (show GotL w M2 l 3 (Value.int .i64 x) R from ⟨w1, w2, w2.heap.size, K1.out, r2, (kM.mono fun _ e => e.elim).trans k2', hl2, b2, Nat.le_refl _⟩)
  clear hl2 b2 e2 hM bM kM k2' h2 k2 r2 H1 K1 HRR HN2 lt2
  go_wp2_with fail
  refine PS.mono ?_
  rintro e w3 ⟨rfl, rfl⟩
  clear PS eM
  go_wp2_with fail
  refine PL.mono ?_
  rintro e w4 ⟨rfl, rfl⟩
  go_wp2
  go_ret
  exact ⟨rfl, GOT.out⟩
/-- There is no function: the zero value, always. -/
theorem get_noneI (h : (LzAt w l .nilFunc false false none) ∨ LzAt w l .nilFunc true false none) :
    Calls Try.prog 20 #[.pointer (some ⟨l, 0, none⟩)] w fun e w' => e = .returned (Value.int .i64 0) ∧ LzAt w' l .nilFunc true false none ∧ Keep (fun g => g = l) w w' := by
  have TK : Calls Try.prog 33 #[.pointer (some ⟨l, 0, none⟩)] w fun e w' => e = .returned .nilFunc ∧ LzAt w' l .nilFunc true false none ∧ Keep (fun g => g = l) w w' := by
    rcases h with h | h
    · exact take_firstI (nb := false) (.inl ⟨rfl, rfl⟩) h
    · exact (take_againI h).mono fun e w' x => ⟨x.1, h.keep x.2 id, x.2.mono fun _ e => e.elim⟩
  have hn := neq_noneI
  clear h
  go_enter Try.func20, Try.ntmps20
  go_wp2_with fail
  refine TK.mono ?_
  rintro e w1 ⟨rfl, h1, k1⟩
  clear TK
  have PL := ploadNI l 5 h1.c5
  have H1 := Lib.hid h1
  have K1 := Lib.hid k1
  clear h1 k1
  go_wp2_with fail
  refine PL.mono ?_
  rintro e w2 ⟨rfl, rfl⟩
  clear PL
  go_wp2
  go_ret
  have ka : Keep (fun _ => False) w1 (w1.alloc (.cells #[(Value.int .i64 0)] 3)) := (Keep.refl _ _).alloc _
  exact ⟨rfl, H1.out.keep ka id, K1.out.trans (ka.mono fun _ e => e.elim)⟩
end
section
variable {w w' : World} {l : Nat} {fv : Value} {d c : Bool} {pv : Option Addr} {T : Nat → Prop}
theorem neq_funcS (k : FuncId) (caps : Array Value) (w : World) : (binOp .neq 36 (.func (.func k) #[] caps) .nilFunc).run Try.prog w = .ok (.bool true) w := by kernel_rfl
theorem neq_noneS (w : World) : (binOp .neq 36 .nilFunc .nilFunc).run Try.prog w = .ok (.bool false) w := by kernel_rfl
theorem make_anyS (w : World) (hf : ∃ nb, IsF fv nb) : Calls Try.prog 14 #[fv] w fun e w' => ∃ l, e = .returned (.pointer (some ⟨l, 0, none⟩)) ∧ LzAt w' l fv false false none ∧ Keep (fun _ => False) w w' ∧ w.heap.size ≤ l := by
  obtain ⟨nb, ⟨rfl, _⟩ | ⟨k, caps, rfl, _⟩⟩ := hf
  all_goals
    go_enter Try.func14, Try.ntmps14
    go_wp2
    go_ret
    refine ⟨_, rfl, ⟨?_, ?_, ?_, ?_, ?_, ?_⟩, (Keep.refl _ _).alloc _, Nat.le_refl _⟩
    all_goals simp [dnB]
theorem done_anyS (h : LzAt w l fv d c pv) : Calls Try.prog 18 #[.pointer (some ⟨l, 0, none⟩)] w fun e w' => e = .returned (.bool c) ∧ w = w' := by
  have L := boolLoad l 4 c w h.c4
  clear h
  go_enter Try.func18, Try.ntmps18
  go_wp2_with fail
  refine L.mono ?_
  rintro e w1 ⟨rfl, rfl⟩
  go_wp2
  go_ret
  exact ⟨rfl, rfl⟩
set_option maxRecDepth 100000 in
theorem take1_anyS (bl bf : Nat) {nb : Bool} (hF : IsF fv nb) (hl : w.cell? ⟨bl, 0, none⟩ = some (.pointer (some ⟨l, 0, none⟩))) (hb : w.cell? ⟨bf, 0, none⟩ = some .nilFunc) (fb : w.frozen? ⟨bf, 0, none⟩ = false) (h0 : w.cell? ⟨l, 0, none⟩ = some fv) {u4 : Value} (h4 : w.cell? ⟨l, 4, none⟩ = some u4) (hf : ∀ i, w.frozen? ⟨l, i, none⟩ = false) (hne : bf ≠ l) (hnl : bl ≠ l) (hnb : bl ≠ bf) :
    Calls Try.prog 57 #[.pointer (some ⟨bl, 0, none⟩), .pointer (some ⟨bf, 0, none⟩)] w fun e w' => e = .returned (.tuple #[]) ∧ TookL l bf fv nb w w' := by
  obtain ⟨M2, e2⟩ : ∃ M2, ((w.setCell ⟨bf, 0, none⟩ fv).setCell ⟨l, 0, none⟩ .nilFunc).drew = M2 := ⟨_, rfl⟩
  have W := tookL_of (nb := nb) h0 h4 hb hf fb hne e2
  have k2 : Keep (fun g => g = l ∨ g = bf) w M2 := by rw [← e2]; exact ((((Keep.refl (fun g => g = l ∨ g = bf) w).setCell (p := ⟨bf, 0, none⟩) (.inr rfl) _).setCell (p := ⟨l, 0, none⟩) (.inl rfl) _).drew)
  have b1 : M2.cell? ⟨bl, 0, none⟩ = some (.pointer (some ⟨l, 0, none⟩)) := k2.cell hl (fun e => by rcases e with e | e; exact hnl e; exact hnb e)
  have b2 : M2.cell? ⟨bf, 0, none⟩ = some fv := by
    rw [← e2]
    show ((w.setCell ⟨bf, 0, none⟩ fv).setCell ⟨l, 0, none⟩ .nilFunc).cell? _ = _
    rw [World.cell?_setCell_other _ _ _ _ (fun e => hne (congrArg Addr.block e).symm)]
    exact World.cell?_setCell_same _ _ _ hb
  have b4 : M2.cell? ⟨l, 4, none⟩ = some u4 := by
    rw [← e2]
    show ((w.setCell ⟨bf, 0, none⟩ fv).setCell ⟨l, 0, none⟩ .nilFunc).cell? _ = _
    rw [World.cell?_setCell_other _ _ _ _ (by simp), World.cell?_setCell_other _ _ _ _ (fun e => hne (congrArg Addr.block e))]
    exact h4
  have g4 : M2.frozen? ⟨l, 4, none⟩ = false := by
    rw [← e2]
    show ((w.setCell ⟨bf, 0, none⟩ fv).setCell ⟨l, 0, none⟩ .nilFunc).frozen? _ = _
    rw [World.frozen?_setCell, World.frozen?_setCell]
    exact hf 4
  have BS := boolStore l 4 nb u4 M2.drew b4 g4
  have f0 := hf 0
  have HW := Lib.hid W
  have hq1 := neq_funcS
  have hq2 := neq_noneS
  clear W k2 h4 hf b4 g4
  rcases hF with ⟨rfl, rfl⟩ | ⟨k, caps, rfl, rfl⟩
  all_goals
    go_enter Try.func57, Try.ntmps57
    go_wp2_with fail
    go_region
    clear e2 h0 f0 hl hb fb
    go_wp2_with fail
    go_still_tail 5, (by kernel_rfl)
    try refine wpStill_nil ?_
    change wpList _ _ _ _ _ M2.drew
    go_wp2_with fail
    refine BS.mono ?_
    rintro e w1 ⟨rfl, rfl⟩
    clear BS b1 b2
    go_wp2
    go_end0
    exact ⟨rfl, HW.out⟩
/-- The world behind a first take. -/
theorem took_finS {M M3 : World} {bf : Nat} {nb' : Bool} (h : LzAt M l fv false false none) (e3 : M.setCell ⟨l, 1 + 1, none⟩ (.int .i32 1) = M3) (hne : bf ≠ l) (w2 : World) (W : TookL l bf fv nb' M3 w2) :
    ∃ F, (w2.drew.setCell ⟨l, 1, none⟩ (.int .u32 1)).setCell ⟨l, 1 + 1, none⟩ (.int .i32 0) = F ∧ F.cell? ⟨bf, 0, none⟩ = some fv ∧ F.frozen? ⟨bf, 0, none⟩ = false ∧ LzAt (F.setCell ⟨bf, 0, none⟩ fv) l .nilFunc true nb' none ∧ Keep (fun g => g = l ∨ g = bf) M (F.setCell ⟨bf, 0, none⟩ fv) ∧ (F.setCell ⟨bf, 0, none⟩ fv).cell? ⟨bf, 0, none⟩ = some fv := by
  obtain ⟨W0, W4, Wb, Wk, Wf, Wg, Wo⟩ := W
  have ne : ∀ k j : Nat, k ≠ j → (⟨l, k, none⟩ : Addr) ≠ ⟨l, j, none⟩ := fun k j hk e => hk (congrArg Addr.off e)
  have nb : ∀ k, (⟨l, k, none⟩ : Addr) ≠ ⟨bf, 0, none⟩ := fun k e => hne (congrArg Addr.block e).symm
  have dr : ∀ (x : World) (c : Addr), x.drew.cell? c = x.cell? c := fun _ _ => rfl
  have fr : ∀ (x : World) (c : Addr), x.drew.frozen? c = x.frozen? c := fun _ _ => rfl
  have k3 : Keep (fun g => g = l ∨ g = bf) M M3 := by rw [← e3]; exact (keep_one M ⟨l, 1 + 1, none⟩ _).mono fun _ e => .inl e
  have far : ∀ (i : Nat) (u : Value), i ≠ 1 → i ≠ 2 → w2.cell? ⟨l, i, none⟩ = some u → ((w2.drew.setCell ⟨l, 1, none⟩ (.int .u32 1)).setCell ⟨l, 1 + 1, none⟩ (.int .i32 0)).cell? ⟨l, i, none⟩ = some u := fun i u n1 n2 hu => by
    rw [World.cell?_setCell_other _ _ _ _ (ne _ i (by omega)), World.cell?_setCell_other _ _ _ _ (ne _ i (by omega)), dr]; exact hu
  have at3 : ∀ (i : Nat) (u : Value), i ≠ 2 → M.cell? ⟨l, i, none⟩ = some u → M3.cell? ⟨l, i, none⟩ = some u := fun i u hi hu => by rw [← e3, World.cell?_setCell_other _ _ _ _ (ne _ i (by omega))]; exact hu
  have w1c := Wo 1 _ (by decide) (by decide) (at3 1 _ (by decide) h.c1)
  have w2c := Wo 2 _ (by decide) (by decide) (show M3.cell? ⟨l, 2, none⟩ = some (.int .i32 1) by rw [← e3]; exact World.cell?_setCell_same _ _ _ h.c2)
  obtain ⟨F, eF⟩ : ∃ F, (w2.drew.setCell ⟨l, 1, none⟩ (.int .u32 1)).setCell ⟨l, 1 + 1, none⟩ (.int .i32 0) = F := ⟨_, rfl⟩
  have kF : Keep (fun g => g = l ∨ g = bf) M F := by rw [← eF]; exact ((k3.trans Wk).drew.setCell (p := ⟨l, 1, none⟩) (.inl rfl) (.int .u32 1)).setCell (p := ⟨l, 1 + 1, none⟩) (.inl rfl) (.int .i32 0)
  have cF : F.cell? ⟨bf, 0, none⟩ = some fv := by rw [← eF, World.cell?_setCell_other _ _ _ _ (nb _), World.cell?_setCell_other _ _ _ _ (nb _), dr]; exact Wb
  have fF : F.frozen? ⟨bf, 0, none⟩ = false := by rw [← eF, World.frozen?_setCell, World.frozen?_setCell, fr]; exact Wg
  have lF : LzAt F l .nilFunc true nb' none := by
    rw [← eF]
    refine ⟨far 0 _ (by decide) (by decide) W0, ?_, ?_, far 4 _ (by decide) (by decide) W4, far 5 _ (by decide) (by decide) (Wo 5 _ (by decide) (by decide) (at3 5 _ (by decide) h.c5)), fun i => ?_⟩
    · rw [World.cell?_setCell_other _ _ _ _ (ne _ 1 (by decide))]
      exact World.cell?_setCell_same _ _ _ (u := .int .u32 0) (by rw [dr]; exact w1c)
    · exact World.cell?_setCell_same _ _ _ (u := .int .i32 1) (by rw [World.cell?_setCell_other _ _ _ _ (ne _ _ (by decide)), dr]; exact w2c)
    · rw [World.frozen?_setCell, World.frozen?_setCell, fr]; exact Wf i
  have ks := keep_one F ⟨bf, 0, none⟩ fv
  exact ⟨F, eF, cF, fF, lF.keep ks (fun e => hne (e : l = bf).symm), kF.trans (ks.mono fun _ e => .inr e), World.cell?_setCell_same _ _ _ cF⟩
set_option maxRecDepth 100000 in
theorem take_firstS {nb : Bool} (hF : IsF fv nb) (h : LzAt w l fv false false none) :
    Calls Try.prog 37 #[.pointer (some ⟨l, 0, none⟩)] w fun e w' => e = .returned fv ∧ LzAt w' l .nilFunc true nb none ∧ Keep (fun g => g = l) w w' := by
  obtain ⟨M, eM, m0, m1, f1, kM, sM⟩ := boxesL w l 34 36
  have hM := h.keep kM id
  have lw := h.lt
  obtain ⟨M3, e3⟩ : ∃ M3, M.setCell ⟨l, 1 + 1, none⟩ (.int .i32 1) = M3 := ⟨_, rfl⟩
  have k3 : Keep (fun g => g = l) M M3 := by rw [← e3]; exact keep_one M ⟨l, 1 + 1, none⟩ _
  have ne : ∀ k j : Nat, k ≠ j → (⟨l, k, none⟩ : Addr) ≠ ⟨l, j, none⟩ := fun k j hk e => hk (congrArg Addr.off e)
  have at3 : ∀ (i : Nat) (u : Value), i ≠ 2 → M.cell? ⟨l, i, none⟩ = some u → M3.cell? ⟨l, i, none⟩ = some u := fun i u hi hu => by rw [← e3, World.cell?_setCell_other _ _ _ _ (ne _ i (by omega))]; exact hu
  have fz3 : ∀ i, M3.frozen? ⟨l, i, none⟩ = false := fun i => by rw [← e3, World.frozen?_setCell]; exact hM.fz i
  have n0 : w.heap.size ≠ l := by omega
  have n1 : w.heap.size + 1 ≠ l := by omega
  have TK := take1_anyS (w := M3) (l := l) w.heap.size (w.heap.size + 1) hF (k3.cell m0 n0) (k3.cell m1 n1) ((k3.frozen (a := ⟨w.heap.size + 1, 0, none⟩) (lt_of_cell m1) n1).trans f1) (at3 0 _ (by decide) hM.c0) (at3 4 _ (by decide) hM.c4) fz3 n1 n0 (by omega)
  have on : Calls Try.prog 27 #[.pointer (some ⟨l, 1, none⟩), .func (.func 57) #[] #[.pointer (some ⟨w.heap.size, 0, none⟩), .pointer (some ⟨w.heap.size + 1, 0, none⟩)]] M (OnceDid (TookL l (w.heap.size + 1) fv nb M3) l 1) := by
    refine once_firstS l 1 _ (TookL l (w.heap.size + 1) fv nb M3) M hM.c1 hM.c2 (hM.fz 2) ?_
    rw [e3]
    refine TK.mono ?_
    rintro e w' ⟨rfl, W⟩
    exact ⟨rfl, W, W.2.2.2.2.2.2 1 _ (by decide) (by decide) (at3 1 _ (by decide) hM.c1), W.2.2.2.2.2.2 2 _ (by decide) (by decide) (by rw [← e3]; exact World.cell?_setCell_same _ _ _ hM.c2), W.2.2.2.2.1 1, W.2.2.2.2.1 2⟩
  have fin := took_finS (nb' := nb) hM e3 n1
  have FIN := Lib.hid fin
  have KM := Lib.hid kM
  clear fin TK fz3 at3 k3 e3 ne hM h kM n0 sM m1 f1
  rcases hF with ⟨rfl, rfl⟩ | ⟨k, caps, rfl, rfl⟩
  all_goals
    go_enter Try.func37, Try.ntmps37
    go_wp2_with fail
    refine on.mono ?_
    rintro e w2 ⟨rfl, wx, hx, rfl⟩
    clear on eM
    obtain ⟨F, eF, f1, f2, f3, f4, f5⟩ := FIN.out wx hx
    rw [eF]
    have kA : Keep (fun g => g = l ∨ w.heap.size ≤ g) w _ := (KM.out.mono fun _ e => e.elim).trans (f4.mono fun g e => by
      rcases e with e | e
      · exact .inl e
      · exact .inr (by omega))
    have KK := Lib.hid (show Keep (fun g => g = l) w _ from ⟨kA.os, kA.tape, kA.output, kA.size, fun g hg hn => kA.block g hg fun c => by
      rcases c with c | c
      · exact hn c
      · omega⟩)
    have F3 := Lib.hid f3
    clear f3 f4 kA eF hx FIN KM n1 lw
    go_wp2
    refine bodyPost_ret (v := _) (by simp [results, Try.results37, go_sem, f5]; rfl) rfl ?_
    exact ⟨rfl, F3.out, KK.out⟩
theorem take_againS (h : LzAt w l .nilFunc true c pv) :
    Calls Try.prog 37 #[.pointer (some ⟨l, 0, none⟩)] w fun e w' => e = .returned .nilFunc ∧ Keep (fun _ => False) w w' := by
  obtain ⟨M, eM, m0, m1, f1, kM, sM⟩ := boxesL w l 34 36
  have hM := h.keep kM id
  have on := once_done l 1 (.func (.func 57) #[] #[.pointer (some ⟨w.heap.size, 0, none⟩), .pointer (some ⟨w.heap.size + 1, 0, none⟩)]) M hM.c1
  have KK := Lib.hid (kM.older (keep_one M ⟨w.heap.size + 1, 0, none⟩ .nilFunc) (fun j e => by have e : j = w.heap.size + 1 := e; omega))
  have f5 := World.cell?_setCell_same M ⟨w.heap.size + 1, 0, none⟩ .nilFunc m1
  clear h hM kM sM
  go_enter Try.func37, Try.ntmps37
  go_wp2_with fail
  refine on.mono ?_
  rintro e w2 ⟨rfl, rfl⟩
  clear on eM
  go_wp2
  refine bodyPost_ret (v := _) (by simp [results, Try.results37, go_sem, f5]; rfl) rfl ?_
  exact ⟨rfl, KK.out⟩
theorem idleTS (w : World) : CallsD Try.prog 58 #[] .returning w fun e u' w' => e = .returned (.tuple #[]) ∧ u' = .returning ∧ w' = w := by
  refine callsD_of_wpS Try.func58 rfl fun c₀ cs hu => ?_
  apply wpS_region
  simp [wpOpsS, go_sem, recoverD, hu, Try.ntmps58, bodyPostS, results, Try.results58]
  cases c₀
  simp_all
theorem try_funcS {f : FuncId} {caps : Array Value} {x : ByteArray} {R : World → Prop} (hent : ∀ (a : Array Value) (w : World), (callFunc f a).run Try.prog w = .ok (.enter f a) w) (hc : Calls Try.prog f caps w fun e w' => e = .returned (Value.string x) ∧ R w') :
    Calls Try.prog 38 #[.func (.func f) #[] caps] w fun e w' => e = .returned (Value.string x) ∧ R w' := by
  have hmf : ∀ (fn : Fn) (first cap : Array Value) (w : World), (Instr.makeFunc fn first cap).run Try.prog w = .ok (.func fn first cap) w := fun _ _ _ _ => rfl
  go_enter_defers Try.func38, Try.ntmps38
  go_wp2_with fail
  refine hc.mono ?_
  rintro e w2 ⟨rfl, b2⟩
  clear hc
  go_wp2
  refine leaves_cons (f := 58) (args := #[]) (by simp) (by simp [go_sem]) ?_
  refine (idleTS _).mono ?_
  rintro e u' w'' ⟨rfl, rfl, rfl⟩
  simp [Leaves, settle, results, Try.results38, go_sem]
  exact b2
theorem sizeS : (Try.prog.info? 9).map (fun i => decide (i.size = 0)) = some false := by kernel_rfl
theorem liesS : liesAt Try.prog Try.prog.depth 9 (1 / Try.prog.cellsOf 9) 0 9 1 = true := by kernel_rfl
theorem to_rawS {q : Nat} {v : Value} (h : BoxV w 9 q v) : (convert 72 67 (.pointer (some ⟨q, 0, none⟩))).run Try.prog w = .ok (.pointer (some ⟨q, 0, none⟩)) w :=
  run_convert_to_unsafe Try.underlying72 Try.underlying67 sizeS h.cell
theorem of_rawS {q : Nat} {v : Value} (h : BoxV w 9 q v) : (convert 67 72 (.pointer (some ⟨q, 0, none⟩))).run Try.prog w = .ok (.pointer (some ⟨q, 0, none⟩)) w := by
  obtain ⟨i, hi, _⟩ := Option.map_eq_some_iff.1 sizeS
  exact Lib.run_from_unsafe _ (⟨q, 0, none⟩ : Addr) Try.underlying67 Try.underlying72 hi h.shape liesS
theorem ploadS (m o : Nat) {q : Nat} {v : Value} (hc : w.cell? ⟨m, o, none⟩ = some (.pointer (some ⟨q, 0, none⟩))) (h : BoxV w 9 q v) :
    Calls Try.prog 40 #[.pointer (some ⟨m, o, none⟩)] w fun e w' => e = .returned (.pointer (some ⟨q, 0, none⟩)) ∧ w = w' := by
  have hl := run_loadp (P := Try.prog) Try.func56 (by kernel_rfl) (by kernel_rfl) (by kernel_rfl) (by kernel_rfl) hc
  have hr := of_rawS h
  go_enter Try.func40, Try.ntmps40
  go_wp2
  go_ret
  exact ⟨rfl, rfl⟩
theorem pstoreS (m o : Nat) {q : Nat} {v : Value} (u : Value) (hc : w.cell? ⟨m, o, none⟩ = some u) (hz : w.frozen? ⟨m, o, none⟩ = false) (h : BoxV w 9 q v) :
    Calls Try.prog 39 #[.pointer (some ⟨m, o, none⟩), .pointer (some ⟨q, 0, none⟩)] w fun e w' => e = .returned (.tuple #[]) ∧ w' = w.setCell ⟨m, o, none⟩ (.pointer (some ⟨q, 0, none⟩)) := by
  have hl := run_storep (P := Try.prog) Try.func55 (by kernel_rfl) (by kernel_rfl) (by kernel_rfl) (by kernel_rfl) (y := some ⟨q, 0, none⟩) hc hz
  have hr := to_rawS h
  go_enter Try.func39, Try.ntmps39
  go_wp2
  go_end0
  exact ⟨rfl, rfl⟩
theorem ploadNS (m o : Nat) (hc : w.cell? ⟨m, o, none⟩ = some (.pointer none)) :
    Calls Try.prog 40 #[.pointer (some ⟨m, o, none⟩)] w fun e w' => e = .returned (.pointer none) ∧ w = w' := by
  have hl := run_loadp (P := Try.prog) Try.func56 (by kernel_rfl) (by kernel_rfl) (by kernel_rfl) (by kernel_rfl) hc
  have hr : (convert 67 72 (.pointer none)).run Try.prog w = .ok (.pointer none) w := by kernel_rfl
  go_enter Try.func40, Try.ntmps40
  go_wp2
  go_ret
  exact ⟨rfl, rfl⟩
/-- Asked again. -/
theorem get_againS {x : ByteArray} {q : Nat} (h : LzAt w l .nilFunc true c (some ⟨q, 0, none⟩)) (hb : BoxV w 9 q (Value.string x)) :
    Calls Try.prog 21 #[.pointer (some ⟨l, 0, none⟩)] w fun e w' => e = .returned (Value.string x) ∧ Keep (fun _ => False) w w' := by
  have TK := take_againS h
  have hn := neq_noneS
  have fin : ∀ w1, Keep (fun _ => False) w w1 → Calls Try.prog 40 #[.pointer (some ⟨l, 5, none⟩)] w1 (fun e w' => e = .returned (.pointer (some ⟨q, 0, none⟩)) ∧ w1 = w') ∧ w1.cell? ⟨q, 0, none⟩ = some (Value.string x) := fun w1 k => ⟨ploadS l 5 (h.keep k id).c5 (hb.keep k id), (hb.keep k id).cell⟩
  have FIN := Lib.hid fin
  clear fin h hb
  go_enter Try.func21, Try.ntmps21
  go_wp2_with fail
  refine TK.mono ?_
  rintro e w1 ⟨rfl, k1⟩
  obtain ⟨PL, PC⟩ := FIN.out w1 k1
  have K1 := Lib.hid k1
  clear TK k1
  go_wp2_with fail
  refine PL.mono ?_
  rintro e w2 ⟨rfl, rfl⟩
  go_wp2
  go_ret
  exact ⟨rfl, K1.out⟩
/-- Asked first; the function makes the value. -/
theorem get_firstS {f : FuncId} {caps : Array Value} {x : ByteArray} {R : World → World → Prop} {X : Nat → Prop} (hent : ∀ (a : Array Value) (w : World), (callFunc f a).run Try.prog w = .ok (.enter f a) w) (h : LzAt w l (.func (.func f) #[] caps) false false none)
    (hc : ∀ w1, Keep (fun g => g = l) w w1 → Calls Try.prog f caps w1 fun e w2 => e = .returned (Value.string x) ∧ R w1 w2) (hR : ∀ w1 w2, R w1 w2 → Keep X w1 w2) (hX : ¬ X l) :
    Calls Try.prog 21 #[.pointer (some ⟨l, 0, none⟩)] w fun e w' => e = .returned (Value.string x) ∧ GotL w w' l 9 (Value.string x) R := by
  have TK := take_firstS (nb := true) (.inr ⟨f, caps, rfl, rfl⟩) h
  have hn := neq_funcS
  have hn2 : ∀ w1, Keep (fun g => g = l) w w1 → Calls Try.prog 38 #[.func (.func f) #[] caps] w1 fun e w' => e = .returned (Value.string x) ∧ R w1 w' := fun w1 k => try_funcS hent (hc w1 k)
  have HN2 := Lib.hid hn2
  have HRR := Lib.hid hR
  clear h hc hn2 hR
  go_enter Try.func21, Try.ntmps21
  go_wp2_with fail
  refine TK.mono ?_
  rintro e w1 ⟨rfl, h1, k1⟩
  clear TK
  have TR := HN2.out w1 k1
  have H1 := Lib.hid h1
  have K1 := Lib.hid k1
  clear h1 k1
  go_wp2_with fail
  refine TR.mono ?_
  rintro e w2 ⟨rfl, r2⟩
  clear TR
  have k2 := HRR.out _ _ r2
  have h2 := H1.out.keep k2 hX
  have lt2 := h2.lt
  obtain ⟨M, eM⟩ : ∃ M, (w2.alloc (.cells #[(Value.string ⟨#[]⟩)] 9)).setCell ⟨w2.heap.size, 0, none⟩ (Value.string x) = M := ⟨_, rfl⟩
  obtain ⟨bM, kM⟩ := boxedV w2 _ _ M eM
  have hM := h2.keep kM id
  have PS := pstoreS l 5 _ hM.c5 (hM.fz 5) bM
  obtain ⟨M2, e2⟩ : ∃ M2, M.setCell ⟨l, 5, none⟩ (.pointer (some ⟨w2.heap.size, 0, none⟩)) = M2 := ⟨_, rfl⟩
  rw [e2] at PS
  have k2' : Keep (fun g => g = l) M M2 := by rw [← e2]; exact keep_one M ⟨l, 5, none⟩ _
  have b2 : BoxV M2 9 w2.heap.size (Value.string x) := bM.keep k2' (by omega)
  have ne : ∀ k j : Nat, k ≠ j → (⟨l, k, none⟩ : Addr) ≠ ⟨l, j, none⟩ := fun k j hk e => hk (congrArg Addr.off e)
  have hl2 : LzAt M2 l .nilFunc true true (some ⟨w2.heap.size, 0, none⟩) := by
    rw [← e2]
    exact ⟨(World.cell?_setCell_other _ _ _ _ (ne _ _ (by decide))).trans hM.c0, (World.cell?_setCell_other _ _ _ _ (ne _ _ (by decide))).trans hM.c1, (World.cell?_setCell_other _ _ _ _ (ne _ _ (by decide))).trans hM.c2, (World.cell?_setCell_other _ _ _ _ (ne _ _ (by decide))).trans hM.c4, World.cell?_setCell_same _ _ _ hM.c5, fun i => by rw [World.frozen?_setCell]; exact hM.fz i⟩
  have PL := ploadS l 5 hl2.c5 b2
  have PC := b2.cell
  have GOT := Lib.hid (show GotL w M2 l 9 (Value.string x) R from ⟨w1, w2, w2.heap.size, K1.out, r2, (kM.mono fun _ e => e.elim).trans k2', hl2, b2, Nat.le_refl _⟩)
  clear hl2 b2 e2 hM bM kM k2' h2 k2 r2 H1 K1 HRR HN2 lt2
  go_wp2_with fail
  refine PS.mono ?_
  rintro e w3 ⟨rfl, rfl⟩
  clear PS eM
  go_wp2_with fail
  refine PL.mono ?_
  rintro e w4 ⟨rfl, rfl⟩
  go_wp2
  go_ret
  exact ⟨rfl, GOT.out⟩
/-- There is no function: the zero value, always. -/
theorem get_noneS (h : (LzAt w l .nilFunc false false none) ∨ LzAt w l .nilFunc true false none) :
    Calls Try.prog 21 #[.pointer (some ⟨l, 0, none⟩)] w fun e w' => e = .returned (Value.string ⟨#[]⟩) ∧ LzAt w' l .nilFunc true false none ∧ Keep (fun g => g = l) w w' := by
  have TK : Calls Try.prog 37 #[.pointer (some ⟨l, 0, none⟩)] w fun e w' => e = .returned .nilFunc ∧ LzAt w' l .nilFunc true false none ∧ Keep (fun g => g = l) w w' := by
    rcases h with h | h
    · exact take_firstS (nb := false) (.inl ⟨rfl, rfl⟩) h
    · exact (take_againS h).mono fun e w' x => ⟨x.1, h.keep x.2 id, x.2.mono fun _ e => e.elim⟩
  have hn := neq_noneS
  clear h
  go_enter Try.func21, Try.ntmps21
  go_wp2_with fail
  refine TK.mono ?_
  rintro e w1 ⟨rfl, h1, k1⟩
  clear TK
  have PL := ploadNS l 5 h1.c5
  have H1 := Lib.hid h1
  have K1 := Lib.hid k1
  clear h1 k1
  go_wp2_with fail
  refine PL.mono ?_
  rintro e w2 ⟨rfl, rfl⟩
  clear PL
  go_wp2
  go_ret
  have ka : Keep (fun _ => False) w1 (w1.alloc (.cells #[(Value.string ⟨#[]⟩)] 9)) := (Keep.refl _ _).alloc _
  exact ⟨rfl, H1.out.keep ka id, K1.out.trans (ka.mono fun _ e => e.elim)⟩
end
section
variable {w w' : World} {l : Nat} {fv : Value} {d c : Bool} {pv : Option Addr} {T : Nat → Prop}
theorem neq_funcU (k : FuncId) (caps : Array Value) (w : World) : (binOp .neq 40 (.func (.func k) #[] caps) .nilFunc).run Try.prog w = .ok (.bool true) w := by kernel_rfl
theorem neq_noneU (w : World) : (binOp .neq 40 .nilFunc .nilFunc).run Try.prog w = .ok (.bool false) w := by kernel_rfl
theorem make_anyU (w : World) (hf : ∃ nb, IsF fv nb) : Calls Try.prog 16 #[fv] w fun e w' => ∃ l, e = .returned (.pointer (some ⟨l, 0, none⟩)) ∧ LzAt w' l fv false false none ∧ Keep (fun _ => False) w w' ∧ w.heap.size ≤ l := by
  obtain ⟨nb, ⟨rfl, _⟩ | ⟨k, caps, rfl, _⟩⟩ := hf
  all_goals
    go_enter Try.func16, Try.ntmps16
    go_wp2
    go_ret
    refine ⟨_, rfl, ⟨?_, ?_, ?_, ?_, ?_, ?_⟩, (Keep.refl _ _).alloc _, Nat.le_refl _⟩
    all_goals simp [dnB]
theorem done_anyU (h : LzAt w l fv d c pv) : Calls Try.prog 19 #[.pointer (some ⟨l, 0, none⟩)] w fun e w' => e = .returned (.bool c) ∧ w = w' := by
  have L := boolLoad l 4 c w h.c4
  clear h
  go_enter Try.func19, Try.ntmps19
  go_wp2_with fail
  refine L.mono ?_
  rintro e w1 ⟨rfl, rfl⟩
  go_wp2
  go_ret
  exact ⟨rfl, rfl⟩
set_option maxRecDepth 100000 in
theorem take1_anyU (bl bf : Nat) {nb : Bool} (hF : IsF fv nb) (hl : w.cell? ⟨bl, 0, none⟩ = some (.pointer (some ⟨l, 0, none⟩))) (hb : w.cell? ⟨bf, 0, none⟩ = some .nilFunc) (fb : w.frozen? ⟨bf, 0, none⟩ = false) (h0 : w.cell? ⟨l, 0, none⟩ = some fv) {u4 : Value} (h4 : w.cell? ⟨l, 4, none⟩ = some u4) (hf : ∀ i, w.frozen? ⟨l, i, none⟩ = false) (hne : bf ≠ l) (hnl : bl ≠ l) (hnb : bl ≠ bf) :
    Calls Try.prog 59 #[.pointer (some ⟨bl, 0, none⟩), .pointer (some ⟨bf, 0, none⟩)] w fun e w' => e = .returned (.tuple #[]) ∧ TookL l bf fv nb w w' := by
  obtain ⟨M2, e2⟩ : ∃ M2, ((w.setCell ⟨bf, 0, none⟩ fv).setCell ⟨l, 0, none⟩ .nilFunc).drew = M2 := ⟨_, rfl⟩
  have W := tookL_of (nb := nb) h0 h4 hb hf fb hne e2
  have k2 : Keep (fun g => g = l ∨ g = bf) w M2 := by rw [← e2]; exact ((((Keep.refl (fun g => g = l ∨ g = bf) w).setCell (p := ⟨bf, 0, none⟩) (.inr rfl) _).setCell (p := ⟨l, 0, none⟩) (.inl rfl) _).drew)
  have b1 : M2.cell? ⟨bl, 0, none⟩ = some (.pointer (some ⟨l, 0, none⟩)) := k2.cell hl (fun e => by rcases e with e | e; exact hnl e; exact hnb e)
  have b2 : M2.cell? ⟨bf, 0, none⟩ = some fv := by
    rw [← e2]
    show ((w.setCell ⟨bf, 0, none⟩ fv).setCell ⟨l, 0, none⟩ .nilFunc).cell? _ = _
    rw [World.cell?_setCell_other _ _ _ _ (fun e => hne (congrArg Addr.block e).symm)]
    exact World.cell?_setCell_same _ _ _ hb
  have b4 : M2.cell? ⟨l, 4, none⟩ = some u4 := by
    rw [← e2]
    show ((w.setCell ⟨bf, 0, none⟩ fv).setCell ⟨l, 0, none⟩ .nilFunc).cell? _ = _
    rw [World.cell?_setCell_other _ _ _ _ (by simp), World.cell?_setCell_other _ _ _ _ (fun e => hne (congrArg Addr.block e))]
    exact h4
  have g4 : M2.frozen? ⟨l, 4, none⟩ = false := by
    rw [← e2]
    show ((w.setCell ⟨bf, 0, none⟩ fv).setCell ⟨l, 0, none⟩ .nilFunc).frozen? _ = _
    rw [World.frozen?_setCell, World.frozen?_setCell]
    exact hf 4
  have BS := boolStore l 4 nb u4 M2.drew b4 g4
  have f0 := hf 0
  have HW := Lib.hid W
  have hq1 := neq_funcU
  have hq2 := neq_noneU
  clear W k2 h4 hf b4 g4
  rcases hF with ⟨rfl, rfl⟩ | ⟨k, caps, rfl, rfl⟩
  all_goals
    go_enter Try.func59, Try.ntmps59
    go_wp2_with fail
    go_region
    clear e2 h0 f0 hl hb fb
    go_wp2_with fail
    go_still_tail 5, (by kernel_rfl)
    try refine wpStill_nil ?_
    change wpList _ _ _ _ _ M2.drew
    go_wp2_with fail
    refine BS.mono ?_
    rintro e w1 ⟨rfl, rfl⟩
    clear BS b1 b2
    go_wp2
    go_end0
    exact ⟨rfl, HW.out⟩
/-- The world behind a first take. -/
theorem took_finU {M M3 : World} {bf : Nat} {nb' : Bool} (h : LzAt M l fv false false none) (e3 : M.setCell ⟨l, 1 + 1, none⟩ (.int .i32 1) = M3) (hne : bf ≠ l) (w2 : World) (W : TookL l bf fv nb' M3 w2) :
    ∃ F, (w2.drew.setCell ⟨l, 1, none⟩ (.int .u32 1)).setCell ⟨l, 1 + 1, none⟩ (.int .i32 0) = F ∧ F.cell? ⟨bf, 0, none⟩ = some fv ∧ F.frozen? ⟨bf, 0, none⟩ = false ∧ LzAt (F.setCell ⟨bf, 0, none⟩ fv) l .nilFunc true nb' none ∧ Keep (fun g => g = l ∨ g = bf) M (F.setCell ⟨bf, 0, none⟩ fv) ∧ (F.setCell ⟨bf, 0, none⟩ fv).cell? ⟨bf, 0, none⟩ = some fv := by
  obtain ⟨W0, W4, Wb, Wk, Wf, Wg, Wo⟩ := W
  have ne : ∀ k j : Nat, k ≠ j → (⟨l, k, none⟩ : Addr) ≠ ⟨l, j, none⟩ := fun k j hk e => hk (congrArg Addr.off e)
  have nb : ∀ k, (⟨l, k, none⟩ : Addr) ≠ ⟨bf, 0, none⟩ := fun k e => hne (congrArg Addr.block e).symm
  have dr : ∀ (x : World) (c : Addr), x.drew.cell? c = x.cell? c := fun _ _ => rfl
  have fr : ∀ (x : World) (c : Addr), x.drew.frozen? c = x.frozen? c := fun _ _ => rfl
  have k3 : Keep (fun g => g = l ∨ g = bf) M M3 := by rw [← e3]; exact (keep_one M ⟨l, 1 + 1, none⟩ _).mono fun _ e => .inl e
  have far : ∀ (i : Nat) (u : Value), i ≠ 1 → i ≠ 2 → w2.cell? ⟨l, i, none⟩ = some u → ((w2.drew.setCell ⟨l, 1, none⟩ (.int .u32 1)).setCell ⟨l, 1 + 1, none⟩ (.int .i32 0)).cell? ⟨l, i, none⟩ = some u := fun i u n1 n2 hu => by
    rw [World.cell?_setCell_other _ _ _ _ (ne _ i (by omega)), World.cell?_setCell_other _ _ _ _ (ne _ i (by omega)), dr]; exact hu
  have at3 : ∀ (i : Nat) (u : Value), i ≠ 2 → M.cell? ⟨l, i, none⟩ = some u → M3.cell? ⟨l, i, none⟩ = some u := fun i u hi hu => by rw [← e3, World.cell?_setCell_other _ _ _ _ (ne _ i (by omega))]; exact hu
  have w1c := Wo 1 _ (by decide) (by decide) (at3 1 _ (by decide) h.c1)
  have w2c := Wo 2 _ (by decide) (by decide) (show M3.cell? ⟨l, 2, none⟩ = some (.int .i32 1) by rw [← e3]; exact World.cell?_setCell_same _ _ _ h.c2)
  obtain ⟨F, eF⟩ : ∃ F, (w2.drew.setCell ⟨l, 1, none⟩ (.int .u32 1)).setCell ⟨l, 1 + 1, none⟩ (.int .i32 0) = F := ⟨_, rfl⟩
  have kF : Keep (fun g => g = l ∨ g = bf) M F := by rw [← eF]; exact ((k3.trans Wk).drew.setCell (p := ⟨l, 1, none⟩) (.inl rfl) (.int .u32 1)).setCell (p := ⟨l, 1 + 1, none⟩) (.inl rfl) (.int .i32 0)
  have cF : F.cell? ⟨bf, 0, none⟩ = some fv := by rw [← eF, World.cell?_setCell_other _ _ _ _ (nb _), World.cell?_setCell_other _ _ _ _ (nb _), dr]; exact Wb
  have fF : F.frozen? ⟨bf, 0, none⟩ = false := by rw [← eF, World.frozen?_setCell, World.frozen?_setCell, fr]; exact Wg
  have lF : LzAt F l .nilFunc true nb' none := by
    rw [← eF]
    refine ⟨far 0 _ (by decide) (by decide) W0, ?_, ?_, far 4 _ (by decide) (by decide) W4, far 5 _ (by decide) (by decide) (Wo 5 _ (by decide) (by decide) (at3 5 _ (by decide) h.c5)), fun i => ?_⟩
    · rw [World.cell?_setCell_other _ _ _ _ (ne _ 1 (by decide))]
      exact World.cell?_setCell_same _ _ _ (u := .int .u32 0) (by rw [dr]; exact w1c)
    · exact World.cell?_setCell_same _ _ _ (u := .int .i32 1) (by rw [World.cell?_setCell_other _ _ _ _ (ne _ _ (by decide)), dr]; exact w2c)
    · rw [World.frozen?_setCell, World.frozen?_setCell, fr]; exact Wf i
  have ks := keep_one F ⟨bf, 0, none⟩ fv
  exact ⟨F, eF, cF, fF, lF.keep ks (fun e => hne (e : l = bf).symm), kF.trans (ks.mono fun _ e => .inr e), World.cell?_setCell_same _ _ _ cF⟩
set_option maxRecDepth 100000 in
theorem take_firstU {nb : Bool} (hF : IsF fv nb) (h : LzAt w l fv false false none) :
    Calls Try.prog 41 #[.pointer (some ⟨l, 0, none⟩)] w fun e w' => e = .returned fv ∧ LzAt w' l .nilFunc true nb none ∧ Keep (fun g => g = l) w w' := by
  obtain ⟨M, eM, m0, m1, f1, kM, sM⟩ := boxesL w l 37 40
  have hM := h.keep kM id
  have lw := h.lt
  obtain ⟨M3, e3⟩ : ∃ M3, M.setCell ⟨l, 1 + 1, none⟩ (.int .i32 1) = M3 := ⟨_, rfl⟩
  have k3 : Keep (fun g => g = l) M M3 := by rw [← e3]; exact keep_one M ⟨l, 1 + 1, none⟩ _
  have ne : ∀ k j : Nat, k ≠ j → (⟨l, k, none⟩ : Addr) ≠ ⟨l, j, none⟩ := fun k j hk e => hk (congrArg Addr.off e)
  have at3 : ∀ (i : Nat) (u : Value), i ≠ 2 → M.cell? ⟨l, i, none⟩ = some u → M3.cell? ⟨l, i, none⟩ = some u := fun i u hi hu => by rw [← e3, World.cell?_setCell_other _ _ _ _ (ne _ i (by omega))]; exact hu
  have fz3 : ∀ i, M3.frozen? ⟨l, i, none⟩ = false := fun i => by rw [← e3, World.frozen?_setCell]; exact hM.fz i
  have n0 : w.heap.size ≠ l := by omega
  have n1 : w.heap.size + 1 ≠ l := by omega
  have TK := take1_anyU (w := M3) (l := l) w.heap.size (w.heap.size + 1) hF (k3.cell m0 n0) (k3.cell m1 n1) ((k3.frozen (a := ⟨w.heap.size + 1, 0, none⟩) (lt_of_cell m1) n1).trans f1) (at3 0 _ (by decide) hM.c0) (at3 4 _ (by decide) hM.c4) fz3 n1 n0 (by omega)
  have on : Calls Try.prog 27 #[.pointer (some ⟨l, 1, none⟩), .func (.func 59) #[] #[.pointer (some ⟨w.heap.size, 0, none⟩), .pointer (some ⟨w.heap.size + 1, 0, none⟩)]] M (OnceDid (TookL l (w.heap.size + 1) fv nb M3) l 1) := by
    refine once_firstU l 1 _ (TookL l (w.heap.size + 1) fv nb M3) M hM.c1 hM.c2 (hM.fz 2) ?_
    rw [e3]
    refine TK.mono ?_
    rintro e w' ⟨rfl, W⟩
    exact ⟨rfl, W, W.2.2.2.2.2.2 1 _ (by decide) (by decide) (at3 1 _ (by decide) hM.c1), W.2.2.2.2.2.2 2 _ (by decide) (by decide) (by rw [← e3]; exact World.cell?_setCell_same _ _ _ hM.c2), W.2.2.2.2.1 1, W.2.2.2.2.1 2⟩
  have fin := took_finU (nb' := nb) hM e3 n1
  have FIN := Lib.hid fin
  have KM := Lib.hid kM
  clear fin TK fz3 at3 k3 e3 ne hM h kM n0 sM m1 f1
  rcases hF with ⟨rfl, rfl⟩ | ⟨k, caps, rfl, rfl⟩
  all_goals
    go_enter Try.func41, Try.ntmps41
    go_wp2_with fail
    refine on.mono ?_
    rintro e w2 ⟨rfl, wx, hx, rfl⟩
    clear on eM
    obtain ⟨F, eF, f1, f2, f3, f4, f5⟩ := FIN.out wx hx
    rw [eF]
    have kA : Keep (fun g => g = l ∨ w.heap.size ≤ g) w _ := (KM.out.mono fun _ e => e.elim).trans (f4.mono fun g e => by
      rcases e with e | e
      · exact .inl e
      · exact .inr (by omega))
    have KK := Lib.hid (show Keep (fun g => g = l) w _ from ⟨kA.os, kA.tape, kA.output, kA.size, fun g hg hn => kA.block g hg fun c => by
      rcases c with c | c
      · exact hn c
      · omega⟩)
    have F3 := Lib.hid f3
    clear f3 f4 kA eF hx FIN KM n1 lw
    go_wp2
    refine bodyPost_ret (v := _) (by simp [results, Try.results41, go_sem, f5]; rfl) rfl ?_
    exact ⟨rfl, F3.out, KK.out⟩
theorem take_againU (h : LzAt w l .nilFunc true c pv) :
    Calls Try.prog 41 #[.pointer (some ⟨l, 0, none⟩)] w fun e w' => e = .returned .nilFunc ∧ Keep (fun _ => False) w w' := by
  obtain ⟨M, eM, m0, m1, f1, kM, sM⟩ := boxesL w l 37 40
  have hM := h.keep kM id
  have on := once_done l 1 (.func (.func 59) #[] #[.pointer (some ⟨w.heap.size, 0, none⟩), .pointer (some ⟨w.heap.size + 1, 0, none⟩)]) M hM.c1
  have KK := Lib.hid (kM.older (keep_one M ⟨w.heap.size + 1, 0, none⟩ .nilFunc) (fun j e => by have e : j = w.heap.size + 1 := e; omega))
  have f5 := World.cell?_setCell_same M ⟨w.heap.size + 1, 0, none⟩ .nilFunc m1
  clear h hM kM sM
  go_enter Try.func41, Try.ntmps41
  go_wp2_with fail
  refine on.mono ?_
  rintro e w2 ⟨rfl, rfl⟩
  clear on eM
  go_wp2
  refine bodyPost_ret (v := _) (by simp [results, Try.results41, go_sem, f5]; rfl) rfl ?_
  exact ⟨rfl, KK.out⟩
theorem idleTU (w : World) : CallsD Try.prog 60 #[] .returning w fun e u' w' => e = .returned (.tuple #[]) ∧ u' = .returning ∧ w' = w := by
  refine callsD_of_wpS Try.func60 rfl fun c₀ cs hu => ?_
  apply wpS_region
  simp [wpOpsS, go_sem, recoverD, hu, Try.ntmps60, bodyPostS, results, Try.results60]
  cases c₀
  simp_all
theorem try_funcU {f : FuncId} {caps : Array Value} {x : Int} {R : World → Prop} (hent : ∀ (a : Array Value) (w : World), (callFunc f a).run Try.prog w = .ok (.enter f a) w) (hc : Calls Try.prog f caps w fun e w' => e = .returned (Value.int .u64 x) ∧ R w') :
    Calls Try.prog 42 #[.func (.func f) #[] caps] w fun e w' => e = .returned (Value.int .u64 x) ∧ R w' := by
  have hmf : ∀ (fn : Fn) (first cap : Array Value) (w : World), (Instr.makeFunc fn first cap).run Try.prog w = .ok (.func fn first cap) w := fun _ _ _ _ => rfl
  go_enter_defers Try.func42, Try.ntmps42
  go_wp2_with fail
  refine hc.mono ?_
  rintro e w2 ⟨rfl, b2⟩
  clear hc
  go_wp2
  refine leaves_cons (f := 60) (args := #[]) (by simp) (by simp [go_sem]) ?_
  refine (idleTU _).mono ?_
  rintro e u' w'' ⟨rfl, rfl, rfl⟩
  simp [Leaves, settle, results, Try.results42, go_sem]
  exact b2
theorem sizeU : (Try.prog.info? 39).map (fun i => decide (i.size = 0)) = some false := by kernel_rfl
theorem liesU : liesAt Try.prog Try.prog.depth 39 (1 / Try.prog.cellsOf 39) 0 39 1 = true := by kernel_rfl
theorem to_rawU {q : Nat} {v : Value} (h : BoxV w 39 q v) : (convert 78 67 (.pointer (some ⟨q, 0, none⟩))).run Try.prog w = .ok (.pointer (some ⟨q, 0, none⟩)) w :=
  run_convert_to_unsafe Try.underlying78 Try.underlying67 sizeU h.cell
theorem of_rawU {q : Nat} {v : Value} (h : BoxV w 39 q v) : (convert 67 78 (.pointer (some ⟨q, 0, none⟩))).run Try.prog w = .ok (.pointer (some ⟨q, 0, none⟩)) w := by
  obtain ⟨i, hi, _⟩ := Option.map_eq_some_iff.1 sizeU
  exact Lib.run_from_unsafe _ (⟨q, 0, none⟩ : Addr) Try.underlying67 Try.underlying78 hi h.shape liesU
theorem ploadU (m o : Nat) {q : Nat} {v : Value} (hc : w.cell? ⟨m, o, none⟩ = some (.pointer (some ⟨q, 0, none⟩))) (h : BoxV w 39 q v) :
    Calls Try.prog 44 #[.pointer (some ⟨m, o, none⟩)] w fun e w' => e = .returned (.pointer (some ⟨q, 0, none⟩)) ∧ w = w' := by
  have hl := run_loadp (P := Try.prog) Try.func56 (by kernel_rfl) (by kernel_rfl) (by kernel_rfl) (by kernel_rfl) hc
  have hr := of_rawU h
  go_enter Try.func44, Try.ntmps44
  go_wp2
  go_ret
  exact ⟨rfl, rfl⟩
theorem pstoreU (m o : Nat) {q : Nat} {v : Value} (u : Value) (hc : w.cell? ⟨m, o, none⟩ = some u) (hz : w.frozen? ⟨m, o, none⟩ = false) (h : BoxV w 39 q v) :
    Calls Try.prog 43 #[.pointer (some ⟨m, o, none⟩), .pointer (some ⟨q, 0, none⟩)] w fun e w' => e = .returned (.tuple #[]) ∧ w' = w.setCell ⟨m, o, none⟩ (.pointer (some ⟨q, 0, none⟩)) := by
  have hl := run_storep (P := Try.prog) Try.func55 (by kernel_rfl) (by kernel_rfl) (by kernel_rfl) (by kernel_rfl) (y := some ⟨q, 0, none⟩) hc hz
  have hr := to_rawU h
  go_enter Try.func43, Try.ntmps43
  go_wp2
  go_end0
  exact ⟨rfl, rfl⟩
theorem ploadNU (m o : Nat) (hc : w.cell? ⟨m, o, none⟩ = some (.pointer none)) :
    Calls Try.prog 44 #[.pointer (some ⟨m, o, none⟩)] w fun e w' => e = .returned (.pointer none) ∧ w = w' := by
  have hl := run_loadp (P := Try.prog) Try.func56 (by kernel_rfl) (by kernel_rfl) (by kernel_rfl) (by kernel_rfl) hc
  have hr : (convert 67 78 (.pointer none)).run Try.prog w = .ok (.pointer none) w := by kernel_rfl
  go_enter Try.func44, Try.ntmps44
  go_wp2
  go_ret
  exact ⟨rfl, rfl⟩
/-- Asked again. -/
theorem get_againU {x : Int} {q : Nat} (h : LzAt w l .nilFunc true c (some ⟨q, 0, none⟩)) (hb : BoxV w 39 q (Value.int .u64 x)) :
    Calls Try.prog 22 #[.pointer (some ⟨l, 0, none⟩)] w fun e w' => e = .returned (Value.int .u64 x) ∧ Keep (fun _ => False) w w' := by
  have TK := take_againU h
  have hn := neq_noneU
  have fin : ∀ w1, Keep (fun _ => False) w w1 → Calls Try.prog 44 #[.pointer (some ⟨l, 5, none⟩)] w1 (fun e w' => e = .returned (.pointer (some ⟨q, 0, none⟩)) ∧ w1 = w') ∧ w1.cell? ⟨q, 0, none⟩ = some (Value.int .u64 x) := fun w1 k => ⟨ploadU l 5 (h.keep k id).c5 (hb.keep k id), (hb.keep k id).cell⟩
  have FIN := Lib.hid fin
  clear fin h hb
  go_enter Try.func22, Try.ntmps22
  go_wp2_with fail
  refine TK.mono ?_
  rintro e w1 ⟨rfl, k1⟩
  obtain ⟨PL, PC⟩ := FIN.out w1 k1
  have K1 := Lib.hid k1
  clear TK k1
  go_wp2_with fail
  refine PL.mono ?_
  rintro e w2 ⟨rfl, rfl⟩
  go_wp2
  go_ret
  exact ⟨rfl, K1.out⟩
/-- Asked first; the function makes the value. -/
theorem get_firstU {f : FuncId} {caps : Array Value} {x : Int} {R : World → World → Prop} {X : Nat → Prop} (hent : ∀ (a : Array Value) (w : World), (callFunc f a).run Try.prog w = .ok (.enter f a) w) (h : LzAt w l (.func (.func f) #[] caps) false false none)
    (hc : ∀ w1, Keep (fun g => g = l) w w1 → Calls Try.prog f caps w1 fun e w2 => e = .returned (Value.int .u64 x) ∧ R w1 w2) (hR : ∀ w1 w2, R w1 w2 → Keep X w1 w2) (hX : ¬ X l) :
    Calls Try.prog 22 #[.pointer (some ⟨l, 0, none⟩)] w fun e w' => e = .returned (Value.int .u64 x) ∧ GotL w w' l 39 (Value.int .u64 x) R := by
  have TK := take_firstU (nb := true) (.inr ⟨f, caps, rfl, rfl⟩) h
  have hn := neq_funcU
  have hn2 : ∀ w1, Keep (fun g => g = l) w w1 → Calls Try.prog 42 #[.func (.func f) #[] caps] w1 fun e w' => e = .returned (Value.int .u64 x) ∧ R w1 w' := fun w1 k => try_funcU hent (hc w1 k)
  have HN2 := Lib.hid hn2
  have HRR := Lib.hid hR
  clear h hc hn2 hR
  go_enter Try.func22, Try.ntmps22
  go_wp2_with fail
  refine TK.mono ?_
  rintro e w1 ⟨rfl, h1, k1⟩
  clear TK
  have TR := HN2.out w1 k1
  have H1 := Lib.hid h1
  have K1 := Lib.hid k1
  clear h1 k1
  go_wp2_with fail
  refine TR.mono ?_
  rintro e w2 ⟨rfl, r2⟩
  clear TR
  have k2 := HRR.out _ _ r2
  have h2 := H1.out.keep k2 hX
  have lt2 := h2.lt
  obtain ⟨M, eM⟩ : ∃ M, (w2.alloc (.cells #[(Value.int .u64 0)] 39)).setCell ⟨w2.heap.size, 0, none⟩ (Value.int .u64 x) = M := ⟨_, rfl⟩
  obtain ⟨bM, kM⟩ := boxedV w2 _ _ M eM
  have hM := h2.keep kM id
  have PS := pstoreU l 5 _ hM.c5 (hM.fz 5) bM
  obtain ⟨M2, e2⟩ : ∃ M2, M.setCell ⟨l, 5, none⟩ (.pointer (some ⟨w2.heap.size, 0, none⟩)) = M2 := ⟨_, rfl⟩
  rw [e2] at PS
  have k2' : Keep (fun g => g = l) M M2 := by rw [← e2]; exact keep_one M ⟨l, 5, none⟩ _
  have b2 : BoxV M2 39 w2.heap.size (Value.int .u64 x) := bM.keep k2' (by omega)
  have ne : ∀ k j : Nat, k ≠ j → (⟨l, k, none⟩ : Addr) ≠ ⟨l, j, none⟩ := fun k j hk e => hk (congrArg Addr.off e)
  have hl2 : LzAt M2 l .nilFunc true true (some ⟨w2.heap.size, 0, none⟩) := by
    rw [← e2]
    exact ⟨(World.cell?_setCell_other _ _ _ _ (ne _ _ (by decide))).trans hM.c0, (World.cell?_setCell_other _ _ _ _ (ne _ _ (by decide))).trans hM.c1, (World.cell?_setCell_other _ _ _ _ (ne _ _ (by decide))).trans hM.c2, (World.cell?_setCell_other _ _ _ _ (ne _ _ (by decide))).trans hM.c4, World.cell?_setCell_same _ _ _ hM.c5, fun i => by rw [World.frozen?_setCell]; exact hM.fz i⟩
  have PL := ploadU l 5 hl2.c5 b2
  have PC := b2.cell
  have GOT := Lib.hid (show GotL w M2 l 39 (Value.int .u64 x) R from ⟨w1, w2, w2.heap.size, K1.out, r2, (kM.mono fun _ e => e.elim).trans k2', hl2, b2, Nat.le_refl _⟩)
  clear hl2 b2 e2 hM bM kM k2' h2 k2 r2 H1 K1 HRR HN2 lt2
  go_wp2_with fail
  refine PS.mono ?_
  rintro e w3 ⟨rfl, rfl⟩
  clear PS eM
  go_wp2_with fail
  refine PL.mono ?_
  rintro e w4 ⟨rfl, rfl⟩
  go_wp2
  go_ret
  exact ⟨rfl, GOT.out⟩
/-- There is no function: the zero value, always. -/
theorem get_noneU (h : (LzAt w l .nilFunc false false none) ∨ LzAt w l .nilFunc true false none) :
    Calls Try.prog 22 #[.pointer (some ⟨l, 0, none⟩)] w fun e w' => e = .returned (Value.int .u64 0) ∧ LzAt w' l .nilFunc true false none ∧ Keep (fun g => g = l) w w' := by
  have TK : Calls Try.prog 41 #[.pointer (some ⟨l, 0, none⟩)] w fun e w' => e = .returned .nilFunc ∧ LzAt w' l .nilFunc true false none ∧ Keep (fun g => g = l) w w' := by
    rcases h with h | h
    · exact take_firstU (nb := false) (.inl ⟨rfl, rfl⟩) h
    · exact (take_againU h).mono fun e w' x => ⟨x.1, h.keep x.2 id, x.2.mono fun _ e => e.elim⟩
  have hn := neq_noneU
  clear h
  go_enter Try.func22, Try.ntmps22
  go_wp2_with fail
  refine TK.mono ?_
  rintro e w1 ⟨rfl, h1, k1⟩
  clear TK
  have PL := ploadNU l 5 h1.c5
  have H1 := Lib.hid h1
  have K1 := Lib.hid k1
  clear h1 k1
  go_wp2_with fail
  refine PL.mono ?_
  rintro e w2 ⟨rfl, rfl⟩
  clear PL
  go_wp2
  go_ret
  have ka : Keep (fun _ => False) w1 (w1.alloc (.cells #[(Value.int .u64 0)] 39)) := (Keep.refl _ _).alloc _
  exact ⟨rfl, H1.out.keep ka id, K1.out.trans (ka.mono fun _ e => e.elim)⟩
end
end Go.Proofs.Ytamahfpfminhoaa
