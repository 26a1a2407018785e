/- Proved here: vinculumlaw18.OutcomeLazy returns true and leaves its arguments as they were, for any int, any string and any int; no further condition. -/
import Derived.Test.YtamahfpfminhoaaOcD
import Derived.ChangeOld
import Derived.BigQuiet
import Derived.Deep.RegionHeld3
import Derived.Deep.QuietTactic
import Derived.Deep.LoopGhost
import Derived.Deep.CutRange
import Derived.Deep.CutBlock
namespace Go.Proofs.Ytamahfpfminhoaa.outcomeLazy
open Go.ChangeShapes Go.WideShapes Go.ChangeAt Go.RowKit
open Go.ChangeMaps (open_string shut_string)
set_option linter.unusedVariables false
theorem ent1 (a : Array Value) (w : World) : (callFunc 13 a).run Try.prog w = .ok (.enter 13 a) w := by kernel_rfl
theorem ent2 (a : Array Value) (w : World) : (callFunc 15 a).run Try.prog w = .ok (.enter 15 a) w := by kernel_rfl
def ones (f : Bool) : Int := if f then 0 else 1
/-- The blocks, in the order in which they came: n's, s's, calls', the three Lazies. -/
structure Ord (W : World) (bn bs bc la lb lc : Nat) : Prop where
  o : W.heap.size ≤ bn ∧ bn < bs ∧ bs < bc ∧ bc < la ∧ la < lb ∧ lb < lc
/-- Where all stands: fa, fb: not yet asked. -/
structure LS (W w : World) (n : Int) (s : ByteArray) (bn bs bc la lb lc : Nat) (fa fb fc : Bool) : Prop where
  cn : w.cell? ⟨bn, 0, none⟩ = some (.int .i64 n)
  cs : w.cell? ⟨bs, 0, none⟩ = some (.string s)
  cc : w.cell? ⟨bc, 0, none⟩ = some (.int .i64 (ones fa))
  fz : w.frozen? ⟨bc, 0, none⟩ = false
  a : (fa = true ∧ LzAt w la (.func (.func 13) #[] #[.pointer (some ⟨bc, 0, none⟩), .pointer (some ⟨bn, 0, none⟩)]) false false none) ∨ (fa = false ∧ ∃ q, LzAt w la .nilFunc true true (some ⟨q, 0, none⟩) ∧ BoxV w 3 q (.int .i64 n) ∧ lc < q)
  b : (fb = true ∧ LzAt w lb (.func (.func 15) #[] #[.pointer (some ⟨bs, 0, none⟩)]) false false none) ∨ (fb = false ∧ ∃ q, LzAt w lb .nilFunc true true (some ⟨q, 0, none⟩) ∧ BoxV w 9 q (.string s) ∧ lc < q)
  c : LzAt w lc .nilFunc (!fc) false none
  bl : Below W.heap.size W w
section
variable {W w w' : World} {n : Int} {s : ByteArray} {bn bs bc la lb lc : Nat} {fa fb fc : Bool}
theorem LS.lt (h : LS W w n s bn bs bc la lb lc fa fb fc) : lc < w.heap.size := h.c.lt
theorem LS.same (h : LS W w n s bn bs bc la lb lc fa fb fc) (K : Keep (fun _ => False) w w') : LS W w' n s bn bs bc la lb lc fa fb fc :=
  ⟨K.cell h.cn id, K.cell h.cs id, K.cell h.cc id, (K.frozen (a := ⟨bc, 0, none⟩) (lt_of_cell h.cc) id).trans h.fz, h.a.imp (fun x => ⟨x.1, x.2.keep K id⟩) (fun ⟨e, q, a, b, c⟩ => ⟨e, q, a.keep K id, b.keep K id, c⟩), h.b.imp (fun x => ⟨x.1, x.2.keep K id⟩) (fun ⟨e, q, a, b, c⟩ => ⟨e, q, a.keep K id, b.keep K id, c⟩), h.c.keep K id, h.bl.trans (K.below h.bl.size (fun _ e => e.elim))⟩
theorem boxesO (w : World) (n : Int) (s : ByteArray) : ∃ M, (((w.alloc (.cells #[.int .i64 n] 3)).alloc (.cells #[.string s] 9)).alloc (.cells #[.int .i64 0] 3)).setCell ⟨w.heap.size + 1 + 1, 0, none⟩ (.int .i64 0) = M ∧
    M.cell? ⟨w.heap.size, 0, none⟩ = some (.int .i64 n) ∧ M.cell? ⟨w.heap.size + 1, 0, none⟩ = some (.string s) ∧ M.cell? ⟨w.heap.size + 1 + 1, 0, none⟩ = some (.int .i64 0) ∧ M.frozen? ⟨w.heap.size + 1 + 1, 0, none⟩ = false ∧ Keep (fun _ => False) w M ∧ M.heap.size = w.heap.size + 3 := by
  obtain ⟨w1, e1⟩ : ∃ w1, w.alloc (.cells #[.int .i64 n] 3) = w1 := ⟨_, rfl⟩
  have s1 : w1.heap.size = w.heap.size + 1 := by rw [← e1]; simp
  have a0 : w1.cell? ⟨w.heap.size, 0, none⟩ = some (.int .i64 n) := by rw [← e1]; simp
  have k1 : Keep (fun _ => False) w w1 := by rw [← e1]; exact (Keep.refl _ _).alloc _
  rw [e1]
  obtain ⟨w2, e2⟩ : ∃ w2, w1.alloc (.cells #[.string s] 9) = w2 := ⟨_, rfl⟩
  have s2 : w2.heap.size = w.heap.size + 1 + 1 := by rw [← e2, World.size_alloc, s1]
  have a1 : w2.cell? ⟨w.heap.size + 1, 0, none⟩ = some (.string s) := by rw [← e2, ← s1]; simp
  have k2 : Keep (fun _ => False) w1 w2 := by rw [← e2]; exact (Keep.refl _ _).alloc _
  rw [e2]
  obtain ⟨M, e3, b2, c2, k3, s3⟩ := box1 w2 (.int .i64 0) 3
  rw [s2] at e3 b2 c2
  exact ⟨M, e3, k3.cell (k2.cell a0 id) id, k3.cell a1 id, b2, c2, (k1.trans k2).trans k3, by omega⟩
theorem clo1 (hn : -9223372036854775808 ≤ n ∧ n ≤ 9223372036854775807) (hc : w.cell? ⟨bc, 0, none⟩ = some (.int .i64 0)) (hf : w.frozen? ⟨bc, 0, none⟩ = false) (hx : w.cell? ⟨bn, 0, none⟩ = some (.int .i64 n)) (hne : bc ≠ bn) :
    Calls Try.prog 13 #[.pointer (some ⟨bc, 0, none⟩), .pointer (some ⟨bn, 0, none⟩)] w fun e w' => e = .returned (.int .i64 n) ∧ w' = w.setCell ⟨bc, 0, none⟩ (.int .i64 1) := by
  have wr : IntKind.i64.wrap (IntKind.i64.wrap (n + 1) - 1) = n := by
    rw [IntKind.wrap_i64, IntKind.wrap_i64]; omega
  obtain ⟨z, ez⟩ : ∃ z, IntKind.i64.wrap (n + 1) = z := ⟨_, rfl⟩
  rw [ez] at wr
  have hx' : (w.setCell ⟨bc, 0, none⟩ (.int .i64 1)).cell? ⟨bn, 0, none⟩ = some (.int .i64 n) := by rw [World.cell?_setCell_other _ _ _ _ (fun e => hne (congrArg Addr.block e))]; exact hx
  have hc' : (w.setCell ⟨bc, 0, none⟩ (.int .i64 1)).cell? ⟨bc, 0, none⟩ = some (.int .i64 1) := World.cell?_setCell_same _ _ _ hc
  go_enter Try.func13, Try.ntmps13
  go_wp2
  go_ret
  exact ⟨rfl, rfl⟩
theorem clo2 (hx : w.cell? ⟨bs, 0, none⟩ = some (.string s)) :
    Calls Try.prog 15 #[.pointer (some ⟨bs, 0, none⟩)] w fun e w' => e = .returned (.string s) ∧ w = w' := by
  go_enter Try.func15, Try.ntmps15
  go_wp2
  go_ret
  exact ⟨rfl, rfl⟩
/-- What turns the first Lazy's blocks alone leaves the rest. -/
theorem LS.geta (h : LS W w n s bn bs bc la lb lc fa fb fc) (o : Ord W bn bs bc la lb lc) (hn : -9223372036854775808 ≤ n ∧ n ≤ 9223372036854775807) :
    Calls Try.prog 20 #[.pointer (some ⟨la, 0, none⟩)] w fun e w' => e = .returned (.int .i64 n) ∧ LS W w' n s bn bs bc la lb lc false fb fc := by
  obtain ⟨o1, o2, o3, o4, o5, o6⟩ := o.o
  rcases h.a with ⟨rfl, ha⟩ | ⟨rfl, q, ha, hb, hq⟩
  · refine (get_firstI (R := fun w1 w2 => w2 = w1.setCell ⟨bc, 0, none⟩ (.int .i64 1)) (X := fun g => g = bc) ent1 ha (fun w1 k => clo1 hn (k.cell h.cc (show ¬ bc = la by omega)) ((k.frozen (a := ⟨bc, 0, none⟩) (lt_of_cell h.cc) (show ¬ bc = la by omega)).trans h.fz) (k.cell h.cn (show ¬ bn = la by omega)) (by omega)) (fun w1 w2 e => by subst e; exact keep_one w1 ⟨bc, 0, none⟩ _) (by omega)).mono ?_
    rintro e w' ⟨rfl, w1, w2, q, k1, rfl, k2, ha', hb', hq⟩
    have kb := keep_one w1 ⟨bc, 0, none⟩ (.int .i64 1)
    have K : Keep (fun g => g = la ∨ g = bc) w w' := ((k1.mono fun _ e => .inl e).trans (kb.mono fun _ e => .inr e)).trans (k2.mono fun _ e => .inl e)
    have lt := h.lt
    have s1 := k1.size
    have s2 := kb.size
    refine ⟨rfl, K.cell h.cn (by show ¬ (bn = la ∨ bn = bc); omega), K.cell h.cs (by show ¬ (bs = la ∨ bs = bc); omega), k2.cell (World.cell?_setCell_same _ _ _ (k1.cell h.cc (show ¬ bc = la by omega))) (show ¬ bc = la by omega), ?_, .inr ⟨rfl, q, ha', hb', by omega⟩, ?_, h.c.keep K (by omega), h.bl.trans (K.below h.bl.size (fun g hg => by omega))⟩
    · have f1 := (k1.frozen (a := ⟨bc, 0, none⟩) (lt_of_cell h.cc) (show ¬ bc = la by omega)).trans h.fz
      have c1 := lt_of_cell (k1.cell h.cc (show ¬ bc = la by omega))
      exact (k2.frozen (a := ⟨bc, 0, none⟩) (Nat.lt_of_lt_of_le c1 s2) (show ¬ bc = la by omega)).trans (by rw [World.frozen?_setCell]; exact f1)
    · rcases h.b with ⟨e, hB⟩ | ⟨e, q2, hB, hB2, hq2⟩
      · exact .inl ⟨e, hB.keep K (by omega)⟩
      · exact .inr ⟨e, q2, hB.keep K (by omega), hB2.keep K (by omega), hq2⟩
  · refine (get_againI ha hb).mono ?_
    rintro e w' ⟨rfl, K⟩
    exact ⟨rfl, h.same K⟩
theorem LS.getb (o : Ord W bn bs bc la lb lc) (h : LS W w n s bn bs bc la lb lc fa fb fc) :
    Calls Try.prog 21 #[.pointer (some ⟨lb, 0, none⟩)] w fun e w' => e = .returned (.string s) ∧ LS W w' n s bn bs bc la lb lc fa false fc := by
  obtain ⟨o1, o2, o3, o4, o5, o6⟩ := o.o
  rcases h.b with ⟨rfl, ha⟩ | ⟨rfl, q, ha, hb, hq⟩
  · refine (get_firstS (R := fun w1 w2 => w1 = w2) (X := fun _ => False) ent2 ha (fun w1 k => clo2 (k.cell h.cs (show ¬ bs = lb by omega))) (fun w1 w2 e => by subst e; exact Keep.refl _ _) id).mono ?_
    rintro e w' ⟨rfl, w1, w2, q, k1, rfl, k2, ha', hb', hq⟩
    have K := k1.trans k2
    have lt := h.lt
    have s1 := k1.size
    refine ⟨rfl, K.cell h.cn (show ¬ bn = lb by omega), K.cell h.cs (show ¬ bs = lb by omega), K.cell h.cc (show ¬ bc = lb by omega), (K.frozen (a := ⟨bc, 0, none⟩) (lt_of_cell h.cc) (show ¬ bc = lb by omega)).trans h.fz, ?_, .inr ⟨rfl, q, ha', hb', by omega⟩, h.c.keep K (by omega), h.bl.trans (K.below h.bl.size (fun g hg => by omega))⟩
    rcases h.a with ⟨e, hB⟩ | ⟨e, q2, hB, hB2, hq2⟩
    · exact .inl ⟨e, hB.keep K (by omega)⟩
    · exact .inr ⟨e, q2, hB.keep K (by omega), hB2.keep K (by omega), hq2⟩
  · refine (get_againS ha hb).mono ?_
    rintro e w' ⟨rfl, K⟩
    exact ⟨rfl, h.same K⟩
theorem LS.getc (o : Ord W bn bs bc la lb lc) (h : LS W w n s bn bs bc la lb lc fa fb fc) :
    Calls Try.prog 22 #[.pointer (some ⟨lc, 0, none⟩)] w fun e w' => e = .returned (.int .u64 0) ∧ LS W w' n s bn bs bc la lb lc fa fb false := by
  obtain ⟨o1, o2, o3, o4, o5, o6⟩ := o.o
  refine (get_noneU (by have := h.c; cases fc; exact .inr this; exact .inl this)).mono ?_
  rintro e w' ⟨rfl, hc, K⟩
  refine ⟨rfl, K.cell h.cn (show ¬ bn = lc by omega), K.cell h.cs (show ¬ bs = lc by omega), K.cell h.cc (show ¬ bc = lc by omega), (K.frozen (a := ⟨bc, 0, none⟩) (lt_of_cell h.cc) (show ¬ bc = lc by omega)).trans h.fz, ?_, ?_, hc, h.bl.trans (K.below h.bl.size (fun g hg => by omega))⟩
  · rcases h.a with ⟨e, hB⟩ | ⟨e, q2, hB, hB2, hq2⟩
    · exact .inl ⟨e, hB.keep K (by omega)⟩
    · exact .inr ⟨e, q2, hB.keep K (by omega), hB2.keep K (by omega), hq2⟩
  · rcases h.b with ⟨e, hB⟩ | ⟨e, q2, hB, hB2, hq2⟩
    · exact .inl ⟨e, hB.keep K (by omega)⟩
    · exact .inr ⟨e, q2, hB.keep K (by omega), hB2.keep K (by omega), hq2⟩
theorem LS.donea (h : LS W w n s bn bs bc la lb lc fa fb fc) : Calls Try.prog 17 #[.pointer (some ⟨la, 0, none⟩)] w fun e w' => e = .returned (.bool (!fa)) ∧ w = w' := by
  rcases h.a with ⟨rfl, ha⟩ | ⟨rfl, q, ha, hb, hq⟩
  · exact done_anyI ha
  · exact done_anyI ha
theorem LS.doneb (h : LS W w n s bn bs bc la lb lc fa fb fc) : Calls Try.prog 18 #[.pointer (some ⟨lb, 0, none⟩)] w fun e w' => e = .returned (.bool (!fb)) ∧ w = w' := by
  rcases h.b with ⟨rfl, ha⟩ | ⟨rfl, q, ha, hb, hq⟩
  · exact done_anyS ha
  · exact done_anyS ha
end
def Rel (W : World) (n : Int) (s : ByteArray) (bn bs bc la lb lc k : Nat) (iv : Value) (wr : World) : Prop :=
  ∃ fa fb fc, iv = .int .i64 k ∧ LS W wr n s bn bs bc la lb lc fa fb fc ∧ (0 < k → fa = false ∧ fb = false)
set_option maxRecDepth 100000 in
set_option maxHeartbeats 8000000 in
theorem walk (a0 : Int) (a1 : ByteArray) (a2 : Int) (w : World) (w0 : (Lit.int .i64 a0).wf = true) (w1 : a1.size ≤ maxLen) (w2 : (Lit.int .i64 a2).wf = true) :
    Calls Try.prog 5 #[.int .i64 a0, .string a1, .int .i64 a2] w fun e w' => e = .returned (.bool true) ∧ Below w.heap.size w w' := by
  have u0 := bounds_i64 w0
  obtain ⟨t, et⟩ : ∃ n : Nat, a2 % 16 = (n : Int) := ⟨(a2 % 16).toNat, by omega⟩
  have mt : bits .and .i64 a2 15 = (t : Int) := (i64_mask4 a2).trans et
  have t16 : t ≤ 15 := by omega
  clear w0 w1 w2 et
  obtain ⟨M, eM, m0, m1, m2, f2, kM, sM⟩ := boxesO w a0 a1
  go_enter Try.func5, Try.ntmps5
  go_wp2_with fail
  refine (make_anyI M ⟨true, .inr ⟨_, _, rfl, rfl⟩⟩).mono ?_
  rintro e w1 ⟨la, rfl, z1, k1, g1⟩
  go_wp2_with fail
  refine (make_anyS w1 ⟨true, .inr ⟨_, _, rfl, rfl⟩⟩).mono ?_
  rintro e w2 ⟨lb, rfl, z2, k2, g2⟩
  go_wp2_with fail
  refine (make_anyU w2 ⟨false, .inl ⟨rfl, rfl⟩⟩).mono ?_
  rintro e w3 ⟨lc, rfl, z3, k3, g3⟩
  have l1 := z1.lt
  have l2 := z2.lt
  have OR : Ord w w.heap.size (w.heap.size + 1) (w.heap.size + 1 + 1) la lb lc := ⟨by omega⟩
  have kk := (k1.trans k2).trans k3
  have L : LS w w3 a0 a1 w.heap.size (w.heap.size + 1) (w.heap.size + 1 + 1) la lb lc true true true :=
    ⟨kk.cell m0 id, kk.cell m1 id, kk.cell m2 id, (kk.frozen (a := ⟨w.heap.size + 1 + 1, 0, none⟩) (lt_of_cell m2) id).trans f2, .inl ⟨rfl, (z1.keep k2 id).keep k3 id⟩, .inl ⟨rfl, z2.keep k3 id⟩, z3, (kM.trans kk).below (Nat.le_refl _) (fun _ e => e.elim)⟩
  have cc : w3.cell? ⟨w.heap.size + 1 + 1, 0, none⟩ = some (.int .i64 0) := L.cc
  have DC : Calls Try.prog 19 #[.pointer (some ⟨lc, 0, none⟩)] w3 fun e w' => e = .returned (.bool false) ∧ w3 = w' := done_anyU z3
  clear z1 z2 z3 k1 k2 k3 kk l1 l2 g1 g2 g3 m0 m1 m2 f2 kM sM eM
  go_wp2_with fail
  refine L.donea.mono ?_
  rintro e y ⟨rfl, rfl⟩
  go_wp2_with fail
  refine L.doneb.mono ?_
  rintro e y ⟨rfl, rfl⟩
  go_wp2_with fail
  refine DC.mono ?_
  rintro e y ⟨rfl, rfl⟩
  clear DC
  have tp : ∃ t1, t + 1 = t1 := ⟨_, rfl⟩
  obtain ⟨t1, et1⟩ := tp
  have ET := Lib.hid et1
  clear et1
  go_wp2
  go_loopg [11] t1 (fun mm i wr => ∃ k : Nat, mm + k = t1 ∧ Rel w a0 a1 w.heap.size (w.heap.size + 1) (w.heap.size + 1 + 1) la lb lc k i wr)
  case atStart => exact ⟨0, by omega, true, true, true, rfl, L, fun e => by omega⟩
  case round =>
    obtain ⟨k, hgk, fa, fb, fc, rfl, B, hff⟩ := hrel
    clear L cc
    by_cases hlt : k ≤ t
    · have wk : IntKind.i64.wrap ((k : Int) + 1) = (k : Int) + 1 := IntWalk.i64_in _ (by omega)
      have q0 : (a0 != a0) = false := by simp
      have FF := Lib.hid hff
      clear hff
      go_upto_region 10 with fail
      go_cut [67] from 49 to 66 (fun v wx => v = .bool false ∧ LS w wx a0 a1 w.heap.size (w.heap.size + 1) (w.heap.size + 1 + 1) la lb lc false false false)
      case first =>
        have L := B.same (Keep.refl (fun _ => False) wr).drew
        clear B
        refine wp_region_held_drew (S := (fun w' => w'.cell? ⟨w.heap.size, 0, none⟩ = some (.int .i64 a0) ∧ w'.cell? ⟨w.heap.size + 1, 0, none⟩ = some (.string a1))) (by kernel_rfl) ⟨L.cn, L.cs⟩ (fun hHeld => ?_)
        refine wpAnyH_take (i := 0) (v := ?qvu11) rfl (by kernel_rfl) (by kernel_rfl) (by kernel_rfl) (fun _ _ _ h => h) (Or.inl ⟨by rfl, ?qyu11⟩) (by assumption) ?qru11; case qyu11 => ((intro w hSw; (try dsimp only at hSw); go_simp); try (with_reducible rfl))
        ((try simp only [List.getElem_toArray]); (try simp only [List.getElem_cons_succ]); (try simp only [List.getElem_cons_zero]); (try simp only [Act.put]); (try simp only [List.setIfInBounds_toArray]); (try simp only [List.set_cons_succ]); (try simp only [List.set_cons_zero]))
        refine wpAnyH_take (i := 2) (v := ?qvu12) rfl (by kernel_rfl) (by kernel_rfl) (by kernel_rfl) (fun _ _ _ h => h) (Or.inl ⟨by rfl, ?qyu12⟩) (by assumption) ?qru12; case qyu12 => ((intro w hSw; (try dsimp only at hSw); go_simp); try (with_reducible rfl))
        ((try simp only [List.getElem_toArray]); (try simp only [List.getElem_cons_succ]); (try simp only [List.getElem_cons_zero]); (try simp only [Act.put]); (try simp only [List.setIfInBounds_toArray]); (try simp only [List.set_cons_succ]); (try simp only [List.set_cons_zero]))
        refine wpAnyH_ready (rs := [1]) (by kernel_rfl) (by simp) ?_
        refine AllReadyH.cons rfl (fun K hK => ?_) AllReadyH.nil
        go_simp
        refine (L.geta OR u0).mono ?_
        rintro e y1 ⟨rfl, L1⟩
        clear L
        refine hK.out _ _ ⟨L1.cn, L1.cs⟩ (fun hHeld => ?_)
        clear hK K
        ((try simp only [List.getElem_toArray]); (try simp only [List.getElem_cons_succ]); (try simp only [List.getElem_cons_zero]); (try simp only [Act.put]); (try simp only [List.setIfInBounds_toArray]); (try simp only [List.set_cons_succ]); (try simp only [List.set_cons_zero]))
        refine wpAnyH_take (i := 3) (v := ?qvu13) rfl (by kernel_rfl) (by kernel_rfl) (by kernel_rfl) (fun _ _ _ h => h) (Or.inl ⟨by rfl, ?qyu13⟩) (by assumption) ?qru13; case qyu13 => ((intro w hSw; (try dsimp only at hSw); go_simp); try (with_reducible rfl))
        ((try simp only [List.getElem_toArray]); (try simp only [List.getElem_cons_succ]); (try simp only [List.getElem_cons_zero]); (try simp only [Act.put]); (try simp only [List.setIfInBounds_toArray]); (try simp only [List.set_cons_succ]); (try simp only [List.set_cons_zero]))
        refine wpAnyH_take (i := 4) (v := ?qvu14) rfl (by kernel_rfl) (by kernel_rfl) (by kernel_rfl) (fun _ _ _ h => h) (Or.inl ⟨by rfl, ?qyu14⟩) (by assumption) ?qru14; case qyu14 => ((intro w hSw; (try dsimp only at hSw); go_simp); try (with_reducible rfl))
        ((try simp only [List.getElem_toArray]); (try simp only [List.getElem_cons_succ]); (try simp only [List.getElem_cons_zero]); (try simp only [Act.put]); (try simp only [List.setIfInBounds_toArray]); (try simp only [List.set_cons_succ]); (try simp only [List.set_cons_zero]))
        refine wpAnyH_take (i := 5) (v := ?qvu15) rfl (by kernel_rfl) (by kernel_rfl) (by kernel_rfl) (fun _ _ _ h => h) (Or.inl ⟨by rfl, ?qyu15⟩) (by assumption) ?qru15; case qyu15 => ((intro w hSw; (try dsimp only at hSw); go_simp); try (with_reducible rfl))
        ((try simp only [List.getElem_toArray]); (try simp only [List.getElem_cons_succ]); (try simp only [List.getElem_cons_zero]); (try simp only [Act.put]); (try simp only [List.setIfInBounds_toArray]); (try simp only [List.set_cons_succ]); (try simp only [List.set_cons_zero]))
        refine wpAnyH_take (i := 7) (v := ?qvu16) rfl (by kernel_rfl) (by kernel_rfl) (by kernel_rfl) (fun _ _ _ h => h) (Or.inl ⟨by rfl, ?qyu16⟩) (by assumption) ?qru16; case qyu16 => ((intro w hSw; (try dsimp only at hSw); go_simp); try (with_reducible rfl))
        ((try simp only [List.getElem_toArray]); (try simp only [List.getElem_cons_succ]); (try simp only [List.getElem_cons_zero]); (try simp only [Act.put]); (try simp only [List.setIfInBounds_toArray]); (try simp only [List.set_cons_succ]); (try simp only [List.set_cons_zero]))
        refine wpAnyH_ready (rs := [6]) (by kernel_rfl) (by simp) ?_
        refine AllReadyH.cons rfl (fun K hK => ?_) AllReadyH.nil
        go_simp
        refine (L1.getb OR).mono ?_
        rintro e y2 ⟨rfl, L2⟩
        clear L1
        refine hK.out _ _ ⟨L2.cn, L2.cs⟩ (fun hHeld => ?_)
        clear hK K
        ((try simp only [List.getElem_toArray]); (try simp only [List.getElem_cons_succ]); (try simp only [List.getElem_cons_zero]); (try simp only [Act.put]); (try simp only [List.setIfInBounds_toArray]); (try simp only [List.set_cons_succ]); (try simp only [List.set_cons_zero]))
        refine wpAnyH_take (i := 8) (v := ?qvu17) rfl (by kernel_rfl) (by kernel_rfl) (by kernel_rfl) (fun _ _ _ h => h) (Or.inl ⟨by rfl, ?qyu17⟩) (by assumption) ?qru17; case qyu17 => ((intro w hSw; (try dsimp only at hSw); go_simp); try (with_reducible rfl))
        ((try simp only [List.getElem_toArray]); (try simp only [List.getElem_cons_succ]); (try simp only [List.getElem_cons_zero]); (try simp only [Act.put]); (try simp only [List.setIfInBounds_toArray]); (try simp only [List.set_cons_succ]); (try simp only [List.set_cons_zero]))
        refine wpAnyH_take (i := 9) (v := ?qvu18) rfl (by kernel_rfl) (by kernel_rfl) (by kernel_rfl) (fun _ _ _ h => h) (Or.inl ⟨by rfl, ?qyu18⟩) (by assumption) ?qru18; case qyu18 => ((intro w hSw; (try dsimp only at hSw); go_simp); try (with_reducible rfl))
        ((try simp only [List.getElem_toArray]); (try simp only [List.getElem_cons_succ]); (try simp only [List.getElem_cons_zero]); (try simp only [Act.put]); (try simp only [List.setIfInBounds_toArray]); (try simp only [List.set_cons_succ]); (try simp only [List.set_cons_zero]))
        refine wpAnyH_take (i := 10) (v := ?qvu19) rfl (by kernel_rfl) (by kernel_rfl) (by kernel_rfl) (fun _ _ _ h => h) (Or.inl ⟨by rfl, ?qyu19⟩) (by assumption) ?qru19; case qyu19 => ((intro w hSw; (try dsimp only at hSw); go_simp); try (with_reducible rfl))
        ((try simp only [List.getElem_toArray]); (try simp only [List.getElem_cons_succ]); (try simp only [List.getElem_cons_zero]); (try simp only [Act.put]); (try simp only [List.setIfInBounds_toArray]); (try simp only [List.set_cons_succ]); (try simp only [List.set_cons_zero]))
        refine wpAnyH_take (i := 11) (v := ?qvu20) rfl (by kernel_rfl) (by kernel_rfl) (by kernel_rfl) (fun _ _ _ h => h) (Or.inl ⟨by rfl, ?qyu20⟩) (by assumption) ?qru20; case qyu20 => ((intro w hSw; (try dsimp only at hSw); go_simp); try (with_reducible rfl))
        ((try simp only [List.getElem_toArray]); (try simp only [List.getElem_cons_succ]); (try simp only [List.getElem_cons_zero]); (try simp only [Act.put]); (try simp only [List.setIfInBounds_toArray]); (try simp only [List.set_cons_succ]); (try simp only [List.set_cons_zero]))
        refine wpAnyH_ready (rs := [12]) (by kernel_rfl) (by simp) ?_
        refine AllReadyH.cons rfl (fun K hK => ?_) AllReadyH.nil
        go_simp
        refine (L2.getc OR).mono ?_
        rintro e y3 ⟨rfl, L3⟩
        clear L2
        have cc : y3.cell? ⟨w.heap.size + 1 + 1, 0, none⟩ = some (.int .i64 1) := L3.cc
        refine hK.out _ _ ⟨L3.cn, L3.cs⟩ (fun hHeld => ?_)
        clear hK K
        ((try simp only [List.getElem_toArray]); (try simp only [List.getElem_cons_succ]); (try simp only [List.getElem_cons_zero]); (try simp only [Act.put]); (try simp only [List.setIfInBounds_toArray]); (try simp only [List.set_cons_succ]); (try simp only [List.set_cons_zero]))
        refine wpAnyH_take (i := 13) (v := ?qvu21) rfl (by kernel_rfl) (by kernel_rfl) (by kernel_rfl) (fun _ _ _ h => h) (Or.inl ⟨by rfl, ?qyu21⟩) (by assumption) ?qru21; case qyu21 => ((intro w hSw; (try dsimp only at hSw); go_simp); try (with_reducible rfl))
        ((try simp only [List.getElem_toArray]); (try simp only [List.getElem_cons_succ]); (try simp only [List.getElem_cons_zero]); (try simp only [Act.put]); (try simp only [List.setIfInBounds_toArray]); (try simp only [List.set_cons_succ]); (try simp only [List.set_cons_zero]))
        refine wpAnyH_take (i := 14) (v := ?qvu22) rfl (by kernel_rfl) (by kernel_rfl) (by kernel_rfl) (fun _ _ _ h => h) (Or.inl ⟨by rfl, ?qyu22⟩) (by assumption) ?qru22; case qyu22 => ((intro w hSw; (try dsimp only at hSw); go_simp); try (with_reducible rfl))
        ((try simp only [List.getElem_toArray]); (try simp only [List.getElem_cons_succ]); (try simp only [List.getElem_cons_zero]); (try simp only [Act.put]); (try simp only [List.setIfInBounds_toArray]); (try simp only [List.set_cons_succ]); (try simp only [List.set_cons_zero]))
        refine wpAnyH_take (i := 15) (v := ?qvu23) rfl (by kernel_rfl) (by kernel_rfl) (by kernel_rfl) (fun _ _ _ h => h) (Or.inl ⟨by rfl, ?qyu23⟩) (by assumption) ?qru23; case qyu23 => ((intro w hSw; (try dsimp only at hSw); go_simp); try (with_reducible rfl))
        ((try simp only [List.getElem_toArray]); (try simp only [List.getElem_cons_succ]); (try simp only [List.getElem_cons_zero]); (try simp only [Act.put]); (try simp only [List.setIfInBounds_toArray]); (try simp only [List.set_cons_succ]); (try simp only [List.set_cons_zero]))
        refine wpAnyH_ready (rs := [16]) (by kernel_rfl) (by simp) ?_
        refine AllReadyH.cons rfl (fun K hK => ?_) AllReadyH.nil
        go_simp
        refine hK.out _ _ hHeld (fun hHeld => ?_)
        clear hK K
        ((try simp only [List.getElem_toArray]); (try simp only [List.getElem_cons_succ]); (try simp only [List.getElem_cons_zero]); (try simp only [Act.put]); (try simp only [List.setIfInBounds_toArray]); (try simp only [List.set_cons_succ]); (try simp only [List.set_cons_zero]))
        refine wpAnyH_take (i := 17) (v := ?qvu24) rfl (by kernel_rfl) (by kernel_rfl) (by kernel_rfl) (fun _ _ _ h => h) (Or.inl ⟨by rfl, ?qyu24⟩) (by assumption) ?qru24; case qyu24 => ((intro w hSw; (try dsimp only at hSw); go_simp); try (with_reducible rfl))
        ((try simp only [List.getElem_toArray]); (try simp only [List.getElem_cons_succ]); (try simp only [List.getElem_cons_zero]); (try simp only [Act.put]); (try simp only [List.setIfInBounds_toArray]); (try simp only [List.set_cons_succ]); (try simp only [List.set_cons_zero]))
        refine wpAnyH_take (i := 18) (v := ?qvu25) rfl (by kernel_rfl) (by kernel_rfl) (by kernel_rfl) (fun _ _ _ h => h) (Or.inl ⟨by rfl, ?qyu25⟩) (by assumption) ?qru25; case qyu25 => ((intro w hSw; (try dsimp only at hSw); go_simp); try (with_reducible rfl))
        ((try simp only [List.getElem_toArray]); (try simp only [List.getElem_cons_succ]); (try simp only [List.getElem_cons_zero]); (try simp only [Act.put]); (try simp only [List.setIfInBounds_toArray]); (try simp only [List.set_cons_succ]); (try simp only [List.set_cons_zero]))
        refine wpAnyH_done (by kernel_rfl) ?_ _
        go_wp2_with fail
        go_meet
        case rel => exact ⟨rfl, L3⟩
      case rest =>
      obtain ⟨rfl, L3⟩ := hcut
      clear B
      go_wp2_with fail
      go_roundg (t1 - (k + 1))
      case measure => have := ET.out; omega
      case rel => exact ⟨k + 1, by have := ET.out; omega, false, false, false, by go_num, L3, fun _ => ⟨rfl, rfl⟩⟩
    · obtain ⟨rfl, rfl⟩ := hff (by omega)
      go_wp2_with fail
      refine B.donea.mono ?_
      rintro e y2 ⟨rfl, rfl⟩
      go_wp2_with fail
      refine B.doneb.mono ?_
      rintro e y2 ⟨rfl, rfl⟩
      go_wp2_with fail
      refine (awake18_any _).mono ?_
      rintro e y4 ⟨rfl, b4⟩
      go_wp2
      go_ret
      exact ⟨rfl, B.bl.trans (b4.mono B.bl.size)⟩
theorem own : ownKnob Try.prog.godebug = none := by kernel_rfl
theorem laidOut : laidOutB Try.prog = true := by kernel_rfl
set_option maxRecDepth 100000 in
theorem lifted (os : Os) (started : os.Started) (H : Type) (enc : TypeId × Value → H) :
    ReturnsInHanded {} Try.checked os 5 .any (Rows.outcomeLazySpec.pre6 enc Try.prog Try.f5 Rows.outcomeLazyRow.domain false) (Rows.outcomeLazySpec.post enc Try.prog Try.f5 false true false false) := by
  refine returnsInHanded_of_change (C := Try.checked) own started (by kernel_rfl) Try.func5
    (ChangeSpec.witness6 (enc := enc) (C := Try.checked) false ⟨#[], #[.int .i64 0, .string ByteArray.empty, .int .i64 0], []⟩ 8 (by kernel_rfl) (by kernel_rfl) (by kernel_rfl) (by kernel_rfl)) ?_
  intro W base args ds gs before hval0 hW hcnd _
  have hval : ∀ (j : Nat) t v, Try.f5.params[j]? = some t → args[j]? = some v → Value.okWide Try.prog W .any base t v := hval0
  have hW' := hW
  obtain ⟨p, q, hA0, hV, rfl, hfz, hnd⟩ := hW
  have hA : DataW.TrodAll enc Try.prog W 0 (fun _ => true) true Try.f5.params.toList args.toList ds p := hA0
  rw [Try.params5] at hA hval
  obtain ⟨v0, vs0, d0, ds0, p0, q0, hargs, rfl, rfl, h0, r0⟩ := trodAll_cons hA
  obtain ⟨v1, vs1, d1, ds1, p1, q1, rfl, rfl, rfl, h1, r1⟩ := trodAll_cons r0
  obtain ⟨v2, vs2, d2, ds2, p2, q2, rfl, rfl, rfl, h2, r2⟩ := trodAll_cons r1
  obtain ⟨rfl, rfl, rfl⟩ := trodAll_nil r2
  obtain rfl : args = #[v0, v1, v2] := by cases args; simp_all
  obtain ⟨rfl, rfl⟩ := trodVars_none hV
  obtain ⟨a0, rfl, rfl, rfl, w0⟩ := open_int Try.underlying3 (hval 0 3 v0 rfl rfl) h0
  obtain ⟨a1, rfl, rfl, rfl, w1⟩ := open_string Try.underlying9 (hval 1 9 v1 rfl rfl) h1
  obtain ⟨a2, rfl, rfl, rfl, w2⟩ := open_int Try.underlying3 (hval 2 3 v2 rfl rfl) h2
  clear hA0 hval0
  refine (walk a0 a1 a2 W w0 w1 w2).mono fun e W' ⟨he, bel⟩ => ?_
  subst he
  exact ⟨_, rfl, _, _, _, [], _, [], hW', trodAll_mk1 (shut_bool Try.underlying4 _), (trodAll_cons_mk (shut_int Try.underlying3 w0) (trodAll_cons_mk (shut_string Try.underlying9 w1) (trodAll_cons_mk (shut_int Try.underlying3 w2) trodAll_mk0))), rfl, bel.frame _, fun h => by cases h⟩
theorem over : Rows.outcomeLazyRow.holds Try.pinned (OpenSpec.ofChange Rows.outcomeLazySpec) :=
  OpenClaim.holds_of_wide 5 Try.f5 rfl rfl rfl rfl rfl rfl rfl ⟨rfl, rfl, rfl, rfl, rfl⟩ rfl rfl rfl rfl rfl (by kernel_rfl) Try.func5 (by kernel_rfl)
    (of_decide_eq_true (by kernel_rfl)) (by unfold Func.isWrapper; first | (rw [if_pos (by decide +kernel)]; kernel_rfl) | (rw [if_neg (by decide +kernel)]; exact ⟨rfl, rfl⟩))
    (fun os started H enc _ => lifted os started H enc)
theorem proved : Rows.OutcomeLazySaid := over
end Go.Proofs.Ytamahfpfminhoaa.outcomeLazy
