/- Package writes as landed, fourth part: write (sync.Once with its closure, then the store), Put and Drop; conditions: what a Set always keeps. -/
import Derived.Test.YthojmdjcfkadoaaWrM
import Derived.Test.YthojmdjcfkadoaaOnceC
namespace Go.Proofs.Ythojmdjcfkadoaa
open Go.ChangeShapes Go.WideShapes Go.ChangeAt Go.RowKit
set_option linter.unusedVariables false

/-- 'append(l, x)' of one write, at a step of a region that draws its order. -/
theorem step_pushW {w : World} {ops : Array Oper} {o : Oper} {a : Act} {K : Act → World → Prop} {Q : Exit → Act → World → Prop} {E : Prop} (hgd : o.guard = none) (s x : Operand)
    (ho : o.op = .call { callee := .builtin .append, args := #[s, x], argTypes := #[33, 33] })
    (v : Value) (zs : List WrI) (hs : a.eval s = v) (hown : OwnM 3 wrC 38 w v zs) (y : WrI) (hx : a.eval x = .slice (some ⟨w.heap.size, 0, none⟩) 1 1) (hl : zs.length ≤ 100000)
    (h : ∀ g c w', OwnM 3 wrC 38 w' (.slice (some ⟨g, 0, none⟩) (zs.length + 1) c) (zs ++ [y]) → Keep (fun j => v.ownBlock = some j) w w' → (v.ownBlock = some g ∨ w.heap.size ≤ g) → K (a.put o.dst (.slice (some ⟨g, 0, none⟩) (zs.length + 1) c)) w') :
    if Region.wanted o (yielded ops a.tmps) = true then Oper.wp Try.prog o a (w.alloc (.cells #[.int .i64 y.k, .int .i64 y.v, .bool y.g] 38)) K Q else E := by
  obtain ⟨i0, hi0, hz0, hz1, hz2⟩ := info_parts info_wr
  refine step_append_lies _ hgd s x 33 ho 0 38 i0 _ 3 24 Try.underlying33 hi0 hz0 hz1 hz2 rfl (by decide) v zs.length (zs.flatMap wrC) hs (World.ownsRow.alloc hown _) ⟨w.heap.size, 0, none⟩ 1 1 (wrC y) hx rfl (wr_lies w y) (by simp [wrC, Value.oneCell']) (by decide) (by unfold maxLen; omega) (by omega) (Nat.zero_le _) (w.heap.size + 1) (by simp) ?_
  intro g c w' o1 gr hg _
  have e : OwnM 3 wrC 38 w' (.slice (some ⟨g, 0, none⟩) (zs.length + 1) c) (zs ++ [y]) := by
    unfold OwnM
    simpa using o1
  have k0 := Keep.alloc (Keep.refl (fun j => v.ownBlock = some j) w) (.cells #[.int .i64 y.k, .int .i64 y.v, .bool y.g] 38)
  refine h g c w' e (k0.trans ⟨gr.os, gr.tape, gr.output, gr.size, fun j hj hn => gr.block j hj (fun e => hn e.symm)⟩) (hg.imp_right (by omega))
section
variable {w w' : World} {t : Nat} {s : List WrI} {v : Value} {T : Nat → Prop}
/-- What the closure of write leaves: one more write, in the slice that the Set's field names. -/
def WroteW (w : World) (t : Nat) (v : Value) (s : List WrI) (x : WrI) (w2 : World) : Prop :=
  ∃ g c w1, w2 = w1.setCell ⟨t, 192, none⟩ (.slice (some ⟨g, 0, none⟩) (s.length + 1) c) ∧ OwnM 3 wrC 38 w1 (.slice (some ⟨g, 0, none⟩) (s.length + 1) c) (s ++ [x]) ∧ Keep (fun j => v.ownBlock = some j) w w1 ∧ (v.ownBlock = some g ∨ w.heap.size ≤ g)
/-- The cells that the closure of write has caught: the Set, the write. -/
def S4 (w : World) (b0 b1 t : Nat) (x : WrI) : Prop := w.cell? ⟨b0, 0, none⟩ = some (.pointer (some ⟨t, 0, none⟩)) ∧ w.cell? ⟨b1, 0, none⟩ = some (.int .i64 x.k) ∧ w.cell? ⟨b1, 1, none⟩ = some (.int .i64 x.v) ∧ w.cell? ⟨b1, 2, none⟩ = some (.bool x.g)
theorem S4.keep {b0 b1 : Nat} {x : WrI} (s : S4 w b0 b1 t x) (k : Keep T w w') (n0 : ¬ T b0) (n1 : ¬ T b1) : S4 w' b0 b1 t x := ⟨k.cell s.1 n0, k.cell s.2.1 n1, k.cell s.2.2.1 n1, k.cell s.2.2.2 n1⟩
set_option maxRecDepth 100000 in
theorem write1_any (b0 b1 : Nat) (x : WrI) (w : World) (nt : v.ownBlock ≠ some t) (n0 : v.ownBlock ≠ some b0) (n1 : v.ownBlock ≠ some b1) (m0 : b0 ≠ t) (m1 : b1 ≠ t) (hS : S4 w b0 b1 t x)
    (cr : w.cell? ⟨t, 192, none⟩ = some v) (fr : w.frozen? ⟨t, 192, none⟩ = false) (o : OwnM 3 wrC 38 w v s) (hl : s.length ≤ 64) :
    Calls Try.prog 26 #[.pointer (some ⟨b0, 0, none⟩), .pointer (some ⟨b1, 0, none⟩)] w fun e w' => e = .returned (.tuple #[]) ∧ WroteW w t v s x w' := by
  have lt := lt_of_cell (a := ⟨t, 192, none⟩) cr
  have crd : w.drew.cell? ⟨t, 192, none⟩ = some v := cr
  have frd : w.drew.frozen? ⟨t, 192, none⟩ = false := fr
  have od : OwnM 3 wrC 38 w.drew v s := o.keep (Keep.refl (fun _ => False) w).drew (by simp)
  have cra : (w.drew.alloc (.cells #[.int .i64 x.k, .int .i64 x.v, .bool x.g] 38)).cell? ⟨t, 192, none⟩ = some v := by rw [World.cell?_alloc_past _ _ _ (by exact lt)]; exact cr
  have FIN : ∀ g c w1, OwnM 3 wrC 38 w1 (.slice (some ⟨g, 0, none⟩) (s.length + 1) c) (s ++ [x]) → Keep (fun j => v.ownBlock = some j) w.drew w1 → (v.ownBlock = some g ∨ w.drew.heap.size ≤ g) → WroteW w t v s x (w1.setCell ⟨t, 192, none⟩ (.slice (some ⟨g, 0, none⟩) (s.length + 1) c)) :=
    fun g c w1 o1 k1 hg => ⟨g, c, w1, rfl, o1, ⟨k1.os, k1.tape, k1.output, k1.size, k1.block⟩, hg⟩
  have FIN := Lib.hid FIN
  have hd : S4 w.drew b0 b1 t x := hS
  have ha : S4 (w.drew.alloc (.cells #[.int .i64 x.k, .int .i64 x.v, .bool x.g] 38)) b0 b1 t x := S4.keep (T := fun _ => False) hd ((Keep.refl _ _).alloc _) id id
  obtain ⟨h0, h1, h2, h3⟩ := hS
  go_enter Try.func26, Try.ntmps26
  go_wp2_with fail
  refine wp_region_held_drew (S := fun w' => w'.cell? ⟨b0, 0, none⟩ = some (.pointer (some ⟨t, 0, none⟩)) ∧ w'.cell? ⟨b1, 0, none⟩ = some (.int .i64 x.k) ∧ w'.cell? ⟨b1, 1, none⟩ = some (.int .i64 x.v) ∧ w'.cell? ⟨b1, 2, none⟩ = some (.bool x.g)) (by kernel_rfl) ⟨h0, h1, h2, h3⟩ (fun hHeld => ?_)
  refine wpAnyH_take (i := 0) (v := ?qvu0) rfl (by kernel_rfl) (by kernel_rfl) (by kernel_rfl) (fun _ _ _ h => h) (Or.inl ⟨by rfl, ?qyu0⟩) (by assumption) ?qru0; case qyu0 => ((intro w hSw; (try dsimp only at hSw); go_simp); try (with_reducible rfl))
  ((try simp only [List.getElem_toArray]); (try simp only [List.getElem_cons_succ]); (try simp only [List.getElem_cons_zero]); (try simp only [Act.put]); (try simp only [List.setIfInBounds_toArray]); (try simp only [List.set_cons_succ]); (try simp only [List.set_cons_zero]))
  refine wpAnyH_take (i := 1) (v := ?qvu1) rfl (by kernel_rfl) (by kernel_rfl) (by kernel_rfl) (fun _ _ _ h => h) (Or.inl ⟨by rfl, ?qyu1⟩) (by assumption) ?qru1; case qyu1 => ((intro w hSw; (try dsimp only at hSw); go_simp); try (with_reducible rfl))
  ((try simp only [List.getElem_toArray]); (try simp only [List.getElem_cons_succ]); (try simp only [List.getElem_cons_zero]); (try simp only [Act.put]); (try simp only [List.setIfInBounds_toArray]); (try simp only [List.set_cons_succ]); (try simp only [List.set_cons_zero]))
  refine wpAnyH_take (i := 2) (v := ?qvu2) rfl (by kernel_rfl) (by kernel_rfl) (by kernel_rfl) (fun _ _ _ h => h) (Or.inl ⟨by rfl, ?qyu2⟩) (by assumption) ?qru2; case qyu2 => ((intro w hSw; (try dsimp only at hSw); go_simp); try (with_reducible rfl))
  ((try simp only [List.getElem_toArray]); (try simp only [List.getElem_cons_succ]); (try simp only [List.getElem_cons_zero]); (try simp only [Act.put]); (try simp only [List.setIfInBounds_toArray]); (try simp only [List.set_cons_succ]); (try simp only [List.set_cons_zero]))
  refine wpAnyH_take (i := 3) (v := ?qvu3) rfl (by kernel_rfl) (by kernel_rfl) (by kernel_rfl) (fun _ _ _ h => h) (Or.inl ⟨by rfl, ?qyu3⟩) (by assumption) ?qru3; case qyu3 => ((intro w hSw; (try dsimp only at hSw); go_simp); try (with_reducible rfl))
  ((try simp only [List.getElem_toArray]); (try simp only [List.getElem_cons_succ]); (try simp only [List.getElem_cons_zero]); (try simp only [Act.put]); (try simp only [List.setIfInBounds_toArray]); (try simp only [List.set_cons_succ]); (try simp only [List.set_cons_zero]))
  refine wpAnyH_take (i := 5) (v := ?qvu4) rfl (by kernel_rfl) (by kernel_rfl) (by kernel_rfl) (fun _ _ _ h => h) (Or.inl ⟨by rfl, ?qyu4⟩) (by assumption) ?qru4; case qyu4 => ((intro w hSw; (try dsimp only at hSw); go_simp); try (with_reducible rfl))
  ((try simp only [List.getElem_toArray]); (try simp only [List.getElem_cons_succ]); (try simp only [List.getElem_cons_zero]); (try simp only [Act.put]); (try simp only [List.setIfInBounds_toArray]); (try simp only [List.set_cons_succ]); (try simp only [List.set_cons_zero]))
  refine wpAnyH_ready (rs := [4, 6]) (by kernel_rfl) (by simp) ?_
  refine AllReadyH.cons rfl (fun K hK => ?_) (AllReadyH.cons rfl (fun K hK => ?_) AllReadyH.nil)
  · go_simp
    refine hK.out _ _ hHeld (fun hHeld => ?_)
    clear hK K
    ((try simp only [List.getElem_toArray]); (try simp only [List.getElem_cons_succ]); (try simp only [List.getElem_cons_zero]); (try simp only [Act.put]); (try simp only [List.setIfInBounds_toArray]); (try simp only [List.set_cons_succ]); (try simp only [List.set_cons_zero]))
    refine wpAnyH_ready (rs := [6]) (by kernel_rfl) (by simp) ?_
    refine AllReadyH.cons rfl (fun K hK => ?_) AllReadyH.nil
    go_simp
    refine hK.out _ _ ha (fun hHeld => ?_)
    clear hK K
    ((try simp only [List.getElem_toArray]); (try simp only [List.getElem_cons_succ]); (try simp only [List.getElem_cons_zero]); (try simp only [Act.put]); (try simp only [List.setIfInBounds_toArray]); (try simp only [List.set_cons_succ]); (try simp only [List.set_cons_zero]))
    refine wpAnyH_ready (rs := [7]) (by kernel_rfl) (by simp) ?_
    refine AllReadyH.cons rfl (fun K hK => ?_) AllReadyH.nil
    refine step_pushW rfl (.tmp 6) (.tmp 8) rfl v s rfl od x rfl (by omega) ?_
    intro g4 c4 y4 o4 k4 hg4
    have cr4 := k4.cell crd nt
    have fr4 := (k4.frozen (a := ⟨t, 192, none⟩) lt nt).trans frd
    have s4 := S4.keep hd k4 n0 n1
    refine hK.out _ _ s4 (fun hHeld => ?_)
    clear hK K
    ((try simp only [List.getElem_toArray]); (try simp only [List.getElem_cons_succ]); (try simp only [List.getElem_cons_zero]); (try simp only [Act.put]); (try simp only [List.setIfInBounds_toArray]); (try simp only [List.set_cons_succ]); (try simp only [List.set_cons_zero]))
    refine wpAnyH_take (i := 8) (v := ?qvu5) rfl (by kernel_rfl) (by kernel_rfl) (by kernel_rfl) (fun _ _ _ h => h) (Or.inl ⟨by rfl, ?qyu5⟩) (by assumption) ?qru5; case qyu5 => ((intro w hSw; (try dsimp only at hSw); go_simp); try (with_reducible rfl))
    ((try simp only [List.getElem_toArray]); (try simp only [List.getElem_cons_succ]); (try simp only [List.getElem_cons_zero]); (try simp only [Act.put]); (try simp only [List.setIfInBounds_toArray]); (try simp only [List.set_cons_succ]); (try simp only [List.set_cons_zero]))
    refine wpAnyH_take (i := 9) (v := ?qvu6) rfl (by kernel_rfl) (by kernel_rfl) (by kernel_rfl) (fun _ _ _ h => h) (Or.inl ⟨by rfl, ?qyu6⟩) (by assumption) ?qru6; case qyu6 => ((intro w hSw; (try dsimp only at hSw); go_simp); try (with_reducible rfl))
    ((try simp only [List.getElem_toArray]); (try simp only [List.getElem_cons_succ]); (try simp only [List.getElem_cons_zero]); (try simp only [Act.put]); (try simp only [List.setIfInBounds_toArray]); (try simp only [List.set_cons_succ]); (try simp only [List.set_cons_zero]))
    refine wpAnyH_ready (rs := [10]) (by kernel_rfl) (by simp) ?_
    refine AllReadyH.cons rfl (fun K hK => ?_) AllReadyH.nil
    go_simp
    go_simp
    refine hK.out _ _ (S4.keep s4 (keep_one y4 ⟨t, 192, none⟩ _) m0 m1) (fun hHeld => ?_)
    clear hK K
    ((try simp only [List.getElem_toArray]); (try simp only [List.getElem_cons_succ]); (try simp only [List.getElem_cons_zero]); (try simp only [Act.put]); (try simp only [List.setIfInBounds_toArray]); (try simp only [List.set_cons_succ]); (try simp only [List.set_cons_zero]))
    refine wpAnyH_done (by kernel_rfl) ?_ _
    go_wp2
    go_end0
    exact ⟨rfl, FIN.out _ _ _ o4 k4 hg4⟩
  · go_simp
    refine hK.out _ _ ha (fun hHeld => ?_)
    clear hK K
    ((try simp only [List.getElem_toArray]); (try simp only [List.getElem_cons_succ]); (try simp only [List.getElem_cons_zero]); (try simp only [Act.put]); (try simp only [List.setIfInBounds_toArray]); (try simp only [List.set_cons_succ]); (try simp only [List.set_cons_zero]))
    refine wpAnyH_ready (rs := [4]) (by kernel_rfl) (by simp) ?_
    refine AllReadyH.cons rfl (fun K hK => ?_) AllReadyH.nil
    go_simp
    refine hK.out _ _ ha (fun hHeld => ?_)
    clear hK K
    ((try simp only [List.getElem_toArray]); (try simp only [List.getElem_cons_succ]); (try simp only [List.getElem_cons_zero]); (try simp only [Act.put]); (try simp only [List.setIfInBounds_toArray]); (try simp only [List.set_cons_succ]); (try simp only [List.set_cons_zero]))
    refine wpAnyH_ready (rs := [7]) (by kernel_rfl) (by simp) ?_
    refine AllReadyH.cons rfl (fun K hK => ?_) AllReadyH.nil
    refine step_pushW rfl (.tmp 6) (.tmp 8) rfl v s rfl od x rfl (by omega) ?_
    intro g4 c4 y4 o4 k4 hg4
    have cr4 := k4.cell crd nt
    have fr4 := (k4.frozen (a := ⟨t, 192, none⟩) lt nt).trans frd
    have s4 := S4.keep hd k4 n0 n1
    refine hK.out _ _ s4 (fun hHeld => ?_)
    clear hK K
    ((try simp only [List.getElem_toArray]); (try simp only [List.getElem_cons_succ]); (try simp only [List.getElem_cons_zero]); (try simp only [Act.put]); (try simp only [List.setIfInBounds_toArray]); (try simp only [List.set_cons_succ]); (try simp only [List.set_cons_zero]))
    refine wpAnyH_take (i := 8) (v := ?qvu7) rfl (by kernel_rfl) (by kernel_rfl) (by kernel_rfl) (fun _ _ _ h => h) (Or.inl ⟨by rfl, ?qyu7⟩) (by assumption) ?qru7; case qyu7 => ((intro w hSw; (try dsimp only at hSw); go_simp); try (with_reducible rfl))
    ((try simp only [List.getElem_toArray]); (try simp only [List.getElem_cons_succ]); (try simp only [List.getElem_cons_zero]); (try simp only [Act.put]); (try simp only [List.setIfInBounds_toArray]); (try simp only [List.set_cons_succ]); (try simp only [List.set_cons_zero]))
    refine wpAnyH_take (i := 9) (v := ?qvu8) rfl (by kernel_rfl) (by kernel_rfl) (by kernel_rfl) (fun _ _ _ h => h) (Or.inl ⟨by rfl, ?qyu8⟩) (by assumption) ?qru8; case qyu8 => ((intro w hSw; (try dsimp only at hSw); go_simp); try (with_reducible rfl))
    ((try simp only [List.getElem_toArray]); (try simp only [List.getElem_cons_succ]); (try simp only [List.getElem_cons_zero]); (try simp only [Act.put]); (try simp only [List.setIfInBounds_toArray]); (try simp only [List.set_cons_succ]); (try simp only [List.set_cons_zero]))
    refine wpAnyH_ready (rs := [10]) (by kernel_rfl) (by simp) ?_
    refine AllReadyH.cons rfl (fun K hK => ?_) AllReadyH.nil
    go_simp
    go_simp
    refine hK.out _ _ (S4.keep s4 (keep_one y4 ⟨t, 192, none⟩ _) m0 m1) (fun hHeld => ?_)
    clear hK K
    ((try simp only [List.getElem_toArray]); (try simp only [List.getElem_cons_succ]); (try simp only [List.getElem_cons_zero]); (try simp only [Act.put]); (try simp only [List.setIfInBounds_toArray]); (try simp only [List.set_cons_succ]); (try simp only [List.set_cons_zero]))
    refine wpAnyH_done (by kernel_rfl) ?_ _
    go_wp2
    go_end0
    exact ⟨rfl, FIN.out _ _ _ o4 k4 hg4⟩
/-- The blocks of the variables that write's closure catches. -/
theorem boxesW (w : World) (t : Nat) (x : WrI) : ∃ M, (w.alloc (.cells #[.pointer (some ⟨t, 0, none⟩)] 23)).alloc (.cells #[.int .i64 x.k, .int .i64 x.v, .bool x.g] 38) = M ∧ S4 M w.heap.size (w.heap.size + 1) t x ∧ Keep (fun _ => False) w M := by
  have K := ((Keep.refl (fun _ => False) w).alloc (.cells #[.pointer (some ⟨t, 0, none⟩)] 23)).alloc (.cells #[.int .i64 x.k, .int .i64 x.v, .bool x.g] 38)
  obtain ⟨w1, e1⟩ : ∃ w1, w.alloc (.cells #[.pointer (some ⟨t, 0, none⟩)] 23) = w1 := ⟨_, rfl⟩
  have s1 : w1.heap.size = w.heap.size + 1 := by rw [← e1]; simp
  have a0 : w1.cell? ⟨w.heap.size, 0, none⟩ = some (.pointer (some ⟨t, 0, none⟩)) := by rw [← e1]; simp
  rw [e1] at K ⊢
  have k2 : Keep (fun _ => False) w1 (w1.alloc (.cells #[.int .i64 x.k, .int .i64 x.v, .bool x.g] 38)) := (Keep.refl _ _).alloc _
  exact ⟨_, rfl, ⟨k2.cell a0 id, by rw [← s1]; simp, by rw [← s1]; simp, by rw [← s1]; simp⟩, K⟩
/-- The world behind a first write of a key: the slice, the Once done, its lock free again. -/
def addW (w1 : World) (t k : Nat) (v' : Value) : World := ((w1.setCell ⟨t, 192, none⟩ v').drew.setCell ⟨t, k * 3, none⟩ (.int .u32 1)).setCell ⟨t, k * 3 + 1, none⟩ (.int .i32 0)
theorem addW_keep (w1 : World) (t k : Nat) (v' : Value) : Keep (fun j => j = t) w1 (addW w1 t k v') :=
  (((Keep.refl (fun j => j = t) w1).setCell (p := ⟨t, 192, none⟩) rfl v').drew.setCell (p := ⟨t, k * 3, none⟩) rfl (.int .u32 1)).setCell (p := ⟨t, k * 3 + 1, none⟩) rfl (.int .i32 0)
theorem addW_far {w1 : World} {t k i : Nat} {v' u : Value} (h : w1.cell? ⟨t, i, none⟩ = some u) (n0 : i ≠ 192) (n1 : i ≠ k * 3) (n2 : i ≠ k * 3 + 1) : (addW w1 t k v').cell? ⟨t, i, none⟩ = some u := by
  unfold addW
  rw [World.cell?_setCell_other _ _ _ _ (by first | (simp; done) | (simp; omega)), World.cell?_setCell_other _ _ _ _ (by first | (simp; done) | (simp; omega))]
  show (w1.setCell ⟨t, 192, none⟩ v').cell? ⟨t, i, none⟩ = some u
  rw [World.cell?_setCell_other _ _ _ _ (by first | (simp; done) | (simp; omega))]
  exact h
theorem addW_fz {w1 : World} {t k : Nat} {v' : Value} (h : ∀ i, w1.frozen? ⟨t, i, none⟩ = false) (i : Nat) : (addW w1 t k v').frozen? ⟨t, i, none⟩ = false := by
  unfold addW
  rw [World.frozen?_setCell, World.frozen?_setCell]
  show (w1.setCell ⟨t, 192, none⟩ v').frozen? ⟨t, i, none⟩ = false
  rw [World.frozen?_setCell]
  exact h i
theorem addW_three {w1 : World} {t k : Nat} {v' u0 u1 u2 : Value} (k63 : k ≤ 63) (h0 : w1.cell? ⟨t, 192, none⟩ = some u0) (h1 : w1.cell? ⟨t, k * 3, none⟩ = some u1) (h2 : w1.cell? ⟨t, k * 3 + 1, none⟩ = some u2) :
    (addW w1 t k v').cell? ⟨t, 192, none⟩ = some v' ∧ (addW w1 t k v').cell? ⟨t, k * 3, none⟩ = some (.int .u32 1) ∧ (addW w1 t k v').cell? ⟨t, k * 3 + 1, none⟩ = some (.int .i32 0) := by
  unfold addW
  refine ⟨?_, ?_, ?_⟩
  · rw [World.cell?_setCell_other _ _ _ _ (by first | (simp; done) | (simp; omega)), World.cell?_setCell_other _ _ _ _ (by first | (simp; done) | (simp; omega))]
    exact World.cell?_setCell_same _ _ _ h0
  · rw [World.cell?_setCell_other _ _ _ _ (by first | (simp; done) | (simp; omega))]
    refine World.cell?_setCell_same _ _ _ (u := u1) ?_
    show (w1.setCell ⟨t, 192, none⟩ v').cell? ⟨t, k * 3, none⟩ = some u1
    rw [World.cell?_setCell_other _ _ _ _ (by first | (simp; done) | (simp; omega))]; exact h1
  · refine World.cell?_setCell_same _ _ _ (u := u2) ?_
    rw [World.cell?_setCell_other _ _ _ _ (by first | (simp; done) | (simp; omega))]
    show (w1.setCell ⟨t, 192, none⟩ v').cell? ⟨t, k * 3 + 1, none⟩ = some u2
    rw [World.cell?_setCell_other _ _ _ _ (by first | (simp; done) | (simp; omega))]; exact h2
/-- What a write that is allowed may be. -/
structure WrOk (x : WrI) (k : Nat) : Prop where
  key : x.k = (k : Int)
  k63 : k ≤ 63
  z : x.g = true → x.v = 0
/-- Behind the Once: the key is listed. -/
def Listed (w : World) (t : Nat) (s : List WrI) (v : Value) (x : WrI) (w' : World) : Prop :=
  ∃ s1 v1, WrA w' t s1 v1 ∧ setW s1 x = setW s x ∧ (∃ (i : Nat) (y : WrI), s1[i]? = some y ∧ y.k = x.k) ∧ Keep (FootW t v) w w' ∧ ∀ g, v1.ownBlock = some g → v.ownBlock = some g ∨ w.heap.size ≤ g
theorem setW_twice (s : List WrI) (x : WrI) (h : ∀ y ∈ s, y.k ≠ x.k) : setW (s ++ [x]) x = setW s x := by
  induction s with
  | nil => simp [setW]
  | cons a s ih =>
    have := h a (List.mem_cons_self ..)
    show (if a.k = x.k then _ else a :: setW (s ++ [x]) x) = (if a.k = x.k then _ else a :: setW s x)
    rw [if_neg this, if_neg this, ih fun y hy => h y (List.mem_cons_of_mem _ hy)]
theorem WrA.added (h : WrA w t s v) {x : WrI} {k : Nat} (ok : WrOk x k) (hm : x.k ∉ s.map WrI.k) {D w1 : World} {g c : Nat} {v' : Value} (ev : v' = .slice (some ⟨g, 0, none⟩) (s.length + 1) c)
    (eD : D = w'.setCell ⟨t, k * 3 + 1, none⟩ (.int .i32 1)) (kw : Keep (fun _ => False) w w')
    (o : OwnM 3 wrC 38 w1 v' (s ++ [x])) (k1 : Keep (fun j => v.ownBlock = some j) D w1) (hg : v.ownBlock = some g ∨ D.heap.size ≤ g) :
    Listed w' t s v x (addW w1 t k v') := by
  have k63 := ok.k63
  have hv : ∀ x, v'.ownBlock = some x → x = g := fun x hx => by subst ev; cases hx; rfl
  have h0 := h.same kw
  have kD : Keep (fun j => j = t) w' D := by rw [eD]; exact keep_one w' ⟨t, k * 3 + 1, none⟩ _
  have kA := addW_keep w1 t k v'
  have sz : w'.heap.size ≤ D.heap.size := kD.size
  have rt : v.ownBlock ≠ some t := fun e => h.rb t e rfl
  have gt : g ≠ t := fun e => by
    subst e
    rcases hg with y | y
    · exact rt y
    · have := h0.lt; omega
  have far : ∀ i u, w'.cell? ⟨t, i, none⟩ = some u → i ≠ k * 3 + 1 → w1.cell? ⟨t, i, none⟩ = some u := fun i u e n => k1.cell (by rw [eD, World.cell?_setCell_other _ _ _ _ (by first | (simp; done) | (simp; omega))]; exact e) rt
  have own1 : w1.cell? ⟨t, k * 3 + 1, none⟩ = some (.int .i32 1) := k1.cell (by rw [eD]; exact World.cell?_setCell_same _ _ _ (h0.c1 k k63)) rt
  obtain ⟨f0, f1, f2⟩ := addW_three (v' := v') k63 (far 192 v h0.cl (by omega)) (far (k * 3) _ (h0.c0 k k63) (by omega)) own1
  have dn : ∀ j : Nat, j ≠ k → dnW (s ++ [x]) j = dnW s j := fun j hj => by
    unfold dnW
    congr 1
    rw [List.map_append, List.mem_append]
    simp
    have := ok.key
    intro e
    omega
  have KW : Keep (FootW t v) w' (addW w1 t k v') := (kD.mono (fun j e => .inl e)).trans ((k1.mono (fun j e => .inr e)).trans (kA.mono (fun j e => .inl e)))
  refine ⟨s ++ [x], v', ?_, setW_twice s x (fun y hy e => hm (List.mem_map.2 ⟨y, hy, e⟩)), ⟨s.length, x, by simp, rfl⟩, KW, fun z hz => ?_⟩
  · exact {
      c0 := fun j hj => by
        by_cases e : j = k
        · subst e
          rw [f1, dnW, if_pos (by simp [ok.key])]
        · rw [dn j e]
          exact addW_far (far _ _ (h0.c0 j hj) (by omega)) (by omega) (by omega) (by omega)
      c1 := fun j hj => by
        by_cases e : j = k
        · subst e; exact f2
        · exact addW_far (far _ _ (h0.c1 j hj) (by omega)) (by omega) (by omega) (by omega)
      cl := f0
      fz := addW_fz (fun i => (k1.frozen (a := ⟨t, i, none⟩) (Nat.lt_of_lt_of_le h0.lt sz) rt).trans (by rw [eD, World.frozen?_setCell]; exact h0.fz i))
      r := o.keep kA (fun x hx e => gt ((hv x hx).symm.trans e))
      kb := fun y hy => by
        rcases List.mem_append.1 hy with hy | hy
        · exact h.kb y hy
        · simp only [List.mem_singleton] at hy
          subst hy
          have := ok.key
          exact ⟨by omega, by omega, ok.z⟩
      nd := by
        rw [List.map_append, List.nodup_append]
        refine ⟨h.nd, by simp, fun a ha b hb e => ?_⟩
        simp at hb
        rw [e, hb] at ha
        exact hm ha
      rb := fun x hx => by rw [hv x hx]; exact gt }
  · rw [hv z hz]
    rcases hg with y | y
    · exact .inl y
    · right; omega
/-- Once.Do with the closure of write, the caught cells in M. -/
theorem do_any (h : WrA w t s v) {x : WrI} {k : Nat} (ok : WrOk x k) {M : World} {b0 b1 : Nat} (hS : S4 M b0 b1 t x) (kM : Keep (fun _ => False) w M) (n0 : w.heap.size ≤ b0) (n1 : w.heap.size ≤ b1) :
    Calls Try.prog 25 #[.pointer (some ⟨t, k * 3, none⟩), .func (.func 26) #[] #[.pointer (some ⟨b0, 0, none⟩), .pointer (some ⟨b1, 0, none⟩)]] M.drew fun e w' => e = .returned (.tuple #[]) ∧ Listed M.drew t s v x w' := by
  have k63 := ok.k63
  have h3 := h.same kM
  have lt := h.lt
  have ro : ∀ x, v.ownBlock = some x → x < w.heap.size := fun x hx => h.r.lt hx
  by_cases hm : x.k ∈ s.map WrI.k
  · have c0 := h3.c0 k k63
    rw [show dnW s k = 1 from if_pos (by rw [← ok.key]; exact hm)] at c0
    have c0d : M.drew.cell? ⟨t, k * 3, none⟩ = some (.int .u32 1) := c0
    refine (once_done t (k * 3) _ M.drew c0d).mono ?_
    rintro e w2 ⟨rfl, rfl⟩
    obtain ⟨y, hy, ey⟩ := List.mem_map.1 hm
    obtain ⟨i, hi, rfl⟩ := List.getElem_of_mem hy
    exact ⟨rfl, s, v, h.same kM.drew, rfl, ⟨i, _, List.getElem?_eq_getElem hi, ey⟩, Keep.refl _ _, fun g hg => .inl hg⟩
  · obtain ⟨D, eD⟩ : ∃ D, M.drew.setCell ⟨t, k * 3 + 1, none⟩ (.int .i32 1) = D := ⟨_, rfl⟩
    have kD : Keep (fun j => j = t) M.drew D := by rw [← eD]; exact keep_one M.drew ⟨t, k * 3 + 1, none⟩ _
    have c0 := h3.c0 k k63
    rw [show dnW s k = 0 from if_neg (by rw [← ok.key]; exact hm)] at c0
    have sD : S4 D b0 b1 t x := S4.keep (w := M.drew) hS kD (by omega) (by omega)
    have rt : v.ownBlock ≠ some t := fun e => h.rb t e rfl
    have fD : ∀ i, D.frozen? ⟨t, i, none⟩ = false := fun i => by rw [← eD, World.frozen?_setCell]; exact h3.fz i
    have lD : t < D.heap.size := Nat.lt_of_lt_of_le lt (Nat.le_trans kM.size kD.size)
    refine (once_firstW t (k * 3) _ (WroteW D t v s x) M.drew c0 (h3.c1 k k63) (h3.fz _) ?_).mono ?_
    · rw [eD]
      refine (write1_any b0 b1 x D rt (fun e => by have := ro _ e; omega) (fun e => by have := ro _ e; omega) (by omega) (by omega) sD (by rw [← eD, World.cell?_setCell_other _ _ _ _ (by first | (simp; done) | (simp; omega))]; exact h3.cl) (fD _) ((h3.r.keep (Keep.refl (fun _ => False) M).drew (by simp)).keep kD (fun x hx e => h.rb x hx e)) h.short).mono ?_
      rintro e w' ⟨rfl, W⟩
      refine ⟨rfl, W, ?_⟩
      obtain ⟨g, c, w1, rfl, o1, k1, hg⟩ := W
      refine ⟨?_, ?_, ?_, ?_⟩
      · rw [World.cell?_setCell_other _ _ _ _ (by first | (simp; done) | (simp; omega))]
        exact k1.cell (by rw [← eD, World.cell?_setCell_other _ _ _ _ (by first | (simp; done) | (simp; omega))]; exact c0) rt
      · rw [World.cell?_setCell_other _ _ _ _ (by first | (simp; done) | (simp; omega))]
        exact k1.cell (by rw [← eD]; exact World.cell?_setCell_same _ _ _ (h3.c1 k k63)) rt
      · rw [World.frozen?_setCell]; exact (k1.frozen (a := ⟨t, k * 3, none⟩) lD rt).trans (fD _)
      · rw [World.frozen?_setCell]; exact (k1.frozen (a := ⟨t, k * 3 + 1, none⟩) lD rt).trans (fD _)
    · rintro e w' ⟨rfl, w2, ⟨g, c, w1, rfl, o1, k1, hg⟩, rfl⟩
      exact ⟨rfl, h.added (w' := M.drew) ok hm rfl eD.symm kM.drew o1 k1 hg⟩
/-- A write is laid in its place, cell by cell. -/
theorem put_three {g n c : Nat} (o : OwnM 3 wrC 38 w (.slice (some ⟨g, 0, none⟩) n c) s) (i : Nat) (hi : i < s.length) (x : WrI) :
    OwnM 3 wrC 38 (((w.setCell ⟨g, i * 3, none⟩ (.int .i64 x.k)).setCell ⟨g, i * 3 + 1, none⟩ (.int .i64 x.v)).setCell ⟨g, i * 3 + 2, none⟩ (.bool x.g)) (.slice (some ⟨g, 0, none⟩) n c) (s.set i x) := by
  have o0 := OwnM.set wrC_len o i 0 hi (by omega) (.int .i64 x.k) ⟨x.k, s[i].v, s[i].g⟩ rfl
  have l0 : i < (s.set i ⟨x.k, s[i].v, s[i].g⟩).length := by rw [List.length_set]; exact hi
  have o1 := OwnM.set wrC_len o0 i 1 l0 (by omega) (.int .i64 x.v) ⟨x.k, x.v, s[i].g⟩ (by simp [wrC])
  have l1 : i < ((s.set i ⟨x.k, s[i].v, s[i].g⟩).set i ⟨x.k, x.v, s[i].g⟩).length := by rw [List.length_set]; exact l0
  have o2 := OwnM.set wrC_len o1 i 2 l1 (by omega) (.bool x.g) ⟨x.k, x.v, x.g⟩ (by simp [wrC])
  rw [List.set_set, List.set_set] at o2
  exact o2
theorem three_keep (w : World) (g i : Nat) (a b c : Value) : Keep (fun j => j = g) w (((w.setCell ⟨g, i * 3, none⟩ a).setCell ⟨g, i * 3 + 1, none⟩ b).setCell ⟨g, i * 3 + 2, none⟩ c) :=
  (((Keep.refl (fun j => j = g) w).setCell (p := ⟨g, i * 3, none⟩) rfl a).setCell (p := ⟨g, i * 3 + 1, none⟩) rfl b).setCell (p := ⟨g, i * 3 + 2, none⟩) rfl c
/-- What a write leaves. -/
def WrittenW (w : World) (t : Nat) (s : List WrI) (v : Value) (x : WrI) (w' : World) : Prop :=
  ∃ v1, WrA w' t (setW s x) v1 ∧ Keep (FootW t v) w w' ∧ ∀ g, v1.ownBlock = some g → v.ownBlock = some g ∨ w.heap.size ≤ g
theorem WrA.put (h : WrA w t s v) {x : WrI} {k : Nat} (ok : WrOk x k) {g n c i : Nat} (ev : v = .slice (some ⟨g, 0, none⟩) n c) {y : WrI} (hy : s[i]? = some y) (hk : y.k = x.k) :
    WrA (((w.setCell ⟨g, i * 3, none⟩ (.int .i64 x.k)).setCell ⟨g, i * 3 + 1, none⟩ (.int .i64 x.v)).setCell ⟨g, i * 3 + 2, none⟩ (.bool x.g)) t (setW s x) v := by
  have hi := (List.getElem?_eq_some_iff.1 hy).1
  have kk := three_keep w g i (.int .i64 x.k) (.int .i64 x.v) (.bool x.g)
  have gt : ¬ t = g := fun e => h.rb g (by rw [ev]; rfl) e.symm
  have ks : (setW s x).map WrI.k = s.map WrI.k := by rw [setW_at h.nd hy hk]; exact set_keys hy hk
  refine ⟨fun j hj => ?_, fun j hj => kk.cell (h.c1 j hj) gt, kk.cell h.cl gt, fun j => (kk.frozen (a := ⟨t, j, none⟩) h.lt gt).trans (h.fz j), ?_, fun z hz => ?_, by rw [ks]; exact h.nd, h.rb⟩
  · have := kk.cell (h.c0 j hj) gt
    unfold dnW at this ⊢
    rw [ks]
    exact this
  · have o := h.r
    rw [ev] at o
    rw [setW_at h.nd hy hk, ev]
    exact put_three o i hi x
  · rw [setW_at h.nd hy hk] at hz
    rcases List.mem_or_eq_of_mem_set hz with hz | hz
    · exact h.kb z hz
    · rw [hz]
      have := ok.key
      have := ok.k63
      exact ⟨by omega, by omega, ok.z⟩
theorem placed {i : Nat} {y : WrI} {key r : Int} (hy : s[i]? = some y) (hk : y.k = key) (h : IsPlace s key r) : ∃ (i : Nat) (y : WrI), s[i]? = some y ∧ y.k = key ∧ r = (i : Int) := by
  rcases h with h | ⟨h, _⟩
  · exact h
  · exact absurd hk (h y (List.mem_of_getElem? hy))
set_option maxRecDepth 100000 in
theorem write_any (h : WrA w t s v) {x : WrI} {k : Nat} (ok : WrOk x k) :
    Calls Try.prog 18 #[.pointer (some ⟨t, 0, none⟩), .agg #[.int .i64 x.k, .int .i64 x.v, .bool x.g]] w fun e w' => e = .returned (.tuple #[]) ∧ WrittenW w t s v x w' := by
  obtain ⟨M, eM, s4, k3⟩ := boxesW w t x
  have hD := do_any h ok s4 k3 (Nat.le_refl _) (Nat.le_succ _)
  have lw := h.foot_lt
  have lw0 : ¬ FootW t v w.heap.size := fun e => by have := lw _ e; omega
  have lw1 : ¬ FootW t v (w.heap.size + 1) := fun e => by have := lw _ e; omega
  have FIN : ∀ (s1 : List WrI) (v1 : Value) (w1 w2 : World) (g n c i : Nat) (y : WrI), WrA w1 t s1 v1 → setW s1 x = setW s x → Keep (FootW t v) w w1 → (∀ g, v1.ownBlock = some g → v.ownBlock = some g ∨ w.heap.size ≤ g) → Keep (fun _ => False) w1.drew w2 → v1 = .slice (some ⟨g, 0, none⟩) n c → s1[i]? = some y → y.k = x.k →
      WrittenW w t s v x (((w2.setCell ⟨g, i * 3, none⟩ (.int .i64 x.k)).setCell ⟨g, i * 3 + 1, none⟩ (.int .i64 x.v)).setCell ⟨g, i * 3 + 2, none⟩ (.bool x.g)) := by
    intro s1 v1 w1 w2 g n c i y hA es kw hv k2 ev hy hk
    have k12 := (Keep.refl (fun _ => False) w1).drew.trans k2
    have P := (hA.same k12).put ok ev hy hk
    rw [es] at P
    refine ⟨v1, P, ?_, hv⟩
    have kk := three_keep w2 g i (.int .i64 x.k) (.int .i64 x.v) (.bool x.g)
    refine ⟨(kw.trans (k12.mono (fun _ e => e.elim))).os ▸ kk.os, (kw.trans (k12.mono (fun _ e => e.elim))).tape ▸ kk.tape, (kw.trans (k12.mono (fun _ e => e.elim))).output ▸ kk.output, Nat.le_trans (kw.trans (k12.mono (fun _ e => e.elim))).size kk.size, fun j hj hn => ?_⟩
    have kz : Keep (FootW t v) w w2 := kw.trans (k12.mono (fun _ e => e.elim))
    rw [kk.block j (Nat.lt_of_lt_of_le hj kz.size) (fun e => ?_)]
    · exact kz.block j hj hn
    · rcases hv g (by rw [ev]; rfl) with q | q
      · exact hn (e ▸ .inr q)
      · omega
  have FIN := Lib.hid FIN
  have b64 : (k : Int) < 64 := by have := ok.k63; omega
  have xk := ok.key
  obtain ⟨s0, s1', s2, s3⟩ := s4
  rw [xk] at s1'
  have S4M := Lib.hid (show S4 M w.heap.size (w.heap.size + 1) t x from ⟨s0, by rw [xk]; exact s1', s2, s3⟩)
  have XK := Lib.hid xk
  have K3 := Lib.hid k3
  have VL := Lib.hid (show ∀ g, v.ownBlock = some g → g < w.heap.size from fun g hg => h.r.lt hg)
  clear h ok k3 lw xk
  go_enter Try.func18, Try.ntmps18
  go_wp2_with fail
  go_still_tail 7, (by kernel_rfl)
  change wpList _ _ _ _ _ M.drew
  go_wp2_with fail
  refine hD.mono ?_
  rintro e w1 ⟨rfl, s1, v1, hA, es, ⟨i, y, hy, hk⟩, kw, hv⟩
  have SZ := K3.out.size
  have F1 := Lib.hid (fun w2 g n c i y => FIN.out s1 v1 w1 w2 g n c i y hA es ((K3.out.drew.mono (fun _ e => e.elim)).trans kw) (fun g hg => (hv g hg).imp_right (fun q => Nat.le_trans SZ q)))
  have sM : S4 M.drew w.heap.size (w.heap.size + 1) t x := S4M.out
  obtain ⟨u0, u1, u2, u3⟩ := sM.keep kw lw0 lw1
  have e0 : w1.drew.cell? ⟨w.heap.size, 0, none⟩ = some (.pointer (some ⟨t, 0, none⟩)) := u0
  have e1 : w1.drew.cell? ⟨w.heap.size + 1, 0, none⟩ = some (.int .i64 x.k) := u1
  have e2 : w1.drew.cell? ⟨w.heap.size + 1, 1, none⟩ = some (.int .i64 x.v) := u2
  have e3 : w1.drew.cell? ⟨w.heap.size + 1, 2, none⟩ = some (.bool x.g) := u3
  have hAd := hA.same (Keep.refl (fun _ => False) w1).drew
  have hp : Calls Try.prog 24 #[.pointer (some ⟨t, 0, none⟩), .int .i64 x.k] w1.drew fun e w' => ∃ (i : Nat) (y : WrI), e = .returned (.int .i64 i) ∧ s1[i]? = some y ∧ y.k = x.k ∧ Keep (fun _ => False) w1.drew w' := by
    refine (place_any hAd x.k).mono ?_
    rintro e w' ⟨r, rfl, hr, k⟩
    obtain ⟨i, y, h1, h2, rfl⟩ := placed hy hk hr
    exact ⟨i, y, rfl, h1, h2, k⟩
  have hi := (List.getElem?_eq_some_iff.1 hy).1
  obtain ⟨A, c, rfl, hA0, hA1⟩ := wr_shape hA.r
  cases A with
  | none => rw [hA0 rfl] at hi; exact absurd hi (Nat.not_lt_zero i)
  | some ad =>
    obtain ⟨g, rfl⟩ := hA1 _ rfl
    have HA := Lib.hid hAd
    have cl : w1.cell? ⟨t, 192, none⟩ = some (.slice (some ⟨g, 0, none⟩) s1.length c) := hA.cl
    have gt : g ≠ t := hA.rb g rfl
    have gl : g < w1.heap.size := hA.r.lt rfl
    obtain ⟨n, en⟩ : ∃ n, s1.length = n := ⟨_, rfl⟩
    have EN := Lib.hid en
    rw [en] at cl hi
    have YK := Lib.hid hk
    have YY := Lib.hid hy
    have mb : w.heap.size + 1 < M.heap.size := lt_of_cell (a := ⟨w.heap.size + 1, 0, none⟩) S4M.out.2.1
    have GB := Lib.hid (show ∀ g', (Value.slice (some ⟨g, 0, none⟩) s1.length c).ownBlock = some g' → g' < w.heap.size ∨ w.heap.size + 1 < g' from fun g' hg' => by
      rcases hv g' hg' with q | q
      · exact .inl (VL.out g' q)
      · have q : M.heap.size ≤ g' := q
        right; omega)
    clear hD hA hAd hA0 hA1 hy hk es kw hv en sM u0 u1 u2 u3
    have g0 : ¬ w.heap.size = g := by have := GB.out g rfl; omega
    have g1 : ¬ w.heap.size + 1 = g := by have := GB.out g rfl; omega
    have gt' : ¬ t = g := fun e => gt e.symm
    have cld : w1.drew.cell? ⟨t, 192, none⟩ = some (.slice (some ⟨g, 0, none⟩) n c) := cl
    go_wp2_with fail
    refine wp_region_held_drew (S := fun w' => w'.cell? ⟨w.heap.size, 0, none⟩ = some (.pointer (some ⟨t, 0, none⟩)) ∧ w'.cell? ⟨w.heap.size + 1, 0, none⟩ = some (.int .i64 x.k) ∧ w'.cell? ⟨w.heap.size + 1, 1, none⟩ = some (.int .i64 x.v) ∧ w'.cell? ⟨w.heap.size + 1, 2, none⟩ = some (.bool x.g) ∧ w'.cell? ⟨t, 192, none⟩ = some (.slice (some ⟨g, 0, none⟩) n c)) (by kernel_rfl) ⟨e0, e1, e2, e3, cld⟩ (fun hHeld => ?_)
    refine wpAnyH_take (i := 0) (v := ?qvu9) rfl (by kernel_rfl) (by kernel_rfl) (by kernel_rfl) (fun _ _ _ h => h) (Or.inl ⟨by rfl, ?qyu9⟩) (by assumption) ?qru9; case qyu9 => ((intro w hSw; (try dsimp only at hSw); go_simp); try (with_reducible rfl))
    ((try simp only [List.getElem_toArray]); (try simp only [List.getElem_cons_succ]); (try simp only [List.getElem_cons_zero]); (try simp only [Act.put]); (try simp only [List.setIfInBounds_toArray]); (try simp only [List.set_cons_succ]); (try simp only [List.set_cons_zero]))
    refine wpAnyH_take (i := 1) (v := ?qvu10) rfl (by kernel_rfl) (by kernel_rfl) (by kernel_rfl) (fun _ _ _ h => h) (Or.inl ⟨by rfl, ?qyu10⟩) (by assumption) ?qru10; case qyu10 => ((intro w hSw; (try dsimp only at hSw); go_simp); try (with_reducible rfl))
    ((try simp only [List.getElem_toArray]); (try simp only [List.getElem_cons_succ]); (try simp only [List.getElem_cons_zero]); (try simp only [Act.put]); (try simp only [List.setIfInBounds_toArray]); (try simp only [List.set_cons_succ]); (try simp only [List.set_cons_zero]))
    refine wpAnyH_take (i := 2) (v := ?qvu11) rfl (by kernel_rfl) (by kernel_rfl) (by kernel_rfl) (fun _ _ _ h => h) (Or.inl ⟨by rfl, ?qyu11⟩) (by assumption) ?qru11; case qyu11 => ((intro w hSw; (try dsimp only at hSw); go_simp); try (with_reducible rfl))
    ((try simp only [List.getElem_toArray]); (try simp only [List.getElem_cons_succ]); (try simp only [List.getElem_cons_zero]); (try simp only [Act.put]); (try simp only [List.setIfInBounds_toArray]); (try simp only [List.set_cons_succ]); (try simp only [List.set_cons_zero]))
    refine wpAnyH_take (i := 3) (v := ?qvu12) rfl (by kernel_rfl) (by kernel_rfl) (by kernel_rfl) (fun _ _ _ h => h) (Or.inl ⟨by rfl, ?qyu12⟩) (by assumption) ?qru12; case qyu12 => ((intro w hSw; (try dsimp only at hSw); go_simp); try (with_reducible rfl))
    ((try simp only [List.getElem_toArray]); (try simp only [List.getElem_cons_succ]); (try simp only [List.getElem_cons_zero]); (try simp only [Act.put]); (try simp only [List.setIfInBounds_toArray]); (try simp only [List.set_cons_succ]); (try simp only [List.set_cons_zero]))
    refine wpAnyH_take (i := 4) (v := ?qvu13) rfl (by kernel_rfl) (by kernel_rfl) (by kernel_rfl) (fun _ _ _ h => h) (Or.inl ⟨by rfl, ?qyu13⟩) (by assumption) ?qru13; case qyu13 => ((intro w hSw; (try dsimp only at hSw); go_simp); try (with_reducible rfl))
    ((try simp only [List.getElem_toArray]); (try simp only [List.getElem_cons_succ]); (try simp only [List.getElem_cons_zero]); (try simp only [Act.put]); (try simp only [List.setIfInBounds_toArray]); (try simp only [List.set_cons_succ]); (try simp only [List.set_cons_zero]))
    refine wpAnyH_take (i := 5) (v := ?qvu14) rfl (by kernel_rfl) (by kernel_rfl) (by kernel_rfl) (fun _ _ _ h => h) (Or.inl ⟨by rfl, ?qyu14⟩) (by assumption) ?qru14; case qyu14 => ((intro w hSw; (try dsimp only at hSw); go_simp); try (with_reducible rfl))
    ((try simp only [List.getElem_toArray]); (try simp only [List.getElem_cons_succ]); (try simp only [List.getElem_cons_zero]); (try simp only [Act.put]); (try simp only [List.setIfInBounds_toArray]); (try simp only [List.set_cons_succ]); (try simp only [List.set_cons_zero]))
    refine wpAnyH_take (i := 6) (v := ?qvu15) rfl (by kernel_rfl) (by kernel_rfl) (by kernel_rfl) (fun _ _ _ h => h) (Or.inl ⟨by rfl, ?qyu15⟩) (by assumption) ?qru15; case qyu15 => ((intro w hSw; (try dsimp only at hSw); go_simp); try (with_reducible rfl))
    ((try simp only [List.getElem_toArray]); (try simp only [List.getElem_cons_succ]); (try simp only [List.getElem_cons_zero]); (try simp only [Act.put]); (try simp only [List.setIfInBounds_toArray]); (try simp only [List.set_cons_succ]); (try simp only [List.set_cons_zero]))
    refine wpAnyH_take (i := 8) (v := ?qvu16) rfl (by kernel_rfl) (by kernel_rfl) (by kernel_rfl) (fun _ _ _ h => h) (Or.inl ⟨by rfl, ?qyu16⟩) (by assumption) ?qru16; case qyu16 => ((intro w hSw; (try dsimp only at hSw); go_simp); try (with_reducible rfl))
    ((try simp only [List.getElem_toArray]); (try simp only [List.getElem_cons_succ]); (try simp only [List.getElem_cons_zero]); (try simp only [Act.put]); (try simp only [List.setIfInBounds_toArray]); (try simp only [List.set_cons_succ]); (try simp only [List.set_cons_zero]))
    refine wpAnyH_ready (rs := [7]) (by kernel_rfl) (by simp) ?_
    refine AllReadyH.cons rfl (fun K hK => ?_) AllReadyH.nil
    go_simp
    refine hp.mono ?_
    rintro e w2 ⟨i2, y2, rfl, hy2, hk2, k2⟩
    have f0 := k2.cell e0 id
    have f1 := k2.cell e1 id
    have f2 := k2.cell e2 id
    have f3 := k2.cell e3 id
    have f4 := k2.cell cld id
    have o2 := (HA.out.same k2).r
    obtain ⟨r0, r1, r2⟩ := wr_cells o2 i2 y2 hy2
    have z0 := OwnM.free o2 (i2 * 3)
    have z1 := OwnM.free o2 (i2 * 3 + 1)
    have z2 := OwnM.free o2 (i2 * 3 + 2)
    have l2 : i2 < n := (by have := (List.getElem?_eq_some_iff.1 hy2).1; rw [EN.out] at this; exact this)
    have F2 := Lib.hid (F1.out w2 g s1.length c i2 y2 k2 rfl hy2 hk2)
    have k3 := Lib.hid (three_keep w2 g i2 (.int .i64 x.k) (.int .i64 x.v) (.bool x.g))
    clear hp k2 o2 hy2 hk2
    refine hK.out _ _ ⟨f0, f1, f2, f3, f4⟩ (fun hHeld => ?_)
    clear hK K
    ((try simp only [List.getElem_toArray]); (try simp only [List.getElem_cons_succ]); (try simp only [List.getElem_cons_zero]); (try simp only [Act.put]); (try simp only [List.setIfInBounds_toArray]); (try simp only [List.set_cons_succ]); (try simp only [List.set_cons_zero]))
    refine wpAnyH_take (i := 9) (v := ?qvu17) rfl (by kernel_rfl) (by kernel_rfl) (by kernel_rfl) (fun _ _ _ h => h) (Or.inl ⟨by rfl, ?qyu17⟩) (by assumption) ?qru17; case qyu17 => ((intro w hSw; (try dsimp only at hSw); go_simp); try (with_reducible rfl))
    ((try simp only [List.getElem_toArray]); (try simp only [List.getElem_cons_succ]); (try simp only [List.getElem_cons_zero]); (try simp only [Act.put]); (try simp only [List.setIfInBounds_toArray]); (try simp only [List.set_cons_succ]); (try simp only [List.set_cons_zero]))
    refine wpAnyH_ready (rs := [10]) (by kernel_rfl) (by simp) ?_
    refine AllReadyH.cons rfl (fun K hK => ?_) AllReadyH.nil
    go_simp
    go_simp
    refine hK.out _ _ ⟨k3.out.cell f0 g0, k3.out.cell f1 g1, k3.out.cell f2 g1, k3.out.cell f3 g1, k3.out.cell f4 gt'⟩ (fun hHeld => ?_)
    clear hK K
    ((try simp only [List.getElem_toArray]); (try simp only [List.getElem_cons_succ]); (try simp only [List.getElem_cons_zero]); (try simp only [Act.put]); (try simp only [List.setIfInBounds_toArray]); (try simp only [List.set_cons_succ]); (try simp only [List.set_cons_zero]))
    refine wpAnyH_done (by kernel_rfl) ?_ _
    go_wp2
    go_end0
    exact ⟨rfl, F2.out⟩
theorem wput_bad (key val : Int) (hb : key < 0 ∨ 63 < key ∨ val < 0 ∨ 65535 < val) : Calls Try.prog 9 #[.pointer (some ⟨t, 0, none⟩), .int .i64 key, .int .i64 val] w fun e w' => e = .returned (.int .i64 1) ∧ Keep (fun _ => False) w w' := by
  by_cases h1 : key < 0 ∨ 63 < key
  · have k1 := key_no key h1
    go_enter Try.func9, Try.ntmps9
    go_wp2_with fail
    refine (k1 _).mono ?_
    rintro e w1 ⟨rfl, rfl⟩
    clear k1
    go_wp2
    go_ret
    exact ⟨rfl, Keep.refl _ _⟩
  · have k1 := key_yes key (by omega) (by omega)
    have k2 := val_no val (by omega)
    clear hb h1
    go_enter Try.func9, Try.ntmps9
    go_wp2_with fail
    refine (k1 _).mono ?_
    rintro e w1 ⟨rfl, rfl⟩
    clear k1
    go_wp2_with fail
    refine (k2 _).mono ?_
    rintro e w1 ⟨rfl, rfl⟩
    clear k2
    go_wp2
    go_ret
    exact ⟨rfl, Keep.refl _ _⟩
theorem wput_ok (h : WrA w t s v) (key val : Int) (h0 : 0 ≤ key) (h1 : key ≤ 63) (h2 : 0 ≤ val) (h3 : val ≤ 65535) : Calls Try.prog 9 #[.pointer (some ⟨t, 0, none⟩), .int .i64 key, .int .i64 val] w fun e w' => e = .returned (.int .i64 0) ∧ WrittenW w t s v ⟨key, val, false⟩ w' := by
  have k1 := key_yes key h0 h1
  have k2 := val_yes val h2 h3
  obtain ⟨k, rfl⟩ : ∃ k : Nat, key = k := ⟨key.toNat, by omega⟩
  have hw := write_any h (x := ⟨k, val, false⟩) (k := k) ⟨rfl, by omega, fun e => (by cases e)⟩
  clear h h0 h1 h2 h3
  go_enter Try.func9, Try.ntmps9
  go_wp2_with fail
  refine (k1 _).mono ?_
  rintro e w1 ⟨rfl, rfl⟩
  clear k1
  go_wp2_with fail
  refine (k2 _).mono ?_
  rintro e w1 ⟨rfl, rfl⟩
  clear k2
  go_wp2_with fail
  refine hw.mono ?_
  rintro e w1 ⟨rfl, F⟩
  clear hw
  go_wp2
  go_ret
  exact ⟨rfl, F⟩
theorem wdrop_bad (key : Int) (hb : key < 0 ∨ 63 < key) : Calls Try.prog 8 #[.pointer (some ⟨t, 0, none⟩), .int .i64 key] w fun e w' => e = .returned (.int .i64 1) ∧ Keep (fun _ => False) w w' := by
  have k1 := key_no key hb
  go_enter Try.func8, Try.ntmps8
  go_wp2_with fail
  refine (k1 _).mono ?_
  rintro e w1 ⟨rfl, rfl⟩
  clear k1
  go_wp2
  go_ret
  exact ⟨rfl, Keep.refl _ _⟩
theorem wdrop_ok (h : WrA w t s v) (key : Int) (h0 : 0 ≤ key) (h1 : key ≤ 63) : Calls Try.prog 8 #[.pointer (some ⟨t, 0, none⟩), .int .i64 key] w fun e w' => e = .returned (.int .i64 0) ∧ WrittenW w t s v ⟨key, 0, true⟩ w' := by
  have k1 := key_yes key h0 h1
  obtain ⟨k, rfl⟩ : ∃ k : Nat, key = k := ⟨key.toNat, by omega⟩
  have hw := write_any h (x := ⟨k, 0, true⟩) (k := k) ⟨rfl, by omega, fun _ => rfl⟩
  clear h h0 h1
  go_enter Try.func8, Try.ntmps8
  go_wp2_with fail
  refine (k1 _).mono ?_
  rintro e w1 ⟨rfl, rfl⟩
  clear k1
  go_wp2_with fail
  refine hw.mono ?_
  rintro e w1 ⟨rfl, F⟩
  clear hw
  go_wp2
  go_ret
  exact ⟨rfl, F⟩
end
end Go.Proofs.Ythojmdjcfkadoaa
