/- Package reads as landed, fourth part: Add (sync.Once with its closure) and Span; conditions: what a Set always keeps. -/
import Derived.Test.YtndpifkpgoeogaaRdO
import Derived.Test.YtndpifkpgoeogaaOnceC
namespace Go.Proofs.Ytndpifkpgoeogaa
open Go.ChangeShapes Go.WideShapes Go.ChangeAt Go.RowKit
set_option linter.unusedVariables false

theorem rd_lies (w : World) (y : Int × Int) : ∀ j u, (rdC y)[j]? = some u → (w.alloc (.cells #[.int .i64 y.1, .int .u64 y.2] 75)).cell? ((⟨w.heap.size, 0, none⟩ : Addr).add j) = some u := by
  intro j u hj
  match j, hj with
  | 0, hj => simp [rdC] at hj; subst hj; simp [Addr.add]
  | 1, hj => simp [rdC] at hj; subst hj; simp [Addr.add]
/-- 'append(l, x)' of one read, at a step of a region that draws its order. -/
theorem step_pushR {w : World} {ops : Array Oper} {o : Oper} {a : Act} {K : Act → World → Prop} {Q : Exit → Act → World → Prop} {E : Prop} (hgd : o.guard = none) (s x : Operand)
    (ho : o.op = .call { callee := .builtin .append, args := #[s, x], argTypes := #[69, 69] })
    (v : Value) (zs : List (Int × Int)) (hs : a.eval s = v) (hown : OwnM 2 rdC 75 w v zs) (y : Int × Int) (hx : a.eval x = .slice (some ⟨w.heap.size, 0, none⟩) 1 1) (hl : zs.length ≤ 100000)
    (h : ∀ g c w', OwnM 2 rdC 75 w' (.slice (some ⟨g, 0, none⟩) (zs.length + 1) c) (zs ++ [y]) → Keep (fun j => v.ownBlock = some j) w w' → (v.ownBlock = some g ∨ w.heap.size ≤ g) → K (a.put o.dst (.slice (some ⟨g, 0, none⟩) (zs.length + 1) c)) w') :
    if Region.wanted o (yielded ops a.tmps) = true then Oper.wp Try.prog o a (w.alloc (.cells #[.int .i64 y.1, .int .u64 y.2] 75)) K Q else E := by
  obtain ⟨i0, hi0, hz0, hz1, hz2⟩ := info_parts info_rd
  refine step_append_lies _ hgd s x 69 ho 0 75 i0 _ 2 16 Try.underlying69 hi0 hz0 hz1 hz2 rfl (by decide) v zs.length (zs.flatMap rdC) hs (World.ownsRow.alloc hown _) ⟨w.heap.size, 0, none⟩ 1 1 (rdC y) hx rfl (rd_lies w y) (by simp [rdC, Value.oneCell']) (by decide) (by unfold maxLen; omega) (by omega) (Nat.zero_le _) (w.heap.size + 1) (by simp) ?_
  intro g c w' o1 gr hg _
  have e : OwnM 2 rdC 75 w' (.slice (some ⟨g, 0, none⟩) (zs.length + 1) c) (zs ++ [y]) := by
    unfold OwnM
    simpa using o1
  have k0 := Keep.alloc (Keep.refl (fun j => v.ownBlock = some j) w) (.cells #[.int .i64 y.1, .int .u64 y.2] 75)
  refine h g c w' e (k0.trans ⟨gr.os, gr.tape, gr.output, gr.size, fun j hj hn => gr.block j hj (fun e => hn e.symm)⟩) (hg.imp_right (by omega))
section
variable {w w' : World} {t : Nat} {es : List (Int × Int)} {ps : List (ScI × Value)} {vr vs v : Value} {Z T : Nat → Prop} {zs : List Int}
/-- What the closure of Add leaves: one more read, in the slice that the Set's field names. -/
def Wrote (w : World) (t : Nat) (vr : Value) (es : List (Int × Int)) (key link : Int) (w2 : World) : Prop :=
  ∃ g c w1, w2 = w1.setCell ⟨t, 192, none⟩ (.slice (some ⟨g, 0, none⟩) (es.length + 1) c) ∧ OwnM 2 rdC 75 w1 (.slice (some ⟨g, 0, none⟩) (es.length + 1) c) (es ++ [(key, link)]) ∧ Keep (fun j => vr.ownBlock = some j) w w1 ∧ (vr.ownBlock = some g ∨ w.heap.size ≤ g)
/-- The three cells that the closure of Add has caught. -/
def S3 (w : World) (b0 b1 b2 t : Nat) (key link : Int) : Prop := w.cell? ⟨b0, 0, none⟩ = some (.pointer (some ⟨t, 0, none⟩)) ∧ w.cell? ⟨b1, 0, none⟩ = some (.int .i64 key) ∧ w.cell? ⟨b2, 0, none⟩ = some (.int .u64 link)
theorem S3.keep {b0 b1 b2 : Nat} {key link : Int} (s : S3 w b0 b1 b2 t key link) (k : Keep T w w') (n0 : ¬ T b0) (n1 : ¬ T b1) (n2 : ¬ T b2) : S3 w' b0 b1 b2 t key link := ⟨k.cell s.1 n0, k.cell s.2.1 n1, k.cell s.2.2 n2⟩
set_option maxRecDepth 100000 in
theorem add1_any (b0 b1 b2 : Nat) (key link : Int) (w : World) (nt : vr.ownBlock ≠ some t) (n0 : vr.ownBlock ≠ some b0) (n1 : vr.ownBlock ≠ some b1) (n2 : vr.ownBlock ≠ some b2) (m0 : b0 ≠ t) (m1 : b1 ≠ t) (m2 : b2 ≠ t) (h0 : w.cell? ⟨b0, 0, none⟩ = some (.pointer (some ⟨t, 0, none⟩))) (h1 : w.cell? ⟨b1, 0, none⟩ = some (.int .i64 key)) (h2 : w.cell? ⟨b2, 0, none⟩ = some (.int .u64 link))
    (cr : w.cell? ⟨t, 192, none⟩ = some vr) (fr : w.frozen? ⟨t, 192, none⟩ = false) (o : OwnM 2 rdC 75 w vr es) (hl : es.length ≤ 64) :
    Calls Try.prog 34 #[.pointer (some ⟨b0, 0, none⟩), .pointer (some ⟨b1, 0, none⟩), .pointer (some ⟨b2, 0, none⟩)] w fun e w' => e = .returned (.tuple #[]) ∧ Wrote w t vr es key link w' := by
  have lt := lt_of_cell (a := ⟨t, 192, none⟩) cr
  have crd : w.drew.cell? ⟨t, 192, none⟩ = some vr := cr
  have frd : w.drew.frozen? ⟨t, 192, none⟩ = false := fr
  have od : OwnM 2 rdC 75 w.drew vr es := o.keep (Keep.refl (fun _ => False) w).drew (by simp)
  have cra : (w.drew.alloc (.cells #[.int .i64 key, .int .u64 link] 75)).cell? ⟨t, 192, none⟩ = some vr := by rw [World.cell?_alloc_past _ _ _ (by exact lt)]; exact cr
  have FIN : ∀ g c w1, OwnM 2 rdC 75 w1 (.slice (some ⟨g, 0, none⟩) (es.length + 1) c) (es ++ [(key, link)]) → Keep (fun j => vr.ownBlock = some j) w.drew w1 → (vr.ownBlock = some g ∨ w.drew.heap.size ≤ g) → Wrote w t vr es key link (w1.setCell ⟨t, 192, none⟩ (.slice (some ⟨g, 0, none⟩) (es.length + 1) c)) :=
    fun g c w1 o1 k1 hg => ⟨g, c, w1, rfl, o1, ⟨k1.os, k1.tape, k1.output, k1.size, k1.block⟩, hg⟩
  have FIN := Lib.hid FIN
  have hd : S3 w.drew b0 b1 b2 t key link := ⟨h0, h1, h2⟩
  have ha : S3 (w.drew.alloc (.cells #[.int .i64 key, .int .u64 link] 75)) b0 b1 b2 t key link := S3.keep (T := fun _ => False) hd ((Keep.refl _ _).alloc _) id id id
  go_enter Try.func34, Try.ntmps34
  go_wp2_with fail
  refine wp_region_held_drew (S := fun w' => w'.cell? ⟨b0, 0, none⟩ = some (.pointer (some ⟨t, 0, none⟩)) ∧ w'.cell? ⟨b1, 0, none⟩ = some (.int .i64 key) ∧ w'.cell? ⟨b2, 0, none⟩ = some (.int .u64 link)) (by kernel_rfl) ⟨h0, h1, h2⟩ (fun hHeld => ?_)
  refine wpAnyH_take (i := 0) (v := ?qvu0) rfl (by kernel_rfl) (by kernel_rfl) (by kernel_rfl) (fun _ _ _ h => h) (Or.inl ⟨by rfl, ?qyu0⟩) (by assumption) ?qru0; case qyu0 => ((intro w hSw; (try dsimp only at hSw); go_simp); try (with_reducible rfl))
  ((try simp only [List.getElem_toArray]); (try simp only [List.getElem_cons_succ]); (try simp only [List.getElem_cons_zero]); (try simp only [Act.put]); (try simp only [List.setIfInBounds_toArray]); (try simp only [List.set_cons_succ]); (try simp only [List.set_cons_zero]))
  refine wpAnyH_take (i := 1) (v := ?qvu1) rfl (by kernel_rfl) (by kernel_rfl) (by kernel_rfl) (fun _ _ _ h => h) (Or.inl ⟨by rfl, ?qyu1⟩) (by assumption) ?qru1; case qyu1 => ((intro w hSw; (try dsimp only at hSw); go_simp); try (with_reducible rfl))
  ((try simp only [List.getElem_toArray]); (try simp only [List.getElem_cons_succ]); (try simp only [List.getElem_cons_zero]); (try simp only [Act.put]); (try simp only [List.setIfInBounds_toArray]); (try simp only [List.set_cons_succ]); (try simp only [List.set_cons_zero]))
  refine wpAnyH_take (i := 2) (v := ?qvu2) rfl (by kernel_rfl) (by kernel_rfl) (by kernel_rfl) (fun _ _ _ h => h) (Or.inl ⟨by rfl, ?qyu2⟩) (by assumption) ?qru2; case qyu2 => ((intro w hSw; (try dsimp only at hSw); go_simp); try (with_reducible rfl))
  ((try simp only [List.getElem_toArray]); (try simp only [List.getElem_cons_succ]); (try simp only [List.getElem_cons_zero]); (try simp only [Act.put]); (try simp only [List.setIfInBounds_toArray]); (try simp only [List.set_cons_succ]); (try simp only [List.set_cons_zero]))
  refine wpAnyH_take (i := 3) (v := ?qvu3) rfl (by kernel_rfl) (by kernel_rfl) (by kernel_rfl) (fun _ _ _ h => h) (Or.inl ⟨by rfl, ?qyu3⟩) (by assumption) ?qru3; case qyu3 => ((intro w hSw; (try dsimp only at hSw); go_simp); try (with_reducible rfl))
  ((try simp only [List.getElem_toArray]); (try simp only [List.getElem_cons_succ]); (try simp only [List.getElem_cons_zero]); (try simp only [Act.put]); (try simp only [List.setIfInBounds_toArray]); (try simp only [List.set_cons_succ]); (try simp only [List.set_cons_zero]))
  refine wpAnyH_take (i := 5) (v := ?qvu4) rfl (by kernel_rfl) (by kernel_rfl) (by kernel_rfl) (fun _ _ _ h => h) (Or.inl ⟨by rfl, ?qyu4⟩) (by assumption) ?qru4; case qyu4 => ((intro w hSw; (try dsimp only at hSw); go_simp); try (with_reducible rfl))
  ((try simp only [List.getElem_toArray]); (try simp only [List.getElem_cons_succ]); (try simp only [List.getElem_cons_zero]); (try simp only [Act.put]); (try simp only [List.setIfInBounds_toArray]); (try simp only [List.set_cons_succ]); (try simp only [List.set_cons_zero]))
  refine wpAnyH_take (i := 6) (v := ?qvu5) rfl (by kernel_rfl) (by kernel_rfl) (by kernel_rfl) (fun _ _ _ h => h) (Or.inl ⟨by rfl, ?qyu5⟩) (by assumption) ?qru5; case qyu5 => ((intro w hSw; (try dsimp only at hSw); go_simp); try (with_reducible rfl))
  ((try simp only [List.getElem_toArray]); (try simp only [List.getElem_cons_succ]); (try simp only [List.getElem_cons_zero]); (try simp only [Act.put]); (try simp only [List.setIfInBounds_toArray]); (try simp only [List.set_cons_succ]); (try simp only [List.set_cons_zero]))
  refine wpAnyH_take (i := 7) (v := ?qvu6) rfl (by kernel_rfl) (by kernel_rfl) (by kernel_rfl) (fun _ _ _ h => h) (Or.inl ⟨by rfl, ?qyu6⟩) (by assumption) ?qru6; case qyu6 => ((intro w hSw; (try dsimp only at hSw); go_simp); try (with_reducible rfl))
  ((try simp only [List.getElem_toArray]); (try simp only [List.getElem_cons_succ]); (try simp only [List.getElem_cons_zero]); (try simp only [Act.put]); (try simp only [List.setIfInBounds_toArray]); (try simp only [List.set_cons_succ]); (try simp only [List.set_cons_zero]))
  refine wpAnyH_ready (rs := [4, 8]) (by kernel_rfl) (by simp) ?_
  refine AllReadyH.cons rfl (fun K hK => ?_) (AllReadyH.cons rfl (fun K hK => ?_) AllReadyH.nil)
  · go_simp
    refine hK.out _ _ hHeld (fun hHeld => ?_)
    clear hK K
    ((try simp only [List.getElem_toArray]); (try simp only [List.getElem_cons_succ]); (try simp only [List.getElem_cons_zero]); (try simp only [Act.put]); (try simp only [List.setIfInBounds_toArray]); (try simp only [List.set_cons_succ]); (try simp only [List.set_cons_zero]))
    refine wpAnyH_ready (rs := [8]) (by kernel_rfl) (by simp) ?_
    refine AllReadyH.cons rfl (fun K hK => ?_) AllReadyH.nil
    go_simp
    refine hK.out _ _ ha (fun hHeld => ?_)
    clear hK K
    ((try simp only [List.getElem_toArray]); (try simp only [List.getElem_cons_succ]); (try simp only [List.getElem_cons_zero]); (try simp only [Act.put]); (try simp only [List.setIfInBounds_toArray]); (try simp only [List.set_cons_succ]); (try simp only [List.set_cons_zero]))
    refine wpAnyH_ready (rs := [9]) (by kernel_rfl) (by simp) ?_
    refine AllReadyH.cons rfl (fun K hK => ?_) AllReadyH.nil
    refine step_pushR rfl (.tmp 7) (.tmp 11) rfl vr es rfl od (key, link) rfl (by omega) ?_
    intro g4 c4 y4 o4 k4 hg4
    have cr4 := k4.cell crd nt
    have fr4 := (k4.frozen (a := ⟨t, 192, none⟩) lt nt).trans frd
    have s4 := S3.keep hd k4 n0 n1 n2
    refine hK.out _ _ s4 (fun hHeld => ?_)
    clear hK K
    ((try simp only [List.getElem_toArray]); (try simp only [List.getElem_cons_succ]); (try simp only [List.getElem_cons_zero]); (try simp only [Act.put]); (try simp only [List.setIfInBounds_toArray]); (try simp only [List.set_cons_succ]); (try simp only [List.set_cons_zero]))
    refine wpAnyH_take (i := 10) (v := ?qvu7) rfl (by kernel_rfl) (by kernel_rfl) (by kernel_rfl) (fun _ _ _ h => h) (Or.inl ⟨by rfl, ?qyu7⟩) (by assumption) ?qru7; case qyu7 => ((intro w hSw; (try dsimp only at hSw); go_simp); try (with_reducible rfl))
    ((try simp only [List.getElem_toArray]); (try simp only [List.getElem_cons_succ]); (try simp only [List.getElem_cons_zero]); (try simp only [Act.put]); (try simp only [List.setIfInBounds_toArray]); (try simp only [List.set_cons_succ]); (try simp only [List.set_cons_zero]))
    refine wpAnyH_take (i := 11) (v := ?qvu8) rfl (by kernel_rfl) (by kernel_rfl) (by kernel_rfl) (fun _ _ _ h => h) (Or.inl ⟨by rfl, ?qyu8⟩) (by assumption) ?qru8; case qyu8 => ((intro w hSw; (try dsimp only at hSw); go_simp); try (with_reducible rfl))
    ((try simp only [List.getElem_toArray]); (try simp only [List.getElem_cons_succ]); (try simp only [List.getElem_cons_zero]); (try simp only [Act.put]); (try simp only [List.setIfInBounds_toArray]); (try simp only [List.set_cons_succ]); (try simp only [List.set_cons_zero]))
    refine wpAnyH_ready (rs := [12]) (by kernel_rfl) (by simp) ?_
    refine AllReadyH.cons rfl (fun K hK => ?_) AllReadyH.nil
    go_simp
    refine hK.out _ _ (S3.keep s4 (keep_one y4 ⟨t, 192, none⟩ _) m0 m1 m2) (fun hHeld => ?_)
    clear hK K
    ((try simp only [List.getElem_toArray]); (try simp only [List.getElem_cons_succ]); (try simp only [List.getElem_cons_zero]); (try simp only [Act.put]); (try simp only [List.setIfInBounds_toArray]); (try simp only [List.set_cons_succ]); (try simp only [List.set_cons_zero]))
    refine wpAnyH_done (by kernel_rfl) ?_ _
    go_wp2
    go_end0
    exact ⟨rfl, FIN.out _ _ _ o4 k4 hg4⟩
  · go_simp
    refine hK.out _ _ ha (fun hHeld => ?_)
    clear hK K
    ((try simp only [List.getElem_toArray]); (try simp only [List.getElem_cons_succ]); (try simp only [List.getElem_cons_zero]); (try simp only [Act.put]); (try simp only [List.setIfInBounds_toArray]); (try simp only [List.set_cons_succ]); (try simp only [List.set_cons_zero]))
    refine wpAnyH_ready (rs := [4]) (by kernel_rfl) (by simp) ?_
    refine AllReadyH.cons rfl (fun K hK => ?_) AllReadyH.nil
    go_simp
    refine hK.out _ _ ha (fun hHeld => ?_)
    clear hK K
    ((try simp only [List.getElem_toArray]); (try simp only [List.getElem_cons_succ]); (try simp only [List.getElem_cons_zero]); (try simp only [Act.put]); (try simp only [List.setIfInBounds_toArray]); (try simp only [List.set_cons_succ]); (try simp only [List.set_cons_zero]))
    refine wpAnyH_ready (rs := [9]) (by kernel_rfl) (by simp) ?_
    refine AllReadyH.cons rfl (fun K hK => ?_) AllReadyH.nil
    refine step_pushR rfl (.tmp 7) (.tmp 11) rfl vr es rfl od (key, link) rfl (by omega) ?_
    intro g4 c4 y4 o4 k4 hg4
    have cr4 := k4.cell crd nt
    have fr4 := (k4.frozen (a := ⟨t, 192, none⟩) lt nt).trans frd
    have s4 := S3.keep hd k4 n0 n1 n2
    refine hK.out _ _ s4 (fun hHeld => ?_)
    clear hK K
    ((try simp only [List.getElem_toArray]); (try simp only [List.getElem_cons_succ]); (try simp only [List.getElem_cons_zero]); (try simp only [Act.put]); (try simp only [List.setIfInBounds_toArray]); (try simp only [List.set_cons_succ]); (try simp only [List.set_cons_zero]))
    refine wpAnyH_take (i := 10) (v := ?qvu9) rfl (by kernel_rfl) (by kernel_rfl) (by kernel_rfl) (fun _ _ _ h => h) (Or.inl ⟨by rfl, ?qyu9⟩) (by assumption) ?qru9; case qyu9 => ((intro w hSw; (try dsimp only at hSw); go_simp); try (with_reducible rfl))
    ((try simp only [List.getElem_toArray]); (try simp only [List.getElem_cons_succ]); (try simp only [List.getElem_cons_zero]); (try simp only [Act.put]); (try simp only [List.setIfInBounds_toArray]); (try simp only [List.set_cons_succ]); (try simp only [List.set_cons_zero]))
    refine wpAnyH_take (i := 11) (v := ?qvu10) rfl (by kernel_rfl) (by kernel_rfl) (by kernel_rfl) (fun _ _ _ h => h) (Or.inl ⟨by rfl, ?qyu10⟩) (by assumption) ?qru10; case qyu10 => ((intro w hSw; (try dsimp only at hSw); go_simp); try (with_reducible rfl))
    ((try simp only [List.getElem_toArray]); (try simp only [List.getElem_cons_succ]); (try simp only [List.getElem_cons_zero]); (try simp only [Act.put]); (try simp only [List.setIfInBounds_toArray]); (try simp only [List.set_cons_succ]); (try simp only [List.set_cons_zero]))
    refine wpAnyH_ready (rs := [12]) (by kernel_rfl) (by simp) ?_
    refine AllReadyH.cons rfl (fun K hK => ?_) AllReadyH.nil
    go_simp
    refine hK.out _ _ (S3.keep s4 (keep_one y4 ⟨t, 192, none⟩ _) m0 m1 m2) (fun hHeld => ?_)
    clear hK K
    ((try simp only [List.getElem_toArray]); (try simp only [List.getElem_cons_succ]); (try simp only [List.getElem_cons_zero]); (try simp only [Act.put]); (try simp only [List.setIfInBounds_toArray]); (try simp only [List.set_cons_succ]); (try simp only [List.set_cons_zero]))
    refine wpAnyH_done (by kernel_rfl) ?_ _
    go_wp2
    go_end0
    exact ⟨rfl, FIN.out _ _ _ o4 k4 hg4⟩
/-- The blocks of the three variables that Add's closure catches. -/
theorem boxes (w : World) (t : Nat) (key link : Int) : ∃ M, ((w.alloc (.cells #[.pointer (some ⟨t, 0, none⟩)] 24)).alloc (.cells #[.int .i64 key] 3)).alloc (.cells #[.int .u64 link] 23) = M ∧ S3 M w.heap.size (w.heap.size + 1) (w.heap.size + 1 + 1) t key link ∧ Keep (fun _ => False) w M := by
  have K := (((Keep.refl (fun _ => False) w).alloc (.cells #[.pointer (some ⟨t, 0, none⟩)] 24)).alloc (.cells #[.int .i64 key] 3)).alloc (.cells #[.int .u64 link] 23)
  obtain ⟨w1, e1⟩ : ∃ w1, w.alloc (.cells #[.pointer (some ⟨t, 0, none⟩)] 24) = w1 := ⟨_, rfl⟩
  have s1 : w1.heap.size = w.heap.size + 1 := by rw [← e1]; simp
  have a0 : w1.cell? ⟨w.heap.size, 0, none⟩ = some (.pointer (some ⟨t, 0, none⟩)) := by rw [← e1]; simp
  rw [e1] at K ⊢
  obtain ⟨w2, e2⟩ : ∃ w2, w1.alloc (.cells #[.int .i64 key] 3) = w2 := ⟨_, rfl⟩
  have s2 : w2.heap.size = w.heap.size + 1 + 1 := by rw [← e2, World.size_alloc, s1]
  have a1 : w2.cell? ⟨w.heap.size + 1, 0, none⟩ = some (.int .i64 key) := by rw [← e2, ← s1]; simp
  have k2 : Keep (fun _ => False) w1 w2 := by rw [← e2]; exact (Keep.refl _ _).alloc _
  have b0 := k2.cell a0 id
  rw [e2] at K ⊢
  have k3 : Keep (fun _ => False) w2 (w2.alloc (.cells #[.int .u64 link] 23)) := (Keep.refl _ _).alloc _
  exact ⟨_, rfl, ⟨k3.cell b0 id, k3.cell a1 id, by rw [← s2]; simp⟩, K⟩
theorem add_bad (key link : Int) (hk : key < 0 ∨ 63 < key) : Calls Try.prog 10 #[.pointer (some ⟨t, 0, none⟩), .int .i64 key, .int .u64 link] w fun e w' => e = .returned (.int .i64 1) ∧ Keep (fun _ => False) w w' := by
  have kb := iskey_no key hk
  obtain ⟨M, eM, s3, k3⟩ := boxes w t key link
  have s1 := s3.2.1
  go_enter Try.func10, Try.ntmps10
  go_wp2_with fail
  refine (kb _).mono ?_
  rintro e w1 ⟨rfl, rfl⟩
  clear kb eM s3
  go_wp2
  go_ret
  exact ⟨rfl, k3⟩
set_option maxRecDepth 100000 in
theorem add_old (h : RdA w t es ps vr vs Z) (k : Nat) (k63 : k ≤ 63) (hm : (k : Int) ∈ es.map Prod.fst) (link : Int) : Calls Try.prog 10 #[.pointer (some ⟨t, 0, none⟩), .int .i64 k, .int .u64 link] w fun e w' => e = .returned (.int .i64 0) ∧ Keep (fun _ => False) w w' := by
  have kb := iskey_yes k (by omega) (by omega)
  obtain ⟨M, eM, s3, k3⟩ := boxes w t k link
  obtain ⟨s0, s1, s2⟩ := s3
  have c0 := (h.same k3).c0 k k63
  rw [show dnR es k = 1 from if_pos hm] at c0
  have kd := k3.drew
  have b0 : (k : Int) < 64 := by omega
  have c0d : M.drew.cell? ⟨t, k * 3, none⟩ = some (.int .u32 1) := c0
  clear h hm k3
  go_enter Try.func10, Try.ntmps10
  go_wp2_with fail
  refine (kb _).mono ?_
  rintro e w1 ⟨rfl, rfl⟩
  clear kb eM
  go_wp2_with fail
  go_still_tail 6, (by kernel_rfl)
  change wpList _ _ _ _ _ M.drew
  go_wp2_with fail
  refine (once_done t (k * 3) _ M.drew c0d).mono ?_
  rintro e w2 ⟨rfl, rfl⟩
  go_wp2
  go_ret
  exact ⟨rfl, kd⟩
/-- The world behind a first Add: the slice, the Once done, its lock free again. -/
def addF (w1 : World) (t k : Nat) (v' : Value) : World := ((w1.setCell ⟨t, 192, none⟩ v').drew.setCell ⟨t, k * 3, none⟩ (.int .u32 1)).setCell ⟨t, k * 3 + 1, none⟩ (.int .i32 0)
theorem addF_keep (w1 : World) (t k : Nat) (v' : Value) : Keep (fun j => j = t) w1 (addF w1 t k v') :=
  (((Keep.refl (fun j => j = t) w1).setCell (p := ⟨t, 192, none⟩) rfl v').drew.setCell (p := ⟨t, k * 3, none⟩) rfl (.int .u32 1)).setCell (p := ⟨t, k * 3 + 1, none⟩) rfl (.int .i32 0)
theorem addF_far {w1 : World} {t k i : Nat} {v' u : Value} (h : w1.cell? ⟨t, i, none⟩ = some u) (n0 : i ≠ 192) (n1 : i ≠ k * 3) (n2 : i ≠ k * 3 + 1) : (addF w1 t k v').cell? ⟨t, i, none⟩ = some u := by
  unfold addF
  rw [World.cell?_setCell_other _ _ _ _ (by first | (simp; done) | (simp; omega)), World.cell?_setCell_other _ _ _ _ (by first | (simp; done) | (simp; omega))]
  show (w1.setCell ⟨t, 192, none⟩ v').cell? ⟨t, i, none⟩ = some u
  rw [World.cell?_setCell_other _ _ _ _ (by first | (simp; done) | (simp; omega))]
  exact h
theorem addF_fz {w1 : World} {t k : Nat} {v' : Value} (h : ∀ i, w1.frozen? ⟨t, i, none⟩ = false) (i : Nat) : (addF w1 t k v').frozen? ⟨t, i, none⟩ = false := by
  unfold addF
  rw [World.frozen?_setCell, World.frozen?_setCell]
  show (w1.setCell ⟨t, 192, none⟩ v').frozen? ⟨t, i, none⟩ = false
  rw [World.frozen?_setCell]
  exact h i
theorem addF_three {w1 : World} {t k : Nat} {v' u0 u1 u2 : Value} (k63 : k ≤ 63) (h0 : w1.cell? ⟨t, 192, none⟩ = some u0) (h1 : w1.cell? ⟨t, k * 3, none⟩ = some u1) (h2 : w1.cell? ⟨t, k * 3 + 1, none⟩ = some u2) :
    (addF w1 t k v').cell? ⟨t, 192, none⟩ = some v' ∧ (addF w1 t k v').cell? ⟨t, k * 3, none⟩ = some (.int .u32 1) ∧ (addF w1 t k v').cell? ⟨t, k * 3 + 1, none⟩ = some (.int .i32 0) := by
  unfold addF
  refine ⟨?_, ?_, ?_⟩
  · rw [World.cell?_setCell_other _ _ _ _ (by first | (simp; done) | (simp; omega)), World.cell?_setCell_other _ _ _ _ (by first | (simp; done) | (simp; omega))]
    exact World.cell?_setCell_same _ _ _ h0
  · rw [World.cell?_setCell_other _ _ _ _ (by first | (simp; done) | (simp; omega))]
    refine World.cell?_setCell_same _ _ _ (u := u1) ?_
    show (w1.setCell ⟨t, 192, none⟩ v').cell? ⟨t, k * 3, none⟩ = some u1
    rw [World.cell?_setCell_other _ _ _ _ (by first | (simp; done) | (simp; omega))]; exact h1
  · refine World.cell?_setCell_same _ _ _ (u := u2) ?_
    rw [World.cell?_setCell_other _ _ _ _ (by first | (simp; done) | (simp; omega))]
    show (w1.setCell ⟨t, 192, none⟩ v').cell? ⟨t, k * 3 + 1, none⟩ = some u2
    rw [World.cell?_setCell_other _ _ _ _ (by first | (simp; done) | (simp; omega))]; exact h2
/-- What a first Add leaves. -/
def Added (w : World) (t : Nat) (es : List (Int × Int)) (ps : List (ScI × Value)) (vr vs : Value) (Z : Nat → Prop) (w' : World) : Prop :=
  ∃ v', RdA w' t es ps v' vs Z ∧ Keep (FootR t vr vs Z) w w' ∧ ∀ g, v'.ownBlock = some g → vr.ownBlock = some g ∨ w.heap.size ≤ g
theorem RdA.added (h : RdA w t es ps vr vs Z) (k : Nat) (k63 : k ≤ 63) (hm : (k : Int) ∉ es.map Prod.fst) (link : Int) (hl : U64 link) {D w1 : World} {g c : Nat} {v' : Value} (ev : v' = .slice (some ⟨g, 0, none⟩) (es.length + 1) c)
    (eD : D = w'.setCell ⟨t, k * 3 + 1, none⟩ (.int .i32 1)) (kw : Keep (fun _ => False) w w')
    (o : OwnM 2 rdC 75 w1 v' (es ++ [((k : Int), link)])) (k1 : Keep (fun j => vr.ownBlock = some j) D w1) (hg : vr.ownBlock = some g ∨ D.heap.size ≤ g) :
    Added w t (es ++ [((k : Int), link)]) ps vr vs Z (addF w1 t k v') := by
  have hv : ∀ x, v'.ownBlock = some x → x = g := fun x hx => by subst ev; cases hx; rfl
  have h0 := h.same kw
  have kD : Keep (fun j => j = t) w' D := by rw [eD]; exact keep_one w' ⟨t, k * 3 + 1, none⟩ _
  have kA := addF_keep w1 t k v'
  have sz : w'.heap.size ≤ D.heap.size := kD.size
  have rt : vr.ownBlock ≠ some t := fun e => (h.rb t e).1 rfl
  have gt : g ≠ t := fun e => by
    subst e
    rcases hg with y | y
    · exact rt y
    · have := h0.lt; omega
  have gZ : ¬ Z g := fun z => by
    rcases hg with y | y
    · exact (h.rb g y).2 z
    · have := h0.zl g z; omega
  have gs : vs.ownBlock ≠ some g := fun e => by
    rcases hg with y | y
    · exact (h.sn g e).2.2 y
    · have := h0.p.lt e; omega
  have far : ∀ i u, w'.cell? ⟨t, i, none⟩ = some u → i ≠ k * 3 + 1 → w1.cell? ⟨t, i, none⟩ = some u := fun i u e n => k1.cell (by rw [eD, World.cell?_setCell_other _ _ _ _ (by first | (simp; done) | (simp; omega))]; exact e) rt
  have own1 : w1.cell? ⟨t, k * 3 + 1, none⟩ = some (.int .i32 1) := k1.cell (by rw [eD]; exact World.cell?_setCell_same _ _ _ (h0.c1 k k63)) rt
  obtain ⟨f0, f1, f2⟩ := addF_three (v' := v') k63 (far 192 vr h0.cr (by omega)) (far (k * 3) _ (h0.c0 k k63) (by omega)) own1
  have dn : ∀ j : Nat, j ≠ k → dnR (es ++ [((k : Int), link)]) j = dnR es j := fun j hj => by
    unfold dnR
    congr 1
    rw [List.map_append, List.mem_append]
    simp
    intro e
    omega
  have KW : Keep (FootR t vr vs Z) w (addF w1 t k v') := ((kw.mono (fun _ e => e.elim)).trans (kD.mono (fun j e => .inl e))).trans ((k1.mono (fun j e => .inr (.inl e))).trans (kA.mono (fun j e => .inl e)))
  refine ⟨v', ?_, KW, fun x hx => ?_⟩
  · exact {
      c0 := fun j hj => by
        by_cases e : j = k
        · subst e
          rw [f1, dnR, if_pos (by simp)]
        · rw [dn j e]
          exact addF_far (far _ _ (h0.c0 j hj) (by omega)) (by omega) (by omega) (by omega)
      c1 := fun j hj => by
        by_cases e : j = k
        · subst e; exact f2
        · exact addF_far (far _ _ (h0.c1 j hj) (by omega)) (by omega) (by omega) (by omega)
      cr := f0
      cs := addF_far (far _ _ h0.cs (by omega)) (by omega) (by omega) (by omega)
      fz := addF_fz (fun i => (k1.frozen (a := ⟨t, i, none⟩) (Nat.lt_of_lt_of_le h0.lt sz) rt).trans (by rw [eD, World.frozen?_setCell]; exact h0.fz i))
      r := o.keep kA (fun x hx e => gt ((hv x hx).symm.trans e))
      p := ((h0.p.keep kD (fun x hx e => (h.sn x hx).1 e)).keep k1 (fun x hx e => (h.sn x hx).2.2 e)).keep kA (fun x hx e => (h.sn x hx).1 e)
      z := fun y hy => OwnU.keep (OwnU.keep (OwnU.keep (h0.z y hy) kD (fun x hx e => h.zt (e ▸ h.zb y hy x hx))) k1 (fun x hx e => (h.rb x e).2 (h.zb y hy x hx))) kA (fun x hx e => h.zt (e ▸ h.zb y hy x hx))
      kb := fun y hy => by
        rcases List.mem_append.1 hy with hy | hy
        · exact h.kb y hy
        · simp only [List.mem_singleton] at hy
          subst hy
          exact ⟨by simp, by show (k : Int) ≤ 63; omega, hl⟩
      nd := by
        rw [List.map_append, List.nodup_append]
        refine ⟨h.nd, by simp, fun a ha b hb e => ?_⟩
        simp at hb
        rw [e, hb] at ha
        exact hm ha
      sb := h.sb
      pl := h.pl
      zl := fun x hx => Nat.lt_of_lt_of_le (h.zl x hx) KW.size
      zt := h.zt
      zb := h.zb
      rb := fun x hx => by rw [hv x hx]; exact ⟨gt, gZ⟩
      sn := fun x hx => ⟨(h.sn x hx).1, (h.sn x hx).2.1, fun e => gs (by rw [← hv x e]; exact hx)⟩ }
  · rw [hv x hx]
    rcases hg with y | y
    · exact .inl y
    · right; have := kw.size; omega
set_option maxRecDepth 100000 in
theorem add_new (h : RdA w t es ps vr vs Z) (k : Nat) (k63 : k ≤ 63) (hm : (k : Int) ∉ es.map Prod.fst) (link : Int) (hl : U64 link) : Calls Try.prog 10 #[.pointer (some ⟨t, 0, none⟩), .int .i64 k, .int .u64 link] w fun e w' => e = .returned (.int .i64 0) ∧ Added w t (es ++ [((k : Int), link)]) ps vr vs Z w' := by
  have kb := iskey_yes k (by omega) (by omega)
  obtain ⟨M, eM, s3, k3⟩ := boxes w t k link
  have h3 := h.same k3
  have lt := h.lt
  have ro : ∀ x, vr.ownBlock = some x → x < w.heap.size := fun x hx => h.r.lt hx
  have hD : Calls Try.prog 33 #[.pointer (some ⟨t, k * 3, none⟩), .func (.func 34) #[] #[.pointer (some ⟨w.heap.size, 0, none⟩), .pointer (some ⟨w.heap.size + 1, 0, none⟩), .pointer (some ⟨w.heap.size + 1 + 1, 0, none⟩)]] M.drew fun e w' => e = .returned (.tuple #[]) ∧ Added w t (es ++ [((k : Int), link)]) ps vr vs Z w' := by
    obtain ⟨D, eD⟩ : ∃ D, M.drew.setCell ⟨t, k * 3 + 1, none⟩ (.int .i32 1) = D := ⟨_, rfl⟩
    have kD : Keep (fun j => j = t) M.drew D := by rw [← eD]; exact keep_one M.drew ⟨t, k * 3 + 1, none⟩ _
    have c0 := h3.c0 k k63
    rw [show dnR es k = 0 from if_neg hm] at c0
    have sD : S3 D w.heap.size (w.heap.size + 1) (w.heap.size + 1 + 1) t k link := S3.keep (w := M.drew) s3 kD (by omega) (by omega) (by omega)
    have rt : vr.ownBlock ≠ some t := fun e => (h.rb t e).1 rfl
    have fD : ∀ i, D.frozen? ⟨t, i, none⟩ = false := fun i => by rw [← eD, World.frozen?_setCell]; exact h3.fz i
    have lD : t < D.heap.size := Nat.lt_of_lt_of_le lt (Nat.le_trans k3.size kD.size)
    refine (once_firstR t (k * 3) _ (Wrote D t vr es k link) M.drew c0 (h3.c1 k k63) (h3.fz _) ?_).mono ?_
    · rw [eD]
      refine (add1_any w.heap.size (w.heap.size + 1) (w.heap.size + 1 + 1) k link D rt (fun e => by have := ro _ e; omega) (fun e => by have := ro _ e; omega) (fun e => by have := ro _ e; omega) (by omega) (by omega) (by omega) sD.1 sD.2.1 sD.2.2 (by rw [← eD, World.cell?_setCell_other _ _ _ _ (by first | (simp; done) | (simp; omega))]; exact h3.cr) (fD _) ((h3.r.keep (Keep.refl (fun _ => False) M).drew (by simp)).keep kD (fun x hx e => (h.rb x hx).1 e)) h.short).mono ?_
      rintro e w' ⟨rfl, W⟩
      refine ⟨rfl, W, ?_⟩
      obtain ⟨g, c, w1, rfl, o1, k1, hg⟩ := W
      refine ⟨?_, ?_, ?_, ?_⟩
      · rw [World.cell?_setCell_other _ _ _ _ (by first | (simp; done) | (simp; omega))]
        exact k1.cell (by rw [← eD, World.cell?_setCell_other _ _ _ _ (by first | (simp; done) | (simp; omega))]; exact c0) rt
      · rw [World.cell?_setCell_other _ _ _ _ (by first | (simp; done) | (simp; omega))]
        exact k1.cell (by rw [← eD]; exact World.cell?_setCell_same _ _ _ (h3.c1 k k63)) rt
      · rw [World.frozen?_setCell]; exact (k1.frozen (a := ⟨t, k * 3, none⟩) lD rt).trans (fD _)
      · rw [World.frozen?_setCell]; exact (k1.frozen (a := ⟨t, k * 3 + 1, none⟩) lD rt).trans (fD _)
    · rintro e w' ⟨rfl, w2, ⟨g, c, w1, rfl, o1, k1, hg⟩, rfl⟩
      exact ⟨rfl, h.added (w' := M.drew) k k63 hm link hl rfl eD.symm k3.drew o1 k1 hg⟩
  obtain ⟨s0, s1, s2⟩ := s3
  have b0 : (k : Int) < 64 := by omega
  clear h hm k3 h3 ro lt hl
  go_enter Try.func10, Try.ntmps10
  go_wp2_with fail
  refine (kb _).mono ?_
  rintro e w1 ⟨rfl, rfl⟩
  clear kb eM
  go_wp2_with fail
  go_still_tail 6, (by kernel_rfl)
  change wpList _ _ _ _ _ M.drew
  go_wp2_with fail
  refine hD.mono ?_
  rintro e w2 ⟨rfl, F⟩
  clear hD
  go_wp2
  go_ret
  exact ⟨rfl, F⟩
theorem sp_lies (w : World) (y : ScI × Value) : ∀ j u, (spC y)[j]? = some u → (w.alloc (.cells #[.int .i64 y.1.lo, .int .i64 y.1.hi, y.2] 51)).cell? ((⟨w.heap.size, 0, none⟩ : Addr).add j) = some u := by
  intro j u hj
  match j, hj with
  | 0, hj => simp [spC] at hj; subst hj; simp [Addr.add]
  | 1, hj => simp [spC] at hj; subst hj; simp [Addr.add]
  | 2, hj => simp [spC] at hj; subst hj; simp [Addr.add]
/-- 'append(l, x)' of one range, at a step of a region that draws its order. -/
theorem step_pushS {w : World} {ops : Array Oper} {o : Oper} {a : Act} {K : Act → World → Prop} {Q : Exit → Act → World → Prop} {E : Prop} (hgd : o.guard = none) (s x : Operand)
    (ho : o.op = .call { callee := .builtin .append, args := #[s, x], argTypes := #[37, 37] })
    (v : Value) (zs : List (ScI × Value)) (hs : a.eval s = v) (hown : OwnM 3 spC 51 w v zs) (lo hi : Int) (z : List Int) (u : Value) (hu : u.oneCell' = true) (hx : a.eval x = .slice (some ⟨w.heap.size, 0, none⟩) 1 1) (hl : zs.length ≤ 100000)
    (h : ∀ g c w', OwnM 3 spC 51 w' (.slice (some ⟨g, 0, none⟩) (zs.length + 1) c) (zs ++ [(⟨lo, hi, z⟩, u)]) → Keep (fun j => v.ownBlock = some j) w w' → (v.ownBlock = some g ∨ w.heap.size ≤ g) → K (a.put o.dst (.slice (some ⟨g, 0, none⟩) (zs.length + 1) c)) w') :
    if Region.wanted o (yielded ops a.tmps) = true then Oper.wp Try.prog o a (w.alloc (.cells #[.int .i64 lo, .int .i64 hi, u] 51)) K Q else E := by
  obtain ⟨i0, hi0, hz0, hz1, hz2⟩ := info_parts info_sp
  refine step_append_lies _ hgd s x 37 ho 0 51 i0 _ 3 40 Try.underlying37 hi0 hz0 hz1 hz2 rfl (by decide) v zs.length (zs.flatMap spC) hs (World.ownsRow.alloc hown _) ⟨w.heap.size, 0, none⟩ 1 1 (spC (⟨lo, hi, z⟩, u)) hx rfl (sp_lies w (⟨lo, hi, z⟩, u)) (by intro u' hu'; simp only [spC, List.mem_cons, List.not_mem_nil, or_false] at hu'; rcases hu' with rfl | rfl | rfl; rfl; rfl; exact hu) (by decide) (by unfold maxLen; omega) (by omega) (Nat.zero_le _) (w.heap.size + 1) (by simp) ?_
  intro g c w' o1 gr hg _
  have e : OwnM 3 spC 51 w' (.slice (some ⟨g, 0, none⟩) (zs.length + 1) c) (zs ++ [(⟨lo, hi, z⟩, u)]) := by
    unfold OwnM
    simpa using o1
  have k0 := Keep.alloc (Keep.refl (fun j => v.ownBlock = some j) w) (.cells #[.int .i64 lo, .int .i64 hi, u] 51)
  refine h g c w' e (k0.trans ⟨gr.os, gr.tape, gr.output, gr.size, fun j hj hn => gr.block j hj (fun e => hn e.symm)⟩) (hg.imp_right (by omega))
theorem span_bad (lo hi : Int) (v : Value) (hk : lo < 0 ∨ 63 < lo ∨ hi < 0 ∨ 63 < hi ∨ hi < lo) : Calls Try.prog 14 #[.pointer (some ⟨t, 0, none⟩), .int .i64 lo, .int .i64 hi, v] w fun e w' => e = .returned (.int .i64 1) ∧ Keep (fun _ => False) w w' := by
  by_cases h1 : lo < 0 ∨ 63 < lo
  · have k1 := iskey_no lo h1
    go_enter Try.func14, Try.ntmps14
    go_wp2_with fail
    refine (k1 _).mono ?_
    rintro e w1 ⟨rfl, rfl⟩
    clear k1
    go_wp2
    go_ret
    exact ⟨rfl, Keep.refl _ _⟩
  · have k1 := iskey_yes lo (by omega) (by omega)
    by_cases h2 : hi < 0 ∨ 63 < hi
    · have k2 := iskey_no hi h2
      go_enter Try.func14, Try.ntmps14
      go_wp2_with fail
      refine (k1 _).mono ?_
      rintro e w1 ⟨rfl, rfl⟩
      clear k1
      go_wp2_with fail
      refine (k2 _).mono ?_
      rintro e w1 ⟨rfl, rfl⟩
      clear k2
      go_wp2
      go_ret
      exact ⟨rfl, Keep.refl _ _⟩
    · have k2 := iskey_yes hi (by omega) (by omega)
      have h3 : hi < lo := by omega
      clear h1 h2 hk
      go_enter Try.func14, Try.ntmps14
      go_wp2_with fail
      refine (k1 _).mono ?_
      rintro e w1 ⟨rfl, rfl⟩
      clear k1
      go_wp2_with fail
      refine (k2 _).mono ?_
      rintro e w1 ⟨rfl, rfl⟩
      clear k2
      go_wp2
      go_ret
      exact ⟨rfl, Keep.refl _ _⟩
set_option maxRecDepth 100000 in
theorem span_many (h : RdA w t es ps vr vs Z) (lo hi : Int) (v : Value) (l0 : 0 ≤ lo) (l1 : lo ≤ hi) (l2 : hi ≤ 63) (hp : ps.length = 64) : Calls Try.prog 14 #[.pointer (some ⟨t, 0, none⟩), .int .i64 lo, .int .i64 hi, v] w fun e w' => e = .returned (.int .i64 65) ∧ Keep (fun _ => False) w w' := by
  have k1 := iskey_yes lo l0 (by omega)
  have k2 := iskey_yes hi (by omega) l2
  obtain ⟨A, c, rfl, hA0, hA1⟩ := h.shapeS
  have cs := h.cs
  rw [hp] at cs
  have h3 : ¬ hi < lo := by omega
  clear h hA0 hA1
  go_enter Try.func14, Try.ntmps14
  go_wp2_with fail
  refine (k1 _).mono ?_
  rintro e w1 ⟨rfl, rfl⟩
  clear k1
  go_wp2_with fail
  refine (k2 _).mono ?_
  rintro e w1 ⟨rfl, rfl⟩
  clear k2
  go_wp2
  go_ret
  exact ⟨rfl, Keep.refl _ _⟩
/-- What a Span leaves. -/
def Spanned (w : World) (t : Nat) (es : List (Int × Int)) (ps : List (ScI × Value)) (vr vs : Value) (Z : Nat → Prop) (x : ScI) (w' : World) : Prop :=
  ∃ v' u Z', RdA w' t es (ps ++ [(x, u)]) vr v' Z' ∧ Keep (FootR t vr vs Z) w w' ∧ (∀ g, v'.ownBlock = some g → vs.ownBlock = some g ∨ w.heap.size ≤ g) ∧ ∀ g, Z' g → Z g ∨ w.heap.size ≤ g
theorem RdA.spanned (h : RdA w t es ps vr vs Z) (x : ScI) (xb : 0 ≤ x.lo ∧ x.lo ≤ x.hi ∧ x.hi ≤ 63 ∧ x.z.length ≤ 100000) (hp : ps.length < 64) {w1 y4 : World} {u : Value} (o1 : OwnU w.heap.size w1 u x.z) (k1 : Keep (fun _ => False) w.drew w1) {g c : Nat} {v' : Value} (ev : v' = .slice (some ⟨g, 0, none⟩) (ps.length + 1) c)
    (o4 : OwnM 3 spC 51 y4 v' (ps ++ [(x, u)])) (k4 : Keep (fun j => vs.ownBlock = some j) w1 y4) (hg : vs.ownBlock = some g ∨ w1.heap.size ≤ g) :
    Spanned w t es ps vr vs Z x (y4.setCell ⟨t, 193, none⟩ v') := by
  have hv : ∀ x, v'.ownBlock = some x → x = g := fun x hx => by subst ev; cases hx; rfl
  have kw : Keep (fun _ => False) w w1 := (Keep.refl (fun _ => False) w).drew.trans k1
  have h0 := h.same kw
  have st : vs.ownBlock ≠ some t := fun e => (h.sn t e).1 rfl
  have ub : ∀ j, u.ownBlock = some j → w.heap.size ≤ j ∧ j < w1.heap.size := fun j hj => OwnU.lt o1 hj
  have us : ∀ j, u.ownBlock = some j → vs.ownBlock ≠ some j := fun j hj e => by have := h.p.lt e; have := ub j hj; omega
  have gt : g ≠ t := fun e => by
    subst e
    rcases hg with y | y
    · exact st y
    · have := h0.lt; omega
  have gZ : ¬ Z g := fun z => by
    rcases hg with y | y
    · exact (h.sn g y).2.1 z
    · have := h0.zl g z; omega
  have gu : u.ownBlock ≠ some g := fun e => by
    rcases hg with y | y
    · exact us g e y
    · have := ub g e; omega
  have gr : vr.ownBlock ≠ some g := fun e => by
    rcases hg with y | y
    · exact (h.sn g y).2.2 e
    · have := h0.r.lt e; omega
  have ks : Keep (fun j => j = t) y4 (y4.setCell ⟨t, 193, none⟩ v') := keep_one y4 ⟨t, 193, none⟩ _
  have KW : Keep (FootR t vr vs Z) w (y4.setCell ⟨t, 193, none⟩ v') := (kw.mono (fun _ e => e.elim)).trans ((k4.mono (fun j e => .inr (.inr (.inl e)))).trans (ks.mono (fun j e => .inl e)))
  have far : ∀ i u, w1.cell? ⟨t, i, none⟩ = some u → i ≠ 193 → (y4.setCell ⟨t, 193, none⟩ v').cell? ⟨t, i, none⟩ = some u := fun i u e n => by rw [World.cell?_setCell_other _ _ _ _ (by first | (simp; done) | (simp; omega))]; exact k4.cell e st
  have ut : ∀ j, u.ownBlock = some j → j ≠ t := fun j hj e => by have := ub j hj; have := h.lt; omega
  refine ⟨v', u, fun j => Z j ∨ u.ownBlock = some j, ?_, KW, fun j hj => ?_, fun j hj => ?_⟩
  · exact {
      c0 := fun j hj => far _ _ (h0.c0 j hj) (by omega)
      c1 := fun j hj => far _ _ (h0.c1 j hj) (by omega)
      cr := far _ _ h0.cr (by omega)
      cs := World.cell?_setCell_same _ _ _ (k4.cell h0.cs st)
      fz := fun i => by rw [World.frozen?_setCell]; exact (k4.frozen (a := ⟨t, i, none⟩) h0.lt st).trans (h0.fz i)
      r := (h0.r.keep k4 (fun j hj e => (h.sn j e).2.2 hj)).keep ks (fun j hj e => (h.rb j hj).1 e)
      p := o4.keep ks (fun j hj e => gt ((hv j hj).symm.trans e))
      z := fun y hy => by
        rcases List.mem_append.1 hy with hy | hy
        · exact OwnU.keep (OwnU.keep (h0.z y hy) k4 (fun j hj e => (h.sn j e).2.1 (h.zb y hy j hj))) ks (fun j hj e => h.zt (e ▸ h.zb y hy j hj))
        · simp only [List.mem_singleton] at hy
          subst hy
          exact OwnU.keep (OwnU.keep (OwnU.lower o1 (Nat.zero_le _)) k4 (fun j hj e => us j hj e)) ks (fun j hj e => ut j hj e)
      kb := h.kb
      nd := h.nd
      sb := fun y hy => by
        rcases List.mem_append.1 hy with hy | hy
        · exact h.sb y hy
        · simp only [List.mem_singleton] at hy
          subst hy
          exact xb
      pl := by rw [List.length_append]; show ps.length + 1 ≤ 64; omega
      zl := fun j hj => by
        rcases hj with hj | hj
        · exact Nat.lt_of_lt_of_le (h.zl j hj) KW.size
        · exact Nat.lt_of_lt_of_le (ub j hj).2 (Nat.le_trans k4.size ks.size)
      zt := fun e => by
        rcases e with e | e
        · exact h.zt e
        · exact ut t e rfl
      zb := fun y hy j hj => by
        rcases List.mem_append.1 hy with hy | hy
        · exact .inl (h.zb y hy j hj)
        · simp only [List.mem_singleton] at hy
          subst hy
          exact .inr hj
      rb := fun j hj => ⟨(h.rb j hj).1, fun e => by
        rcases e with e | e
        · exact (h.rb j hj).2 e
        · have := h.r.lt hj; have := ub j e; omega⟩
      sn := fun j hj => by
        rw [hv j hj]
        exact ⟨gt, fun e => by rcases e with e | e; exact gZ e; exact gu e, gr⟩ }
  · rw [hv j hj]
    rcases hg with y | y
    · exact .inl y
    · right; have := kw.size; omega
  · rcases hj with hj | hj
    · exact .inl hj
    · exact .inr (ub j hj).1
set_option maxRecDepth 100000 in
set_option maxHeartbeats 1000000 in
theorem span_ok (h : RdA w t es ps vr vs Z) (lo hi : Int) (l0 : 0 ≤ lo) (l1 : lo ≤ hi) (l2 : hi ≤ 63) (hp : ps.length < 64) (hz : Lies w v zs) (hl : zs.length ≤ 100000) : Calls Try.prog 14 #[.pointer (some ⟨t, 0, none⟩), .int .i64 lo, .int .i64 hi, v] w fun e w' => e = .returned (.int .i64 0) ∧ Spanned w t es ps vr vs Z ⟨lo, hi, zs⟩ w' := by
  have FIN : ∀ (w1 : World) (u : Value), OwnU w.heap.size w1 u zs → Keep (fun _ => False) w.drew w1 → ∀ (g c : Nat) (y4 : World), OwnM 3 spC 51 y4 (.slice (some ⟨g, 0, none⟩) (ps.length + 1) c) (ps ++ [(⟨lo, hi, zs⟩, u)]) → Keep (fun j => vs.ownBlock = some j) w1 y4 → (vs.ownBlock = some g ∨ w1.heap.size ≤ g) →
      Spanned w t es ps vr vs Z ⟨lo, hi, zs⟩ (y4.setCell ⟨t, 193, none⟩ (.slice (some ⟨g, 0, none⟩) (ps.length + 1) c)) := fun w1 u o1 k1 g c y4 o4 k4 hg => h.spanned ⟨lo, hi, zs⟩ ⟨l0, l1, l2, hl⟩ hp o1 k1 rfl o4 k4 hg
  have FIN := Lib.hid FIN
  have k1 := iskey_yes lo l0 (by omega)
  have k2 := iskey_yes hi (by omega) l2
  have hc := clone_u (w := w.drew) (v := v) hz hl
  have hm : (ps.length : Int) ≠ 64 := by omega
  have OP := Lib.hid h.p
  have FZ := Lib.hid (h.fz 193)
  have LT := Lib.hid h.lt
  have nt := Lib.hid (show ¬ vs.ownBlock = some t from fun e => (h.sn t e).1 rfl)
  obtain ⟨A, c, evs, hA0, hA1⟩ := h.shapeS
  have cs := h.cs
  have csd : w.drew.cell? ⟨t, 193, none⟩ = some vs := cs
  have h3 : ¬ hi < lo := by omega
  have EV := Lib.hid evs
  rw [evs] at cs csd
  obtain ⟨n, en⟩ : ∃ n, ps.length = n := ⟨_, rfl⟩
  have EN := Lib.hid en
  rw [en] at cs csd hm hp
  have qm : ((n : Int) == 64) = false := by simpa using hm
  clear h hA0 hA1 evs en hz l0 l1 l2
  go_enter Try.func14, Try.ntmps14
  go_wp2_with fail
  refine (k1 _).mono ?_
  rintro e w1 ⟨rfl, rfl⟩
  clear k1
  go_wp2_with fail
  refine (k2 _).mono ?_
  rintro e w1 ⟨rfl, rfl⟩
  clear k2
  go_wp2_with fail
  refine wp_region_held_drew (S := fun _ => True) (by kernel_rfl) trivial (fun hHeld => ?_)
  refine wpAnyH_take (i := 0) (v := ?qvu11) rfl (by kernel_rfl) (by kernel_rfl) (by kernel_rfl) (fun _ _ _ h => h) (Or.inl ⟨by rfl, ?qyu11⟩) (by assumption) ?qru11; case qyu11 => ((intro w hSw; (try dsimp only at hSw); go_simp); try (with_reducible rfl))
  ((try simp only [List.getElem_toArray]); (try simp only [List.getElem_cons_succ]); (try simp only [List.getElem_cons_zero]); (try simp only [Act.put]); (try simp only [List.setIfInBounds_toArray]); (try simp only [List.set_cons_succ]); (try simp only [List.set_cons_zero]))
  refine wpAnyH_take (i := 1) (v := ?qvu12) rfl (by kernel_rfl) (by kernel_rfl) (by kernel_rfl) (fun _ _ _ h => h) (Or.inl ⟨by rfl, ?qyu12⟩) (by assumption) ?qru12; case qyu12 => ((intro w hSw; (try dsimp only at hSw); go_simp); try (with_reducible rfl))
  ((try simp only [List.getElem_toArray]); (try simp only [List.getElem_cons_succ]); (try simp only [List.getElem_cons_zero]); (try simp only [Act.put]); (try simp only [List.setIfInBounds_toArray]); (try simp only [List.set_cons_succ]); (try simp only [List.set_cons_zero]))
  refine wpAnyH_take (i := 2) (v := ?qvu13) rfl (by kernel_rfl) (by kernel_rfl) (by kernel_rfl) (fun _ _ _ h => h) (Or.inl ⟨by rfl, ?qyu13⟩) (by assumption) ?qru13; case qyu13 => ((intro w hSw; (try dsimp only at hSw); go_simp); try (with_reducible rfl))
  ((try simp only [List.getElem_toArray]); (try simp only [List.getElem_cons_succ]); (try simp only [List.getElem_cons_zero]); (try simp only [Act.put]); (try simp only [List.setIfInBounds_toArray]); (try simp only [List.set_cons_succ]); (try simp only [List.set_cons_zero]))
  refine wpAnyH_take (i := 3) (v := ?qvu14) rfl (by kernel_rfl) (by kernel_rfl) (by kernel_rfl) (fun _ _ _ h => h) (Or.inl ⟨by rfl, ?qyu14⟩) (by assumption) ?qru14; case qyu14 => ((intro w hSw; (try dsimp only at hSw); go_simp); try (with_reducible rfl))
  ((try simp only [List.getElem_toArray]); (try simp only [List.getElem_cons_succ]); (try simp only [List.getElem_cons_zero]); (try simp only [Act.put]); (try simp only [List.setIfInBounds_toArray]); (try simp only [List.set_cons_succ]); (try simp only [List.set_cons_zero]))
  refine wpAnyH_take (i := 5) (v := ?qvu15) rfl (by kernel_rfl) (by kernel_rfl) (by kernel_rfl) (fun _ _ _ h => h) (Or.inl ⟨by rfl, ?qyu15⟩) (by assumption) ?qru15; case qyu15 => ((intro w hSw; (try dsimp only at hSw); go_simp); try (with_reducible rfl))
  ((try simp only [List.getElem_toArray]); (try simp only [List.getElem_cons_succ]); (try simp only [List.getElem_cons_zero]); (try simp only [Act.put]); (try simp only [List.setIfInBounds_toArray]); (try simp only [List.set_cons_succ]); (try simp only [List.set_cons_zero]))
  refine wpAnyH_take (i := 6) (v := ?qvu16) rfl (by kernel_rfl) (by kernel_rfl) (by kernel_rfl) (fun _ _ _ h => h) (Or.inl ⟨by rfl, ?qyu16⟩) (by assumption) ?qru16; case qyu16 => ((intro w hSw; (try dsimp only at hSw); go_simp); try (with_reducible rfl))
  ((try simp only [List.getElem_toArray]); (try simp only [List.getElem_cons_succ]); (try simp only [List.getElem_cons_zero]); (try simp only [Act.put]); (try simp only [List.setIfInBounds_toArray]); (try simp only [List.set_cons_succ]); (try simp only [List.set_cons_zero]))
  refine wpAnyH_take (i := 7) (v := ?qvu17) rfl (by kernel_rfl) (by kernel_rfl) (by kernel_rfl) (fun _ _ _ h => h) (Or.inl ⟨by rfl, ?qyu17⟩) (by assumption) ?qru17; case qyu17 => ((intro w hSw; (try dsimp only at hSw); go_simp); try (with_reducible rfl))
  ((try simp only [List.getElem_toArray]); (try simp only [List.getElem_cons_succ]); (try simp only [List.getElem_cons_zero]); (try simp only [Act.put]); (try simp only [List.setIfInBounds_toArray]); (try simp only [List.set_cons_succ]); (try simp only [List.set_cons_zero]))
  refine wpAnyH_ready (rs := [4, 8]) (by kernel_rfl) (by simp) ?_
  refine AllReadyH.cons rfl (fun K hK => ?_) (AllReadyH.cons rfl (fun K hK => ?_) AllReadyH.nil)
  · go_simp
    refine hK.out _ _ trivial (fun hHeld => ?_)
    clear hK K
    ((try simp only [List.getElem_toArray]); (try simp only [List.getElem_cons_succ]); (try simp only [List.getElem_cons_zero]); (try simp only [Act.put]); (try simp only [List.setIfInBounds_toArray]); (try simp only [List.set_cons_succ]); (try simp only [List.set_cons_zero]))
    refine wpAnyH_ready (rs := [8]) (by kernel_rfl) (by simp) ?_
    refine AllReadyH.cons rfl (fun K hK => ?_) AllReadyH.nil
    go_simp
    refine hc.mono ?_
    rintro e w1 ⟨u, rfl, o1, k1⟩
    obtain ⟨uA, un, uc, rfl⟩ : ∃ A n c, u = .slice A n c := (by rcases o1.shape with ⟨h, _⟩ | ⟨g, c, h, _⟩ <;> exact ⟨_, _, _, h⟩)
    have cs1 := k1.cell csd id
    have lt1 : t < w1.heap.size := Nat.lt_of_lt_of_le LT.out k1.size
    have fs1 : w1.frozen? ⟨t, 193, none⟩ = false := (k1.frozen (a := ⟨t, 193, none⟩) LT.out id).trans FZ.out
    have ov1 : OwnM 3 spC 51 w1 (.slice A n c) ps := (by have := (OP.out.keep (Keep.refl (fun _ => False) w).drew (by simp)).keep k1 (by simp); rw [EV.out, EN.out] at this; exact this)
    have O1 := Lib.hid o1
    clear o1 hc cs csd
    refine hK.out _ _ trivial (fun hHeld => ?_)
    clear hK K
    ((try simp only [List.getElem_toArray]); (try simp only [List.getElem_cons_succ]); (try simp only [List.getElem_cons_zero]); (try simp only [Act.put]); (try simp only [List.setIfInBounds_toArray]); (try simp only [List.set_cons_succ]); (try simp only [List.set_cons_zero]))
    refine wpAnyH_take (i := 9) (v := ?qvu18) rfl (by kernel_rfl) (by kernel_rfl) (by kernel_rfl) (fun _ _ _ h => h) (Or.inl ⟨by rfl, ?qyu18⟩) (by assumption) ?qru18; case qyu18 => ((intro w hSw; (try dsimp only at hSw); go_simp); try (with_reducible rfl))
    ((try simp only [List.getElem_toArray]); (try simp only [List.getElem_cons_succ]); (try simp only [List.getElem_cons_zero]); (try simp only [Act.put]); (try simp only [List.setIfInBounds_toArray]); (try simp only [List.set_cons_succ]); (try simp only [List.set_cons_zero]))
    refine wpAnyH_ready (rs := [10]) (by kernel_rfl) (by simp) ?_
    refine AllReadyH.cons rfl (fun K hK => ?_) AllReadyH.nil
    go_simp
    refine hK.out _ _ trivial (fun hHeld => ?_)
    clear hK K
    ((try simp only [List.getElem_toArray]); (try simp only [List.getElem_cons_succ]); (try simp only [List.getElem_cons_zero]); (try simp only [Act.put]); (try simp only [List.setIfInBounds_toArray]); (try simp only [List.set_cons_succ]); (try simp only [List.set_cons_zero]))
    refine wpAnyH_ready (rs := [11]) (by kernel_rfl) (by simp) ?_
    refine AllReadyH.cons rfl (fun K hK => ?_) AllReadyH.nil
    refine step_pushS rfl (.tmp 32) (.tmp 38) rfl (.slice A n c) ps rfl ov1 lo hi zs (.slice uA un uc) rfl rfl (by have := EN.out; omega) ?_
    intro g4 c4 y4 o4 k4 hg4
    have nt4 : ¬ (Value.slice A n c).ownBlock = some t := (by have := nt.out; rw [EV.out, EN.out] at this; exact this)
    have cs4 := k4.cell cs1 nt4
    have fs4 := (k4.frozen (a := ⟨t, 193, none⟩) lt1 nt4).trans fs1
    have F4 := Lib.hid (FIN.out w1 _ O1.out k1 g4 c4 y4 o4 (by rw [EV.out, EN.out]; exact k4) (by rw [EV.out, EN.out]; exact hg4))
    rw [EN.out] at F4 ⊢
    refine hK.out _ _ trivial (fun hHeld => ?_)
    clear hK K
    ((try simp only [List.getElem_toArray]); (try simp only [List.getElem_cons_succ]); (try simp only [List.getElem_cons_zero]); (try simp only [Act.put]); (try simp only [List.setIfInBounds_toArray]); (try simp only [List.set_cons_succ]); (try simp only [List.set_cons_zero]))
    refine wpAnyH_take (i := 12) (v := ?qvu19) rfl (by kernel_rfl) (by kernel_rfl) (by kernel_rfl) (fun _ _ _ h => h) (Or.inl ⟨by rfl, ?qyu19⟩) (by assumption) ?qru19; case qyu19 => ((intro w hSw; (try dsimp only at hSw); go_simp); try (with_reducible rfl))
    ((try simp only [List.getElem_toArray]); (try simp only [List.getElem_cons_succ]); (try simp only [List.getElem_cons_zero]); (try simp only [Act.put]); (try simp only [List.setIfInBounds_toArray]); (try simp only [List.set_cons_succ]); (try simp only [List.set_cons_zero]))
    refine wpAnyH_take (i := 13) (v := ?qvu20) rfl (by kernel_rfl) (by kernel_rfl) (by kernel_rfl) (fun _ _ _ h => h) (Or.inl ⟨by rfl, ?qyu20⟩) (by assumption) ?qru20; case qyu20 => ((intro w hSw; (try dsimp only at hSw); go_simp); try (with_reducible rfl))
    ((try simp only [List.getElem_toArray]); (try simp only [List.getElem_cons_succ]); (try simp only [List.getElem_cons_zero]); (try simp only [Act.put]); (try simp only [List.setIfInBounds_toArray]); (try simp only [List.set_cons_succ]); (try simp only [List.set_cons_zero]))
    refine wpAnyH_ready (rs := [14]) (by kernel_rfl) (by simp) ?_
    refine AllReadyH.cons rfl (fun K hK => ?_) AllReadyH.nil
    go_simp
    refine hK.out _ _ trivial (fun hHeld => ?_)
    clear hK K
    ((try simp only [List.getElem_toArray]); (try simp only [List.getElem_cons_succ]); (try simp only [List.getElem_cons_zero]); (try simp only [Act.put]); (try simp only [List.setIfInBounds_toArray]); (try simp only [List.set_cons_succ]); (try simp only [List.set_cons_zero]))
    refine wpAnyH_done (by kernel_rfl) ?_ _
    go_wp2
    go_ret
    exact ⟨rfl, F4.out⟩
  · go_simp
    refine hc.mono ?_; rintro e w1 ⟨u, rfl, o1, k1⟩; obtain ⟨uA, un, uc, rfl⟩ : ∃ A n c, u = .slice A n c := (by rcases o1.shape with ⟨h, _⟩ | ⟨g, c, h, _⟩ <;> exact ⟨_, _, _, h⟩); have cs1 := k1.cell csd id; have lt1 : t < w1.heap.size := Nat.lt_of_lt_of_le LT.out k1.size; have csa : (w1.alloc (.cells #[.int .i64 lo, .int .i64 hi, .slice uA un uc] 51)).cell? ⟨t, 193, none⟩ = some (.slice A n c) := (by rw [World.cell?_alloc_past _ _ _ (by exact lt1)]; exact cs1); have fs1 : w1.frozen? ⟨t, 193, none⟩ = false := (k1.frozen (a := ⟨t, 193, none⟩) LT.out id).trans FZ.out; have ov1 : OwnM 3 spC 51 w1 (.slice A n c) ps := (by have := (OP.out.keep (Keep.refl (fun _ => False) w).drew (by simp)).keep k1 (by simp); rw [EV.out, EN.out] at this; exact this); have O1 := Lib.hid o1; clear o1 hc cs csd
    refine hK.out _ _ trivial (fun hHeld => ?_)
    clear hK K
    ((try simp only [List.getElem_toArray]); (try simp only [List.getElem_cons_succ]); (try simp only [List.getElem_cons_zero]); (try simp only [Act.put]); (try simp only [List.setIfInBounds_toArray]); (try simp only [List.set_cons_succ]); (try simp only [List.set_cons_zero]))
    refine wpAnyH_take (i := 9) (v := ?qvu21) rfl (by kernel_rfl) (by kernel_rfl) (by kernel_rfl) (fun _ _ _ h => h) (Or.inl ⟨by rfl, ?qyu21⟩) (by assumption) ?qru21; case qyu21 => ((intro w hSw; (try dsimp only at hSw); go_simp); try (with_reducible rfl))
    ((try simp only [List.getElem_toArray]); (try simp only [List.getElem_cons_succ]); (try simp only [List.getElem_cons_zero]); (try simp only [Act.put]); (try simp only [List.setIfInBounds_toArray]); (try simp only [List.set_cons_succ]); (try simp only [List.set_cons_zero]))
    refine wpAnyH_ready (rs := [4, 10]) (by kernel_rfl) (by simp) ?_
    refine AllReadyH.cons rfl (fun K hK => ?_) (AllReadyH.cons rfl (fun K hK => ?_) AllReadyH.nil)
    · go_simp
      refine hK.out _ _ trivial (fun hHeld => ?_)
      clear hK K
      ((try simp only [List.getElem_toArray]); (try simp only [List.getElem_cons_succ]); (try simp only [List.getElem_cons_zero]); (try simp only [Act.put]); (try simp only [List.setIfInBounds_toArray]); (try simp only [List.set_cons_succ]); (try simp only [List.set_cons_zero]))
      refine wpAnyH_ready (rs := [10]) (by kernel_rfl) (by simp) ?_
      refine AllReadyH.cons rfl (fun K hK => ?_) AllReadyH.nil
      go_simp
      refine hK.out _ _ trivial (fun hHeld => ?_)
      clear hK K
      ((try simp only [List.getElem_toArray]); (try simp only [List.getElem_cons_succ]); (try simp only [List.getElem_cons_zero]); (try simp only [Act.put]); (try simp only [List.setIfInBounds_toArray]); (try simp only [List.set_cons_succ]); (try simp only [List.set_cons_zero]))
      refine wpAnyH_ready (rs := [11]) (by kernel_rfl) (by simp) ?_
      refine AllReadyH.cons rfl (fun K hK => ?_) AllReadyH.nil
      refine step_pushS rfl (.tmp 32) (.tmp 38) rfl (.slice A n c) ps rfl ov1 lo hi zs (.slice uA un uc) rfl rfl (by have := EN.out; omega) ?_
      intro g4 c4 y4 o4 k4 hg4
      have nt4 : ¬ (Value.slice A n c).ownBlock = some t := (by have := nt.out; rw [EV.out, EN.out] at this; exact this)
      have cs4 := k4.cell cs1 nt4
      have fs4 := (k4.frozen (a := ⟨t, 193, none⟩) lt1 nt4).trans fs1
      have F4 := Lib.hid (FIN.out w1 _ O1.out k1 g4 c4 y4 o4 (by rw [EV.out, EN.out]; exact k4) (by rw [EV.out, EN.out]; exact hg4))
      rw [EN.out] at F4 ⊢
      refine hK.out _ _ trivial (fun hHeld => ?_)
      clear hK K
      ((try simp only [List.getElem_toArray]); (try simp only [List.getElem_cons_succ]); (try simp only [List.getElem_cons_zero]); (try simp only [Act.put]); (try simp only [List.setIfInBounds_toArray]); (try simp only [List.set_cons_succ]); (try simp only [List.set_cons_zero]))
      refine wpAnyH_take (i := 12) (v := ?qvu22) rfl (by kernel_rfl) (by kernel_rfl) (by kernel_rfl) (fun _ _ _ h => h) (Or.inl ⟨by rfl, ?qyu22⟩) (by assumption) ?qru22; case qyu22 => ((intro w hSw; (try dsimp only at hSw); go_simp); try (with_reducible rfl))
      ((try simp only [List.getElem_toArray]); (try simp only [List.getElem_cons_succ]); (try simp only [List.getElem_cons_zero]); (try simp only [Act.put]); (try simp only [List.setIfInBounds_toArray]); (try simp only [List.set_cons_succ]); (try simp only [List.set_cons_zero]))
      refine wpAnyH_take (i := 13) (v := ?qvu23) rfl (by kernel_rfl) (by kernel_rfl) (by kernel_rfl) (fun _ _ _ h => h) (Or.inl ⟨by rfl, ?qyu23⟩) (by assumption) ?qru23; case qyu23 => ((intro w hSw; (try dsimp only at hSw); go_simp); try (with_reducible rfl))
      ((try simp only [List.getElem_toArray]); (try simp only [List.getElem_cons_succ]); (try simp only [List.getElem_cons_zero]); (try simp only [Act.put]); (try simp only [List.setIfInBounds_toArray]); (try simp only [List.set_cons_succ]); (try simp only [List.set_cons_zero]))
      refine wpAnyH_ready (rs := [14]) (by kernel_rfl) (by simp) ?_
      refine AllReadyH.cons rfl (fun K hK => ?_) AllReadyH.nil
      go_simp
      refine hK.out _ _ trivial (fun hHeld => ?_)
      clear hK K
      ((try simp only [List.getElem_toArray]); (try simp only [List.getElem_cons_succ]); (try simp only [List.getElem_cons_zero]); (try simp only [Act.put]); (try simp only [List.setIfInBounds_toArray]); (try simp only [List.set_cons_succ]); (try simp only [List.set_cons_zero]))
      refine wpAnyH_done (by kernel_rfl) ?_ _
      go_wp2
      go_ret
      exact ⟨rfl, F4.out⟩
    · go_simp
      refine hK.out _ _ trivial (fun hHeld => ?_)
      clear hK K
      ((try simp only [List.getElem_toArray]); (try simp only [List.getElem_cons_succ]); (try simp only [List.getElem_cons_zero]); (try simp only [Act.put]); (try simp only [List.setIfInBounds_toArray]); (try simp only [List.set_cons_succ]); (try simp only [List.set_cons_zero]))
      refine wpAnyH_ready (rs := [4]) (by kernel_rfl) (by simp) ?_
      refine AllReadyH.cons rfl (fun K hK => ?_) AllReadyH.nil
      go_simp
      refine hK.out _ _ trivial (fun hHeld => ?_)
      clear hK K
      ((try simp only [List.getElem_toArray]); (try simp only [List.getElem_cons_succ]); (try simp only [List.getElem_cons_zero]); (try simp only [Act.put]); (try simp only [List.setIfInBounds_toArray]); (try simp only [List.set_cons_succ]); (try simp only [List.set_cons_zero]))
      refine wpAnyH_ready (rs := [11]) (by kernel_rfl) (by simp) ?_
      refine AllReadyH.cons rfl (fun K hK => ?_) AllReadyH.nil
      refine step_pushS rfl (.tmp 32) (.tmp 38) rfl (.slice A n c) ps rfl ov1 lo hi zs (.slice uA un uc) rfl rfl (by have := EN.out; omega) ?_
      intro g4 c4 y4 o4 k4 hg4
      have nt4 : ¬ (Value.slice A n c).ownBlock = some t := (by have := nt.out; rw [EV.out, EN.out] at this; exact this)
      have cs4 := k4.cell cs1 nt4
      have fs4 := (k4.frozen (a := ⟨t, 193, none⟩) lt1 nt4).trans fs1
      have F4 := Lib.hid (FIN.out w1 _ O1.out k1 g4 c4 y4 o4 (by rw [EV.out, EN.out]; exact k4) (by rw [EV.out, EN.out]; exact hg4))
      rw [EN.out] at F4 ⊢
      refine hK.out _ _ trivial (fun hHeld => ?_)
      clear hK K
      ((try simp only [List.getElem_toArray]); (try simp only [List.getElem_cons_succ]); (try simp only [List.getElem_cons_zero]); (try simp only [Act.put]); (try simp only [List.setIfInBounds_toArray]); (try simp only [List.set_cons_succ]); (try simp only [List.set_cons_zero]))
      refine wpAnyH_take (i := 12) (v := ?qvu24) rfl (by kernel_rfl) (by kernel_rfl) (by kernel_rfl) (fun _ _ _ h => h) (Or.inl ⟨by rfl, ?qyu24⟩) (by assumption) ?qru24; case qyu24 => ((intro w hSw; (try dsimp only at hSw); go_simp); try (with_reducible rfl))
      ((try simp only [List.getElem_toArray]); (try simp only [List.getElem_cons_succ]); (try simp only [List.getElem_cons_zero]); (try simp only [Act.put]); (try simp only [List.setIfInBounds_toArray]); (try simp only [List.set_cons_succ]); (try simp only [List.set_cons_zero]))
      refine wpAnyH_take (i := 13) (v := ?qvu25) rfl (by kernel_rfl) (by kernel_rfl) (by kernel_rfl) (fun _ _ _ h => h) (Or.inl ⟨by rfl, ?qyu25⟩) (by assumption) ?qru25; case qyu25 => ((intro w hSw; (try dsimp only at hSw); go_simp); try (with_reducible rfl))
      ((try simp only [List.getElem_toArray]); (try simp only [List.getElem_cons_succ]); (try simp only [List.getElem_cons_zero]); (try simp only [Act.put]); (try simp only [List.setIfInBounds_toArray]); (try simp only [List.set_cons_succ]); (try simp only [List.set_cons_zero]))
      refine wpAnyH_ready (rs := [14]) (by kernel_rfl) (by simp) ?_
      refine AllReadyH.cons rfl (fun K hK => ?_) AllReadyH.nil
      go_simp
      refine hK.out _ _ trivial (fun hHeld => ?_)
      clear hK K
      ((try simp only [List.getElem_toArray]); (try simp only [List.getElem_cons_succ]); (try simp only [List.getElem_cons_zero]); (try simp only [Act.put]); (try simp only [List.setIfInBounds_toArray]); (try simp only [List.set_cons_succ]); (try simp only [List.set_cons_zero]))
      refine wpAnyH_done (by kernel_rfl) ?_ _
      go_wp2
      go_ret
      exact ⟨rfl, F4.out⟩
end
end Go.Proofs.Ytndpifkpgoeogaa
