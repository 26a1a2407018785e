/- Package reads as landed, third part: slices.Clone of words and of ranges; Spans; slices.ContainsFunc with the closure of Covers; Covers; conditions: what a Set always keeps. -/
import Derived.Test.YtndpifkpgoeogaaRdN
import Derived.Test.YtndpifkpgoeogaaRdL
namespace Go.Proofs.Ytndpifkpgoeogaa
open Go.ChangeShapes Go.WideShapes Go.ChangeAt Go.RowKit
set_option linter.unusedVariables false

section
variable {w w' : World} {t : Nat} {es : List (Int × Int)} {ps : List (ScI × Value)} {vr vs v : Value} {Z T : Nat → Prop} {zs : List Int}
theorem clone_u (hz : Lies w v zs) (hl : zs.length ≤ 100000) : Calls Try.prog 39 #[v] w fun e w' => ∃ v', e = .returned v' ∧ OwnU w.heap.size w' v' zs ∧ Keep (fun _ => False) w w' := by
  obtain ⟨A, c, rfl, hc, hf⟩ := hz
  cases A with
  | none =>
    have h0 : zs = [] := by
      cases zs with
      | nil => rfl
      | cons z zs => obtain ⟨b, off, hA, _⟩ := hf (by simp); cases hA
    subst h0
    have qn : ∀ w : World, (binOp .eql 33 (.slice none 0 c) (.slice none 0 0)).run Try.prog w = .ok (.bool true) w := fun w => Lib.run_eql_slice_nil w _ _ none 0 c 0 0 Try.underlying33
    simp only [List.length_nil] at *
    go_enter Try.func39, Try.ntmps39
    go_wp2
    go_ret
    exact ⟨_, rfl, World.ownsRow_nil _ _ _ _, Keep.refl _ _⟩
  | some ad =>
    have hy : ∀ t, t < zs.length → (w.alloc (.cells #[] 23)).cell? (ad.add t) = some (.int .u64 (zs.getD t 0)) := fun t ht => by
      obtain ⟨b, off, hA, hb, he⟩ := hf (by omega)
      cases hA
      rw [add_plain, World.cell?_alloc_past _ _ _ (by exact hb)]
      exact he t ht
    obtain ⟨n, en⟩ : ∃ n, zs.length = n := ⟨_, rfl⟩
    have EN := Lib.hid en
    rw [en]
    clear hf hc en
    have qn : ∀ w : World, (binOp .eql 33 (.slice (some ad) n c) (.slice none 0 0)).run Try.prog w = .ok (.bool false) w := fun w => Lib.run_eql_slice_nil w _ _ (some ad) n c 0 0 Try.underlying33
    go_enter Try.func39, Try.ntmps39
    go_wp2_with (with_reducible refine wp_stop 7 rfl ?_)
    intro _
    refine wp_app rfl (.tmp 5) (.tmp 6) rfl w.heap.size (by simp) _ [] rfl (own_empty (Nat.le_refl _)) ad n c zs rfl EN.out hy (by simp) (by have := EN.out; omega) ?_
    intro v' w' o1 k1
    rw [List.nil_append] at o1
    go_wp2
    go_ret
    exact ⟨v', rfl, o1, ((Keep.refl (fun _ => False) w).alloc (.cells #[] 23)).older k1 (fun j e => by cases e; exact Nat.le_refl _)⟩
theorem sp_one (h : ∀ x ∈ ps, OwnU 0 w x.2 x.1.z) : ∀ u ∈ ps.flatMap spC, u.oneCell' = true := by
  intro u hu
  obtain ⟨x, hx, hm⟩ := List.mem_flatMap.1 hu
  simp only [spC, List.mem_cons, List.not_mem_nil, or_false] at hm
  rcases hm with rfl | rfl | rfl
  · rfl
  · rfl
  · rcases (h x hx).shape with ⟨e, _⟩ | ⟨g, c, e, _⟩ <;> rw [e] <;> rfl
theorem sp_shape (o : OwnM 3 spC 51 w v ps) : ∃ A c, v = .slice A ps.length c ∧ (A = none → ps = []) ∧ ∀ ad, A = some ad → ∃ g, ad = ⟨g, 0, none⟩ := by
  rcases o.form with ⟨h1, h2⟩ | ⟨g, c, h1, _⟩
  · exact ⟨none, 0, by rw [h1, h2]; rfl, fun _ => h2, fun ad h => by cases h⟩
  · exact ⟨_, c, h1, fun h => (by cases h), fun ad h => by cases h; exact ⟨g, rfl⟩⟩
/-- What slices.Clone of the ranges leaves. -/
def ClonedS (w : World) (ps : List (ScI × Value)) (e : Ending) (w' : World) : Prop := ∃ v', e = .returned v' ∧ OwnM 3 spC 51 w' v' ps ∧ (∀ g, v'.ownBlock = some g → w.heap.size ≤ g) ∧ Keep (fun _ => False) w w'
theorem clone_s (o : OwnM 3 spC 51 w v ps) (hz : ∀ x ∈ ps, OwnU 0 w x.2 x.1.z) (hl : ps.length ≤ 100000) : Calls Try.prog 44 #[v] w (ClonedS w ps) := by
  obtain ⟨A, c, rfl, hA0, hA1⟩ := sp_shape o
  cases A with
  | none =>
    obtain rfl := hA0 rfl
    have qn : ∀ w : World, (binOp .eql 37 (.slice none 0 c) (.slice none 0 0)).run Try.prog w = .ok (.bool true) w := fun w => Lib.run_eql_slice_nil w _ _ none 0 c 0 0 Try.underlying37
    simp only [List.length_nil] at *
    go_enter Try.func44, Try.ntmps44
    go_wp2
    go_ret
    exact ⟨_, rfl, OwnM.nil, fun g hg => (by cases hg), Keep.refl _ _⟩
  | some ad =>
    obtain ⟨g, rfl⟩ := hA1 _ rfl
    obtain ⟨i0, hi0, hz0, hz1, hz2⟩ := info_parts info_sp
    have k0 := (Keep.refl (fun _ => False) w).alloc (.cells #[] 51)
    have o1 := o.keep k0 (by simp)
    have hn1 : ∀ j u, (ps.flatMap spC)[j]? = some u → (w.alloc (.cells #[] 51)).cell? ((⟨g, 0, none⟩ : Addr).add j) = some u := fun j u hj => by
      rw [add_plain, Nat.zero_add]
      have lj : j < ps.length * 3 := by
        have := (List.getElem?_eq_some_iff.1 hj).1
        rwa [flat_len spC_len] at this
      have h1 := World.ownsRow.cellAt o1 j lj
      rw [h1]; exact hj
    have one := sp_one hz
    have fl := flat_len spC_len ps
    have e0 : (w.alloc (.cells #[] 51)).ownsRow w.heap.size 51 3 (.slice (some ⟨w.heap.size, 0, none⟩) 0 0) 0 [] := World.ownsRow_lit w #[] 0 (Nat.le_refl _) (by unfold maxLen; omega) rfl
    obtain ⟨n, en⟩ : ∃ n, ps.length = n := ⟨_, rfl⟩
    have EN := Lib.hid en
    rw [en] at fl hl ⊢
    have qn : ∀ w : World, (binOp .eql 37 (.slice (some ⟨g, 0, none⟩) n c) (.slice none 0 0)).run Try.prog w = .ok (.bool false) w := fun w => Lib.run_eql_slice_nil w _ _ (some ⟨g, 0, none⟩) n c 0 0 Try.underlying37
    clear en o o1 hA0 hA1 hz
    go_enter Try.func44, Try.ntmps44
    go_wp2_with (with_reducible refine wp_stop 7 rfl ?_)
    intro _
    refine wpList_append_own _ rfl (.tmp 5) (.tmp 6) 37 rfl w.heap.size 51 i0 _ 3 40 Try.underlying37 hi0 hz0 hz1 hz2 rfl (by decide) _ 0 [] rfl e0 ⟨g, 0, none⟩ n c (ps.flatMap spC) rfl fl hn1 one (by unfold maxLen; omega) (by omega) k0.size ?_
    intro v' w' o2 gr _
    have k1 : Keep (fun j => j = w.heap.size) (w.alloc (.cells #[] 51)) w' := ⟨gr.os, gr.tape, gr.output, gr.size, fun j hj hn => gr.block j hj (fun e => hn (by cases e; rfl))⟩
    rw [Nat.zero_add, List.nil_append] at o2
    have o3 : OwnM 3 spC 51 w' v' ps := OwnM.of_base o2 EN.out.symm rfl
    have l3 : ∀ g, v'.ownBlock = some g → w.heap.size ≤ g := fun g hg => (World.ownsRow.lt o2 g hg).1
    clear qn hn1 one e0 o2 gr
    go_wp2
    go_ret
    exact ⟨v', rfl, o3, l3, k0.older k1 (fun j e => by cases e; exact Nat.le_refl _)⟩
def sp0 : ScI × Value := (⟨0, 0, []⟩, .slice none 0 0)
/-- The ranges are told, the first j with links of their own. -/
structure SpR (w : World) (ps qs : List (ScI × Value)) (g c j : Nat) (wr : World) : Prop where
  k : Keep (fun _ => False) w wr
  o : OwnM 3 spC 51 wr (.slice (some ⟨g, 0, none⟩) ps.length c) qs
  l : qs.length = ps.length
  a : ∀ i, (qs.getD i sp0).1 = (ps.getD i sp0).1
  b : ∀ i, j ≤ i → qs.getD i sp0 = ps.getD i sp0
  d : ∀ i, i < j → OwnU w.heap.size wr (qs.getD i sp0).2 (ps.getD i sp0).1.z ∧ ∀ x, (qs.getD i sp0).2.ownBlock = some x → x ≠ g
theorem get_sp {i : Nat} (hi : i < ps.length) : ps.getD i sp0 = ps[i] := by rw [List.getD_eq_getElem?_getD, List.getElem?_eq_getElem hi]; rfl
theorem SpR.cell {qs : List (ScI × Value)} {g c j : Nat} (r : SpR w ps qs g c j w') (i : Nat) (hi : i < ps.length) :
    w'.cell? ⟨g, i * 3, none⟩ = some (.int .i64 (ps.getD i sp0).1.lo) ∧ w'.cell? ⟨g, i * 3 + 1, none⟩ = some (.int .i64 (ps.getD i sp0).1.hi) ∧ w'.cell? ⟨g, i * 3 + 2, none⟩ = some (qs.getD i sp0).2 := by
  have hq : i < qs.length := by rw [r.l]; exact hi
  have h0 := OwnM.cell spC_len r.o i 0 hq (by omega)
  have h1 := OwnM.cell spC_len r.o i 1 hq (by omega)
  have h2 := OwnM.cell spC_len r.o i 2 hq (by omega)
  rw [Nat.add_zero] at h0
  rw [h0, h1, h2, ← r.a i, get_sp hq]
  exact ⟨rfl, rfl, rfl⟩
theorem SpR.next {qs : List (ScI × Value)} {g c j : Nat} {wr w1 : World} {u : Value} (r : SpR w ps qs g c j wr) (hj : j < ps.length) (k1 : Keep (fun _ => False) wr w1) (hg : w.heap.size ≤ g) (o1 : OwnU wr.heap.size w1 u (ps.getD j sp0).1.z) :
    SpR w ps (qs.set j ((ps.getD j sp0).1, u)) g c (j + 1) (w1.setCell ⟨g, j * 3 + 2, none⟩ u) := by
  have hq : j < qs.length := by rw [r.l]; exact hj
  have gl : g < wr.heap.size := (World.ownsRow.lt r.o g rfl).2
  have ks : Keep (fun x => x = g) w1 (w1.setCell ⟨g, j * 3 + 2, none⟩ u) := keep_one w1 ⟨g, j * 3 + 2, none⟩ u
  have ke := r.k.trans k1
  have ug : ∀ x, u.ownBlock = some x → x ≠ g := fun x hx e => by have := (OwnU.lt o1 hx).1; omega
  have gs : ∀ i, (qs.set j ((ps.getD j sp0).1, u)).getD i sp0 = if i = j then ((ps.getD j sp0).1, u) else qs.getD i sp0 := fun i => by
    rw [List.getD_eq_getElem?_getD, List.getElem?_set]
    by_cases e : j = i
    · subst e; simp [hq]
    · rw [if_neg e, if_neg (Ne.symm e), List.getD_eq_getElem?_getD]
  refine ⟨ke.older ks (fun x e => by rw [e]; exact hg), ?_, by rw [List.length_set]; exact r.l, fun i => ?_, fun i hi => ?_, fun i hi => ?_⟩
  · refine OwnM.set spC_len (r.o.keep k1 (by simp)) j 2 hq (by omega) u _ ?_
    rw [← get_sp hq, ← r.a j]
    rfl
  · rw [gs]
    by_cases e : i = j
    · rw [if_pos e, e]
    · rw [if_neg e]; exact r.a i
  · rw [gs, if_neg (by omega)]; exact r.b i (by omega)
  · rw [gs]
    by_cases e : i = j
    · rw [if_pos e, e]
      exact ⟨OwnU.lower (OwnU.keep o1 ks (fun x hx e => ug x hx e)) r.k.size, ug⟩
    · rw [if_neg e]
      obtain ⟨d1, d2⟩ := r.d i (by omega)
      exact ⟨OwnU.keep (OwnU.keep d1 k1 (by simp)) ks (fun x hx e => d2 x hx e), d2⟩
set_option maxRecDepth 100000 in
set_option maxHeartbeats 1000000 in
theorem spans_any (h : RdA w t es ps vr vs Z) : Calls Try.prog 31 #[.pointer (some ⟨t, 0, none⟩)] w fun e w' => ∃ v T, e = .returned v ∧ OwnSc w.heap.size w' v (ps.map Prod.fst) T ∧ Keep (fun _ => False) w w' := by
  have cs := h.cs
  have hc := clone_s h.p h.z (Nat.le_trans h.pl (by omega))
  have pl := h.pl
  have H := Lib.hid h
  clear h
  go_enter Try.func31, Try.ntmps31
  go_wp2_with fail
  refine hc.mono ?_
  rintro e w1 ⟨v, rfl, o1, l1, k1⟩
  clear hc cs
  obtain ⟨A, c, rfl, hA0, hA1⟩ := sp_shape o1
  cases A with
  | none =>
    obtain rfl := hA0 rfl
    clear hA0 hA1 o1
    simp only [List.length_nil]
    go_wp2
    go_loopw [4, 12] (fun _ q wr => q = .int .i64 0 ∧ wr = w1) (fun _ q _ => 0)
    case atStart => exact ⟨rfl, rfl⟩
    case round =>
      obtain ⟨rfl, rfl⟩ := hrel
      go_wp2
      go_ret
      exact ⟨.slice none 0 c, fun _ => False, rfl, ⟨⟨none, c, rfl, Nat.zero_le _, fun h => absurd h (Nat.lt_irrefl _)⟩, fun j hj => hj.elim, fun j hj => hj.elim⟩, k1⟩
  | some ad =>
    obtain ⟨g, rfl⟩ := hA1 _ rfl
    have hg : w.heap.size ≤ g := l1 g rfl
    have R0 : SpR w ps ps g c 0 w1 := ⟨k1, o1, rfl, fun _ => rfl, fun _ _ => rfl, fun i hi => absurd hi (Nat.not_lt_zero i)⟩
    have oz := H.out.z
    have sb := H.out.sb
    have nc : ps.length ≤ c := by
      rcases o1.form with ⟨h1, _⟩ | ⟨_, _, h1, _, h2, _⟩
      · cases h1
      · cases h1; exact h2
    have NC := Lib.hid nc
    clear hA0 hA1 o1 k1 l1 nc
    go_wp2
    go_loopw [4, 12] (fun _ q wr => ∃ (j : Nat) (qs : List (ScI × Value)), j ≤ ps.length ∧ q = .int .i64 j ∧ SpR w ps qs g c j wr) (fun _ q _ => ps.length - (intOf q).toNat)
    case atStart => exact ⟨0, ps, Nat.zero_le _, rfl, R0⟩
    case round =>
      clear R0
      obtain ⟨j, qs, hj, rfl, R⟩ := hrel
      by_cases hlt : j < ps.length
      · obtain ⟨c0, c1, c2⟩ := R.cell j hlt
        rw [R.b j (Nat.le_refl _)] at c2
        have hm : ps.getD j sp0 ∈ ps := by rw [get_sp hlt]; exact List.getElem_mem hlt
        have hcl := clone_u (OwnU.lies (OwnU.keep (oz _ hm) R.k (by simp))) (sb _ hm).2.2.2
        have fz : wr.frozen? ⟨g, j * 3 + 2, none⟩ = false := R.o.free _
        have gl : g < wr.heap.size := (World.ownsRow.lt R.o g rfl).2
        have RN := fun (w1 : World) (u : Value) => @SpR.next w ps qs g c j wr w1 u R hlt
        obtain ⟨y, ey⟩ : ∃ y, ps.getD j sp0 = y := ⟨_, rfl⟩
        rw [ey] at c0 c1 c2 hcl RN
        obtain ⟨n, en⟩ : ∃ n, ps.length = n := ⟨_, rfl⟩
        have EN := Lib.hid en
        rw [en] at hlt pl hj ⊢
        have wk : IntKind.i64.wrap ((j : Int) + 1) = (j : Int) + 1 := IntWalk.i64_in _ (by omega)
        have RN := Lib.hid RN
        clear en ey R oz sb hm
        go_wp2_with fail
        refine hcl.mono ?_
        rintro e w2 ⟨u, rfl, o2, k2⟩
        obtain ⟨uA, un, uc, rfl⟩ : ∃ A n c, u = .slice A n c := by rcases o2.shape with ⟨h, _⟩ | ⟨g, c, h, _⟩ <;> exact ⟨_, _, _, h⟩
        have R2 := Lib.hid (RN.out w2 _ k2 hg o2)
        have f2 : w2.frozen? ⟨g, j * 3 + 2, none⟩ = false := (k2.frozen (a := ⟨g, j * 3 + 2, none⟩) gl id).trans fz
        have e2 := k2.cell c2 id
        clear hcl c0 c1 c2 fz RN o2
        go_wp2
        go_roundw
        case rel => exact ⟨j + 1, _, by omega, by go_num, R2.out⟩
        case measure => simp [intOf]; omega
      · obtain rfl : j = ps.length := by omega
        have R := Lib.hid R
        clear oz sb
        go_wp2
        go_ret
        refine ⟨.slice (some ⟨g, 0, none⟩) ps.length c, fun x => w.heap.size ≤ x ∧ x < wr.heap.size, rfl, ⟨⟨some ⟨g, 0, none⟩, c, by rw [List.length_map], by rw [List.length_map]; exact NC.out, fun _ => ⟨g, rfl, ⟨hg, (World.ownsRow.lt R.out.o g rfl).2⟩, fun i => R.out.o.free i, fun i x hx => ?_⟩⟩, fun j hj => hj.1, fun j hj => hj.2⟩, R.out.k⟩
        rw [List.getElem?_map, Option.map_eq_some_iff] at hx
        obtain ⟨p, hp, rfl⟩ := hx
        have hi : i < ps.length := (List.getElem?_eq_some_iff.1 hp).1
        obtain ⟨c0, c1, c2⟩ := R.out.cell i hi
        obtain ⟨d1, d2⟩ := R.out.d i hi
        have ep : ps.getD i sp0 = p := by rw [List.getD_eq_getElem?_getD, hp]; rfl
        rw [ep] at c0 c1 d1
        exact ⟨c0, c1, _, c2, d1, fun b hb => ⟨OwnU.lt d1 hb, d2 b hb⟩⟩
def anyTo (key : Int) (ps : List (ScI × Value)) : Bool := ps.any fun x => x.1.has key
theorem anyTo_at {key : Int} {j : Nat} (hj : j < ps.length) (h : (ps.getD j sp0).1.has key = true) : anyTo key ps = true :=
  List.any_eq_true.2 ⟨ps.getD j sp0, by rw [get_sp hj]; exact List.getElem_mem hj, h⟩
theorem anyTo_no {key : Int} (h : ∀ j, j < ps.length → (ps.getD j sp0).1.has key = false) : anyTo key ps = false := by
  unfold anyTo
  rw [List.any_eq_false]
  intro x hx
  obtain ⟨j, hj, rfl⟩ := List.getElem_of_mem hx
  have := h j hj
  rw [get_sp hj] at this
  simpa using this
end
end Go.Proofs.Ytndpifkpgoeogaa
