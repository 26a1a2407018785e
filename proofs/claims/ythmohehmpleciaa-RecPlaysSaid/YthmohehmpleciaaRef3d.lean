/- Contract of Give of the document's own answer for layer 3, where the slot is free again; conditions: the Pool is one that NewPool made, in a state that calls can bring about. -/
import Derived.Test.YthmohehmpleciaaRef3c
namespace Go.Proofs.Ythmohehmpleciaa
open Go.ChangeShapes Go.WideShapes Go.ChangeAt Go.RowKit
set_option linter.unusedVariables false

theorem append_nothing {P : Program} {w : World} {ops : Array Oper} {rest : List Oper} {o : Oper} {a : Act} {Q : Exit → Act → World → Prop} (hgd : o.guard = none) (s x : Operand) (t : TypeId)
    (ho : o.op = .call { callee := .builtin .append, args := #[s, x], argTypes := #[t, t] })
    (base : Nat) (e : TypeId) (i : TypeInfo) (size : Nat) (ht : P.underlying t = some (.slice e)) (hi : P.info? e = some i)
    (v : Value) (n : Nat) (xs : List Value) (hs : a.eval s = v) (hown : w.ownsRow base e size v n xs) (hx : a.eval x = .slice none 0 0)
    (h : ∀ v', v' = v → wpList P ops Q rest (a.put o.dst v') w) : wpList P ops Q (o :: rest) a w :=
  wpList_append_own_none hgd s x t ho base e i size ht hi v n xs hs hown hx (h v rfl)
theorem one_lies (x : World) (i : Nat) : ∀ j u, [Value.int .i64 (i : Int)][j]? = some u → (x.alloc (.cells #[.int .i64 (i : Int)] 3)).cell? ((⟨x.heap.size, 0, none⟩ : Addr).add j) = some u := by
  intro j u hj
  match j, hj with
  | 0, hj => simp at hj; subst hj; simp [Addr.add]
theorem all_lies {w : World} {g : Nat} {gs : List Int} (h : ∀ j : Nat, ∀ u, gs[j]? = some u → w.cell? ⟨g, j, none⟩ = some (.int .i64 u)) : ∀ j u, (gs.map (Value.int .i64))[j]? = some u → w.cell? ((⟨g, 0, none⟩ : Addr).add j) = some u := by
  intro j u hu
  rw [List.getElem?_map, Option.map_eq_some_iff] at hu
  obtain ⟨z, hz, rfl⟩ := hu
  rw [add_plain, Nat.zero_add]
  exact h j z hz
theorem Keep.cell_all2 {w w' : World} {p b1 b2 g n c : Nat} {zs : List Int} (k : Keep (fun z => z = b1 ∨ z = b2) w w') (h : OwnI w (.slice (some ⟨g, 0, none⟩) n c) zs) (_ : (Value.slice (some ⟨g, 0, none⟩) n c).ownBlock ≠ some p) (n1 : (Value.slice (some ⟨g, 0, none⟩) n c).ownBlock ≠ some b1) (n2 : (Value.slice (some ⟨g, 0, none⟩) n c).ownBlock ≠ some b2) : ∀ j : Nat, ∀ u, zs[j]? = some u → w'.cell? ⟨g, j, none⟩ = some (.int .i64 u) := by
  intro j u hu
  obtain ⟨hj, rfl⟩ := List.getElem?_eq_some_iff.1 hu
  exact k.cell (h.cell j hj) (fun x => by rcases x with x | x <;> simp [Value.ownBlock] at n1 n2 x <;> omega)
set_option maxHeartbeats 2000000 in
set_option maxRecDepth 100000 in
theorem rgive_ok {w : World} {p b1 b2 : Nat} {v3 : Value} {s : St} (h : RefAt w p b1 b2 v3 s) (ok : Ok s) (i : Nat) (hi : i < s.tags.length) (ht : s.tk i = true) (hm : s.tag i < s.most) :
    Calls Try.prog 23 #[.pointer (some ⟨p, 0, none⟩), .int .u64 (s.link i)] w (RPost (.int .i64 0) p b1 b2 v3 { s with taken := s.taken.set i false, tags := s.tags.set i (s.tag i + 1), given := s.given ++ [(i : Int)] } w) := by
  have g0 := h.c0
  have g1 := h.c1
  have g2 := h.c2
  have g3 := h.c3
  have z3 := h.fz 3
  have n1 := ok.n1
  have w0 := ok.w0
  have ct := ok.ct
  have f1 := ok.f1
  have cn := cnt_nonneg s.taken
  have gl : s.given.length ≤ 4096 := by omega
  clear ct f1 cn w0
  have hk := h.tkAt ok i hi
  have hf := h.o2.free i
  have tf := h.o1.free i
  have tc := h.tagAt i hi
  have tb := ok.tg i
  have m1 := ok.m1
  have hmod := link_mod s i (by omega)
  have hlb := link_b ok i hi
  have hL := rlive_yes h ok i hi ht
  obtain ⟨l, el⟩ : ∃ l, s.link i = l := ⟨_, rfl⟩
  rw [el] at hmod hlb hL ⊢
  clear el
  have hs := u64_mask17 l (by omega) (by omega)
  rw [hmod] at hs
  clear hmod
  rw [ht] at hk
  have hpl : p < w.heap.size := lt_of_cell (a := ⟨p, 0, none⟩) h.c0
  have hb1 := h.foot_lt b1 (.inr (.inl rfl))
  have hb2 := h.foot_lt b2 (.inr (.inr (.inl rfl)))
  have q1 := h.p1
  have q2 := h.p2
  have q3 := h.b12
  obtain ⟨mo, em⟩ : ∃ x, s.most = x := ⟨_, rfl⟩
  rw [em] at g0 tb m1 hm
  obtain ⟨t, et⟩ : ∃ x, s.tag i = x := ⟨_, rfl⟩
  rw [et] at tc tb hm
  have ET := Lib.hid et
  clear em et
  obtain ⟨i0, hi0, hz0, hz1, hz2⟩ := info_parts info_int
  rcases h.o3.form with ⟨hv, e0⟩ | ⟨g, c, rfl, glt, gc, gm⟩
  · have HV := Lib.hid hv
    clear hv
    go_enter Try.func23, Try.ntmps23
    go_wp2_with (go_at_call 21; refine hL.mono ?_; rintro e w' ⟨rfl, rfl⟩)
    go_quiet (fail)
    have a1 := (h.setTaken i false).keep (drewN_keep (fun _ => False) _ nq) (by simp); have a2 := a1.setTag i (t + 1); have kX := (Keep.setCell (S := fun z => z = b1 ∨ z = b2) ((Keep.setCell (Keep.refl _ w) (p := ⟨b2, i, none⟩) (.inr rfl) (.bool false)).trans (drewN_keep _ _ nq)) (p := ⟨b1, i, none⟩) (.inl rfl) (.int .i64 (t + 1))); have kE := kX.alloc (.cells #[] 3); have kF := Keep.alloc (Keep.refl (fun _ => False) (((w.setCell ⟨b2, i, none⟩ (.bool false)).drewN nq).setCell ⟨b1, i, none⟩ (.int .i64 (t + 1)))) (.cells #[] 3); have oE : ((((w.setCell ⟨b2, i, none⟩ (.bool false)).drewN nq).setCell ⟨b1, i, none⟩ (.int .i64 (t + 1))).alloc (.cells #[] 3)).ownsRow w.heap.size 3 1 (.slice (some ⟨w.heap.size, 0, none⟩) 0 0) 0 [] := (by have := World.ownsRow_lit (base := w.heap.size) (e := 3) (size := 1) (((w.setCell ⟨b2, i, none⟩ (.bool false)).drewN nq).setCell ⟨b1, i, none⟩ (.int .i64 (t + 1))) #[] 0 (by simp) (by unfold maxLen; omega) rfl; simpa using this); have A2 := Lib.hid a2; clear a1 a2
    go_wp2_with (with_reducible refine wp_stop 54 rfl ?_)
    intro _
    refine append_nothing rfl (.tmp 49) (.tmp 53) 73 rfl w.heap.size 3 i0 1 Try.underlying73 hi0 (.slice (some ⟨w.heap.size, 0, none⟩) 0 0) 0 [] rfl oE HV.out ?_
    intro v1 hv1
    have o1 : ((((w.setCell ⟨b2, i, none⟩ (.bool false)).drewN nq).setCell ⟨b1, i, none⟩ (.int .i64 (t + 1))).alloc (.cells #[] 3)).ownsRow w.heap.size 3 1 v1 0 (s.given.map (Value.int .i64)) := by rw [e0, hv1]; exact oE
    clear hv1
    have k1 := kE
    have F1 := kF
    have e0l : s.given.length = 0 := by rw [e0]; rfl
    have ol : ∀ j u, [Value.int .i64 (i : Int)][j]? = some u → (((((w.setCell ⟨b2, i, none⟩ (.bool false)).drewN nq).setCell ⟨b1, i, none⟩ (.int .i64 (t + 1))).alloc (.cells #[] 3)).alloc (.cells #[.int .i64 (i : Int)] 3)).cell? ((⟨w.heap.size + 1, 0, none⟩ : Addr).add j) = some u := by simpa using one_lies ((((w.setCell ⟨b2, i, none⟩ (.bool false)).drewN nq).setCell ⟨b1, i, none⟩ (.int .i64 (t + 1))).alloc (.cells #[] 3)) i
    go_wp2_with (with_reducible refine wpList_append_own _ rfl (.tmp 54) (.tmp 56) 73 rfl w.heap.size 3 i0 (.int .i64 0) 1 8 Try.underlying73 hi0 hz0 hz1 hz2 rfl (by decide) v1 0 (s.given.map (Value.int .i64)) rfl (o1.alloc _) ⟨w.heap.size + 1, 0, none⟩ 1 1 [.int .i64 (i : Int)] rfl rfl (ol) (by simp [Value.oneCell']) (by unfold maxLen; omega) (by omega) (Nat.le_trans k1.size (by simp)) ?_); intro v2 x2 o2 gr2 hne2; have r1 := World.ownsRow.lt o1; have k2 := (k1.alloc _).grown gr2 (fun j hj => (r1 j hj).1); have F2 := (F1.alloc _).grown gr2 (fun j hj => by have := (r1 j hj).1; simpa using this); obtain ⟨g2, c2, rfl, gb, gl2⟩ := own_some o2 (by simpa using hne2); have w6 := k2.cell g3 (fun e => by rcases e with e | e; exact q1 e; exact q2 e); have f6 := (k2.frozen (a := ⟨p, 3, none⟩) hpl (fun e => by rcases e with e | e; exact q1 e; exact q2 e)).trans z3
    go_wp2
    go_ret
    have oo : OwnI x2 (.slice (some ⟨g2, 0, none⟩) (0 + 1) c2) (s.given ++ [(i : Int)]) := Own.of_base o2 (by rw [e0]; rfl) (by simp [e0]); have aF := ((A2.out.keep F2 (by simp)).setGiven oo (by simp [Value.ownBlock]; omega) (by simp [Value.ownBlock]; omega) (by simp [Value.ownBlock]; omega)); rw [← ET.out] at aF; refine ⟨rfl, _, aF, ?_, fun j hj => .inr (by cases hj; exact gb)⟩; exact Keep.setCell (k2.mono (fun j hj => by rcases hj with hj | hj; exact .inr (.inl hj); exact .inr (.inr (.inl hj)))) (p := ⟨p, 3, none⟩) (.inl rfl) _
  · have o3 := h.o3
    go_enter Try.func23, Try.ntmps23
    go_wp2_with (go_at_call 21; refine hL.mono ?_; rintro e w' ⟨rfl, rfl⟩)
    go_quiet (fail)
    have a1 := (h.setTaken i false).keep (drewN_keep (fun _ => False) _ nq) (by simp); have a2 := a1.setTag i (t + 1); have kX := (Keep.setCell (S := fun z => z = b1 ∨ z = b2) ((Keep.setCell (Keep.refl _ w) (p := ⟨b2, i, none⟩) (.inr rfl) (.bool false)).trans (drewN_keep _ _ nq)) (p := ⟨b1, i, none⟩) (.inl rfl) (.int .i64 (t + 1))); have kE := kX.alloc (.cells #[] 3); have kF := Keep.alloc (Keep.refl (fun _ => False) (((w.setCell ⟨b2, i, none⟩ (.bool false)).drewN nq).setCell ⟨b1, i, none⟩ (.int .i64 (t + 1)))) (.cells #[] 3); have oE : ((((w.setCell ⟨b2, i, none⟩ (.bool false)).drewN nq).setCell ⟨b1, i, none⟩ (.int .i64 (t + 1))).alloc (.cells #[] 3)).ownsRow w.heap.size 3 1 (.slice (some ⟨w.heap.size, 0, none⟩) 0 0) 0 [] := (by have := World.ownsRow_lit (base := w.heap.size) (e := 3) (size := 1) (((w.setCell ⟨b2, i, none⟩ (.bool false)).drewN nq).setCell ⟨b1, i, none⟩ (.int .i64 (t + 1))) #[] 0 (by simp) (by unfold maxLen; omega) rfl; simpa using this); have A2 := Lib.hid a2; clear a1 a2
    have nl : ∀ j u, (s.given.map (Value.int .i64))[j]? = some u → ((((w.setCell ⟨b2, i, none⟩ (.bool false)).drewN nq).setCell ⟨b1, i, none⟩ (.int .i64 (t + 1))).alloc (.cells #[] 3)).cell? ((⟨g, 0, none⟩ : Addr).add j) = some u := all_lies (kE.cell_all2 o3 h.v3p h.v31 h.v32)
    go_wp2_with (with_reducible refine wpList_append_own _ rfl (.tmp 49) (.tmp 53) 73 rfl w.heap.size 3 i0 (.int .i64 0) 1 8 Try.underlying73 hi0 hz0 hz1 hz2 rfl (by decide) (.slice (some ⟨w.heap.size, 0, none⟩) 0 0) 0 [] rfl oE ⟨g, 0, none⟩ s.given.length c (s.given.map (Value.int .i64)) rfl (by simp) nl (by simp [Value.oneCell']) (by unfold maxLen; omega) (by omega) (by simp) ?_)
    intro v1 x1 o1 gr1 hne1
    have o1 : x1.ownsRow w.heap.size 3 1 v1 s.given.length (s.given.map (Value.int .i64)) := (by simpa using o1); have k1 := kE.grown gr1 (fun j hj => by cases hj; exact Nat.le_refl _); have F1 := kF.grown gr1 (fun j hj => by cases hj; simp)
    go_wp2_with (with_reducible refine wpList_append_own _ rfl (.tmp 54) (.tmp 56) 73 rfl w.heap.size 3 i0 (.int .i64 0) 1 8 Try.underlying73 hi0 hz0 hz1 hz2 rfl (by decide) v1 s.given.length (s.given.map (Value.int .i64)) rfl (o1.alloc _) ⟨x1.heap.size, 0, none⟩ 1 1 [.int .i64 (i : Int)] rfl rfl (one_lies x1 i) (by simp [Value.oneCell']) (by unfold maxLen; omega) (by omega) (Nat.le_trans k1.size (by simp)) ?_); intro v2 x2 o2 gr2 hne2; have r1 := World.ownsRow.lt o1; have k2 := (k1.alloc _).grown gr2 (fun j hj => (r1 j hj).1); have F2 := (F1.alloc _).grown gr2 (fun j hj => by have := (r1 j hj).1; simpa using this); obtain ⟨g2, c2, rfl, gb, gl2⟩ := own_some o2 (by simpa using hne2); have w6 := k2.cell g3 (fun e => by rcases e with e | e; exact q1 e; exact q2 e); have f6 := (k2.frozen (a := ⟨p, 3, none⟩) hpl (fun e => by rcases e with e | e; exact q1 e; exact q2 e)).trans z3
    go_wp2
    go_ret
    have oo : OwnI x2 (.slice (some ⟨g2, 0, none⟩) (s.given.length + 1) c2) (s.given ++ [(i : Int)]) := Own.of_base o2 (by simp) (by simp); have aF := ((A2.out.keep F2 (by simp)).setGiven oo (by simp [Value.ownBlock]; omega) (by simp [Value.ownBlock]; omega) (by simp [Value.ownBlock]; omega)); rw [← ET.out] at aF; refine ⟨rfl, _, aF, ?_, fun j hj => .inr (by cases hj; exact gb)⟩; exact Keep.setCell (k2.mono (fun j hj => by rcases hj with hj | hj; exact .inr (.inl hj); exact .inr (.inr (.inl hj)))) (p := ⟨p, 3, none⟩) (.inl rfl) _
end Go.Proofs.Ythmohehmpleciaa
