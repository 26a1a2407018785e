/- Appends to a slice of words of the call's own, at a step of a region that draws its order: of whatever slice of words; what is read of its part ahead of a place, and from it on. No condition but lengths of 100,000 at most. -/
import Derived.Test.YtbbinfdgmfmaeaaPush
namespace Go.Proofs.Ytbbinfdgmfmaeaa
open Go.ChangeShapes Go.WideShapes Go.ChangeAt Go.RowKit
set_option linter.unusedVariables false

theorem step_app {w : World} {ops : Array Oper} {o : Oper} {a : Act} {K : Act → World → Prop} {Q : Exit → Act → World → Prop} {E : Prop} (hgd : o.guard = none) (s x : Operand)
    (ho : o.op = .call { callee := .builtin .append, args := #[s, x], argTypes := #[22, 22] })
    (B : Nat) (hB : B ≤ w.heap.size) (v : Value) (zs : List Int) (hs : a.eval s = v) (hown : OwnU B w v zs) (ad : Addr) (m c : Nat) (ys : List Int) (hx : a.eval x = .slice (some ad) m c) (hm : ys.length = m)
    (hy : ∀ t, t < ys.length → w.cell? (ad.add t) = some (.int .u64 (ys.getD t 0))) (hl : zs.length ≤ 100000) (hl2 : ys.length ≤ 100000)
    (h : ∀ v' w', OwnU B w' v' (zs ++ ys) → Keep (fun j => v.ownBlock = some j) w w' → K (a.put o.dst v') w') :
    if Region.wanted o (yielded ops a.tmps) = true then Oper.wp Try.prog o a w K Q else E := by
  obtain ⟨i0, hi0, hz0, hz1, hz2⟩ := info_parts info_push
  have hw : Region.wanted o (yielded ops a.tmps) = true := by simp [Region.wanted, hgd]
  rw [if_pos hw]
  refine wp_append_own w s x 22 ho B 26 i0 (.int .u64 0) 1 8 Try.underlying22 hi0 hz0 hz1 hz2 rfl (by decide) v zs.length (zs.map (Value.int .u64)) hs hown ad m c (ys.map (Value.int .u64)) hx (by simp [hm]) ?_ ?_ (by unfold maxLen; omega) (by omega) hB ?_
  · intro j u hj
    rw [List.getElem?_map, Option.map_eq_some_iff] at hj
    obtain ⟨z, hz, rfl⟩ := hj
    have hj : j < ys.length := (List.getElem?_eq_some_iff.1 hz).1
    rw [hy j hj, List.getD_eq_getElem?_getD, hz]
    rfl
  · intro u hu
    obtain ⟨x, _, rfl⟩ := List.mem_map.1 hu
    rfl
  · intro v' w' o1 gr _
    have e : OwnU B w' v' (zs ++ ys) := by
      unfold OwnU
      rw [List.length_append, hm, List.map_append]
      exact o1
    exact h v' w' e ⟨gr.os, gr.tape, gr.output, gr.size, fun j hj hn => gr.block j hj (fun e => hn e.symm)⟩
/-- The same where the order of operations is the text's. -/
theorem wp_app {w : World} {ops : Array Oper} {rest : List Oper} {o : Oper} {a : Act} {Q : Exit → Act → World → Prop} (hgd : o.guard = none) (s x : Operand)
    (ho : o.op = .call { callee := .builtin .append, args := #[s, x], argTypes := #[22, 22] })
    (B : Nat) (hB : B ≤ w.heap.size) (v : Value) (zs : List Int) (hs : a.eval s = v) (hown : OwnU B w v zs) (ad : Addr) (m c : Nat) (ys : List Int) (hx : a.eval x = .slice (some ad) m c) (hm : ys.length = m)
    (hy : ∀ t, t < ys.length → w.cell? (ad.add t) = some (.int .u64 (ys.getD t 0))) (hl : zs.length ≤ 100000) (hl2 : ys.length ≤ 100000)
    (h : ∀ v' w', OwnU B w' v' (zs ++ ys) → Keep (fun j => v.ownBlock = some j) w w' → wpList Try.prog ops Q rest (a.put o.dst v') w') :
    wpList Try.prog ops Q (o :: rest) a w := by
  refine wpList_plain hgd fun K hK => ?_
  have hw : Region.wanted o (yielded ops a.tmps) = true := by simp [Region.wanted, hgd]
  have := step_app (ops := ops) (K := K) (Q := Q) (E := True) hgd s x ho B hB v zs hs hown ad m c ys hx hm hy hl hl2 (fun v' w' h1 h2 => hK _ _ (h v' w' h1 h2))
  rwa [if_pos hw] at this
theorem own_lit {w : World} {B : Nat} (hB : B ≤ w.heap.size) (x : Int) : OwnU B (w.alloc (.cells #[.int .u64 x] 26)) (.slice (some ⟨w.heap.size, 0, none⟩) 1 1) [x] := World.ownsRow_lit w #[.int .u64 x] 1 hB (by unfold maxLen; omega) rfl
/-- The whole of it, of a slice that reads so. -/
theorem all_at {w w' : World} {B g c : Nat} {L : List Int} (o : OwnU B w (.slice (some ⟨g, 0, none⟩) L.length c) L) (k : ∀ (t : Nat) u, w.cell? ⟨g, t, none⟩ = some u → w'.cell? ⟨g, t, none⟩ = some u) : ∀ t, t < L.length → w'.cell? ((⟨g, 0, none⟩ : Addr).add t) = some (.int .u64 (L.getD t 0)) := by
  intro t ht
  rw [add_plain, Nat.zero_add]
  exact k t _ (o.cell t ht)
theorem OwnU.lower {w : World} {B B' : Nat} {v : Value} {zs : List Int} (o : OwnU B' w v zs) (hB : B ≤ B') : OwnU B w v zs := by
  obtain ⟨h1, h2⟩ := o
  refine ⟨h1, ?_⟩
  rcases h2 with h2 | ⟨g, c, cur, hv, hg, r⟩
  · exact .inl h2
  · exact .inr ⟨g, c, cur, hv, Nat.le_trans hB hg, r⟩
theorem OwnU.shape {B : Nat} {w : World} {v : Value} {zs : List Int} (h : OwnU B w v zs) : (v = .slice none 0 0 ∧ zs = []) ∨ ∃ g c, v = .slice (some ⟨g, 0, none⟩) zs.length c ∧ B ≤ g ∧ g < w.heap.size ∧ zs.length ≤ c := by
  obtain ⟨h1, h2⟩ := id h
  rcases h2 with ⟨h3, h4⟩ | ⟨g, c, cur, hv, hB, hh, hc, _⟩
  · exact .inl ⟨h3, List.length_eq_zero_iff.1 h4⟩
  · exact .inr ⟨g, c, hv, hB, lt_of_block hh, hc⟩
/-- The same to a slice that lies somewhere: where it lies then: in its own block, or in a new one. -/
theorem step_apps {w : World} {ops : Array Oper} {o : Oper} {a : Act} {K : Act → World → Prop} {Q : Exit → Act → World → Prop} {E : Prop} (hgd : o.guard = none) (s x : Operand)
    (ho : o.op = .call { callee := .builtin .append, args := #[s, x], argTypes := #[22, 22] })
    (B : Nat) (hB : B ≤ w.heap.size) (g n cap : Nat) (zs : List Int) (hs : a.eval s = .slice (some ⟨g, 0, none⟩) n cap) (hn : zs.length = n) (hown : OwnU B w (.slice (some ⟨g, 0, none⟩) n cap) zs) (ad : Addr) (m c : Nat) (ys : List Int) (hx : a.eval x = .slice (some ad) m c) (hm : ys.length = m)
    (hy : ∀ t, t < ys.length → w.cell? (ad.add t) = some (.int .u64 (ys.getD t 0))) (hl : zs.length ≤ 100000) (hl2 : ys.length ≤ 100000)
    (h : ∀ g' c' w', OwnU B w' (.slice (some ⟨g', 0, none⟩) (n + m) c') (zs ++ ys) → Keep (fun j => j = g) w w' → (g' = g ∨ w.heap.size ≤ g') → K (a.put o.dst (.slice (some ⟨g', 0, none⟩) (n + m) c')) w') :
    if Region.wanted o (yielded ops a.tmps) = true then Oper.wp Try.prog o a w K Q else E := by
  subst hn
  obtain ⟨i0, hi0, hz0, hz1, hz2⟩ := info_parts info_push
  have hw : Region.wanted o (yielded ops a.tmps) = true := by simp [Region.wanted, hgd]
  rw [if_pos hw]
  have hnews : ∀ j u, (ys.map (Value.int .u64))[j]? = some u → w.cell? (ad.add j) = some u := by
    intro j u hj
    rw [List.getElem?_map, Option.map_eq_some_iff] at hj
    obtain ⟨z, hz, rfl⟩ := hj
    have hj : j < ys.length := (List.getElem?_eq_some_iff.1 hz).1
    rw [hy j hj, List.getD_eq_getElem?_getD, hz]
    rfl
  have h1 : ∀ u ∈ ys.map (Value.int .u64), u.oneCell' = true := by
    intro u hu
    obtain ⟨x, _, rfl⟩ := List.mem_map.1 hu
    rfl
  have gl : zs.length ≤ cap := by
    obtain ⟨_, h2⟩ := id hown
    rcases h2 with ⟨h2, _⟩ | ⟨g', c', cur, hv, _, _, hc, _⟩
    · simp at h2
    · simp at hv; omega
  have fin : ∀ g' c' w', w'.ownsRow B 26 1 (.slice (some ⟨g', 0, none⟩) (zs.length + m) c') (zs.length + m) (zs.map (Value.int .u64) ++ ys.map (Value.int .u64)) → w.grownBy w' (some g) → (g' = g ∨ w.heap.size ≤ g') → K (a.put o.dst (.slice (some ⟨g', 0, none⟩) (zs.length + m) c')) w' := by
    intro g' c' w' o1 gr hg
    refine h g' c' w' ?_ ⟨gr.os, gr.tape, gr.output, gr.size, fun j hj hn => gr.block j hj (fun e => hn (by cases e; rfl))⟩ hg
    unfold OwnU
    rw [List.length_append, hm, List.map_append]
    exact o1
  by_cases h0 : m = 0
  · obtain ⟨w', hr, h2, h3⟩ := run_append_fits (P := Try.prog) w B 22 o.type 26 i0 1 Try.underlying22 hi0 hz1 g zs.length cap (zs.map (Value.int .u64)) hown ad m c (ys.map (Value.int .u64)) (by simp [hm]) hnews h1 (by omega)
    unfold Oper.wp execOp
    simp only [ho, resolve, invoke, builtin, Sem.run_bind, Sem.run_pure, Result.andThen_ok, List.map_toArray, List.map_cons, List.map_nil, hs, hx, hr]
    exact fin g cap w' h2 h3 (.inl rfl)
  · exact wp_append_lies w s x 22 ho B 26 i0 (.int .u64 0) 1 8 Try.underlying22 hi0 hz0 hz1 hz2 rfl (by decide) _ zs.length (zs.map (Value.int .u64)) hs hown ad m c (ys.map (Value.int .u64)) hx (by simp [hm]) hnews h1 (by omega) (by unfold maxLen; omega) (by omega) hB w.heap.size rfl (fun g' c' w' h2 h3 h4 _ => fin g' c' w' h2 h3 (by
      rcases h4 with z | z
      · left; simp [Value.ownBlock] at z; exact z.symm
      · exact .inr (Nat.le_of_eq z.symm)))
theorem own_empty {w : World} {B : Nat} (hB : B ≤ w.heap.size) : OwnU B (w.alloc (.cells #[] 26)) (.slice (some ⟨w.heap.size, 0, none⟩) 0 0) [] := World.ownsRow_lit w #[] 0 hB (by unfold maxLen; omega) rfl
/-- The part ahead of a place. -/
theorem take_at {w w' : World} {B g c : Nat} {L : List Int} (o : OwnU B w (.slice (some ⟨g, 0, none⟩) L.length c) L) (k : ∀ (t : Nat) u, w.cell? ⟨g, t, none⟩ = some u → w'.cell? ⟨g, t, none⟩ = some u) (j : Nat) : ∀ t, t < (L.take j).length → w'.cell? ((⟨g, 0, none⟩ : Addr).add t) = some (.int .u64 ((L.take j).getD t 0)) := by
  intro t ht
  rw [List.length_take] at ht
  rw [add_plain, Nat.zero_add]
  refine k t _ ?_
  rw [o.cell t (by omega)]
  congr 2
  rw [List.getD_eq_getElem?_getD, List.getD_eq_getElem?_getD, List.getElem?_take, if_pos (by omega)]
/-- The part from a place on. -/
theorem drop_at {w w' : World} {B g c : Nat} {L : List Int} (o : OwnU B w (.slice (some ⟨g, 0, none⟩) L.length c) L) (k : ∀ (t : Nat) u, w.cell? ⟨g, t, none⟩ = some u → w'.cell? ⟨g, t, none⟩ = some u) (j : Nat) {ad : Addr} (had : ¬ c = j → ad = ⟨g, j, none⟩) (hc : L.length ≤ c) : ∀ t, t < (L.drop j).length → w'.cell? (ad.add t) = some (.int .u64 ((L.drop j).getD t 0)) := by
  intro t ht
  rw [List.length_drop] at ht
  rw [had (by omega), add_plain]
  refine k (j + t) _ ?_
  rw [o.cell (j + t) (by omega)]
  congr 2
  rw [List.getD_eq_getElem?_getD, List.getD_eq_getElem?_getD, List.getElem?_drop]
end Go.Proofs.Ytbbinfdgmfmaeaa
