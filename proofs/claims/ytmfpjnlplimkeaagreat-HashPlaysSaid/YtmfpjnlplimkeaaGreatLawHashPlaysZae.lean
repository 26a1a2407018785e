/- Several texts, one behind the other: Push, App, PushN. -/
import Derived.Test.YtmfpjnlplimkeaaGreatLawHashPlaysZab
import Derived.Deep.AppendLies
/- 'l = append(l, x)' on a slice of 64-bit words that the call itself has made: what it holds then, where it lies, what has turned; condition: it holds at most 100,000. -/
namespace Go.Proofs.YtmfpjnlplimkeaaGreat
open Go.ChangeShapes Go.WideShapes Go.ChangeAt Go.RowKit
set_option linter.unusedVariables false

/-- A slice of words of the call's own, from block B on (or nil). -/
abbrev OwnU (B : Nat) (w : World) (v : Value) (zs : List Int) : Prop := w.ownsRow B 32 1 v zs.length (zs.map (Value.int .u64))
theorem OwnU.keep {B : Nat} {w w' : World} {v : Value} {zs : List Int} {S : Nat → Prop} (h : OwnU B w v zs) (k : Keep S w w') (hn : ∀ g, v.ownBlock = some g → ¬ S g) : OwnU B w' v zs := by
  obtain ⟨h1, h2⟩ := id h
  refine ⟨h1, ?_⟩
  rcases h2 with h2 | ⟨g, c, cur, hv, hg, hh, r⟩
  · exact .inl h2
  · subst hv
    exact .inr ⟨g, c, cur, rfl, hg, by rw [k.block g (lt_of_block hh) (hn g rfl)]; exact hh, r⟩
theorem OwnU.lt {B : Nat} {w : World} {v : Value} {zs : List Int} (h : OwnU B w v zs) {g : Nat} (hg : v.ownBlock = some g) : B ≤ g ∧ g < w.heap.size := World.ownsRow.lt h g hg
theorem OwnU.cell {B g n c : Nat} {w : World} {zs : List Int} (h : OwnU B w (.slice (some ⟨g, 0, none⟩) n c) zs) (i : Nat) (hi : i < zs.length) : w.cell? ⟨g, i, none⟩ = some (.int .u64 (zs.getD i 0)) := by
  have := Own.cell (Own.of_base (f := Value.int .u64) (zs := zs) h rfl rfl) i hi
  rw [this]
  simp [List.getD_eq_getElem?_getD, hi]
theorem info_push : (Tryz.prog.info? 32).map (fun i => (i.zero, i.size, i.bytes)) = some (some (.int .u64 0), 1, 8) := by kernel_rfl
theorem push_lies (x : World) (l : Int) : ∀ j u, [Value.int .u64 l][j]? = some u → (x.alloc (.cells #[.int .u64 l] 32)).cell? ((⟨x.heap.size, 0, none⟩ : Addr).add j) = some u := by
  intro j u hj
  match j, hj with
  | 0, hj => simp at hj; subst hj; simp [Addr.add]
theorem wp_push {w : World} {ops : Array Oper} {rest : List Oper} {o : Oper} {a : Act} {Q : Exit → Act → World → Prop} (hgd : o.guard = none) (s x : Operand)
    (ho : o.op = .call { callee := .builtin .append, args := #[s, x], argTypes := #[89, 89] })
    (B : Nat) (hB : B ≤ w.heap.size) (v : Value) (zs : List Int) (hs : a.eval s = v) (hown : OwnU B w v zs) (l : Int) (hx : a.eval x = .slice (some ⟨w.heap.size, 0, none⟩) 1 1) (hl : zs.length ≤ 100000)
    (h : ∀ g c w', OwnU B w' (.slice (some ⟨g, 0, none⟩) (zs.length + 1) c) (zs ++ [l]) → Keep (fun j => v.ownBlock = some j) w w' → (v.ownBlock = some g ∨ w.heap.size ≤ g) → wpList Tryz.prog ops Q rest (a.put o.dst (.slice (some ⟨g, 0, none⟩) (zs.length + 1) c)) w') :
    wpList Tryz.prog ops Q (o :: rest) a (w.alloc (.cells #[.int .u64 l] 32)) := by
  obtain ⟨i0, hi0, hz0, hz1, hz2⟩ := info_parts info_push
  refine wpList_append_lies _ hgd s x 89 ho B 32 i0 (.int .u64 0) 1 8 Tryz.underlying89 hi0 hz0 hz1 hz2 rfl (by decide) v zs.length (zs.map (Value.int .u64)) hs (World.ownsRow.alloc hown _) ⟨w.heap.size, 0, none⟩ 1 1 [.int .u64 l] hx rfl (push_lies w l) (by simp [Value.oneCell']) (by decide) (by unfold maxLen; omega) (by omega) (by simp; omega) (w.heap.size + 1) (by simp) ?_
  intro g c w' o1 gr hg _
  have e : OwnU B w' (.slice (some ⟨g, 0, none⟩) (zs.length + 1) c) (zs ++ [l]) := by
    unfold OwnU
    simpa using o1
  have k0 := Keep.alloc (Keep.refl (fun j => v.ownBlock = some j) w) (.cells #[.int .u64 l] 32)
  refine h g c w' e (k0.trans ⟨gr.os, gr.tape, gr.output, gr.size, fun j hj hn => gr.block j hj (fun e => hn e.symm)⟩) (hg.imp_right (by omega))
/-- The same at a step of a region that draws its order. -/
theorem step_push {w : World} {ops : Array Oper} {o : Oper} {a : Act} {K : Act → World → Prop} {Q : Exit → Act → World → Prop} {E : Prop} (hgd : o.guard = none) (s x : Operand)
    (ho : o.op = .call { callee := .builtin .append, args := #[s, x], argTypes := #[89, 89] })
    (B : Nat) (hB : B ≤ w.heap.size) (v : Value) (zs : List Int) (hs : a.eval s = v) (hown : OwnU B w v zs) (l : Int) (hx : a.eval x = .slice (some ⟨w.heap.size, 0, none⟩) 1 1) (hl : zs.length ≤ 100000)
    (h : ∀ g c w', OwnU B w' (.slice (some ⟨g, 0, none⟩) (zs.length + 1) c) (zs ++ [l]) → Keep (fun j => v.ownBlock = some j) w w' → (v.ownBlock = some g ∨ w.heap.size ≤ g) → K (a.put o.dst (.slice (some ⟨g, 0, none⟩) (zs.length + 1) c)) w') :
    if Region.wanted o (yielded ops a.tmps) = true then Oper.wp Tryz.prog o a (w.alloc (.cells #[.int .u64 l] 32)) K Q else E := by
  obtain ⟨i0, hi0, hz0, hz1, hz2⟩ := info_parts info_push
  refine step_append_lies _ hgd s x 89 ho B 32 i0 (.int .u64 0) 1 8 Tryz.underlying89 hi0 hz0 hz1 hz2 rfl (by decide) v zs.length (zs.map (Value.int .u64)) hs (World.ownsRow.alloc hown _) ⟨w.heap.size, 0, none⟩ 1 1 [.int .u64 l] hx rfl (push_lies w l) (by simp [Value.oneCell']) (by decide) (by unfold maxLen; omega) (by omega) (by simp; omega) (w.heap.size + 1) (by simp) ?_
  intro g c w' o1 gr hg _
  have e : OwnU B w' (.slice (some ⟨g, 0, none⟩) (zs.length + 1) c) (zs ++ [l]) := by
    unfold OwnU
    simpa using o1
  have k0 := Keep.alloc (Keep.refl (fun j => v.ownBlock = some j) w) (.cells #[.int .u64 l] 32)
  refine h g c w' e (k0.trans ⟨gr.os, gr.tape, gr.output, gr.size, fun j hj hn => gr.block j hj (fun e => hn e.symm)⟩) (hg.imp_right (by omega))
end Go.Proofs.YtmfpjnlplimkeaaGreat
/- Appends to a slice of words of the call's own, at a step of a region that draws its order: of whatever slice of words; what is read of its part ahead of a place, and from it on. No condition but lengths of 100,000 at most. -/
namespace Go.Proofs.YtmfpjnlplimkeaaGreat
open Go.ChangeShapes Go.WideShapes Go.ChangeAt Go.RowKit
set_option linter.unusedVariables false

theorem step_app {w : World} {ops : Array Oper} {o : Oper} {a : Act} {K : Act → World → Prop} {Q : Exit → Act → World → Prop} {E : Prop} (hgd : o.guard = none) (s x : Operand)
    (ho : o.op = .call { callee := .builtin .append, args := #[s, x], argTypes := #[89, 89] })
    (B : Nat) (hB : B ≤ w.heap.size) (v : Value) (zs : List Int) (hs : a.eval s = v) (hown : OwnU B w v zs) (ad : Addr) (m c : Nat) (ys : List Int) (hx : a.eval x = .slice (some ad) m c) (hm : ys.length = m)
    (hy : ∀ t, t < ys.length → w.cell? (ad.add t) = some (.int .u64 (ys.getD t 0))) (hl : zs.length ≤ 100000) (hl2 : ys.length ≤ 100000)
    (h : ∀ v' w', OwnU B w' v' (zs ++ ys) → Keep (fun j => v.ownBlock = some j) w w' → K (a.put o.dst v') w') :
    if Region.wanted o (yielded ops a.tmps) = true then Oper.wp Tryz.prog o a w K Q else E := by
  obtain ⟨i0, hi0, hz0, hz1, hz2⟩ := info_parts info_push
  have hw : Region.wanted o (yielded ops a.tmps) = true := by simp [Region.wanted, hgd]
  rw [if_pos hw]
  refine wp_append_own w s x 89 ho B 32 i0 (.int .u64 0) 1 8 Tryz.underlying89 hi0 hz0 hz1 hz2 rfl (by decide) v zs.length (zs.map (Value.int .u64)) hs hown ad m c (ys.map (Value.int .u64)) hx (by simp [hm]) ?_ ?_ (by unfold maxLen; omega) (by omega) hB ?_
  · intro j u hj
    rw [List.getElem?_map, Option.map_eq_some_iff] at hj
    obtain ⟨z, hz, rfl⟩ := hj
    have hj : j < ys.length := (List.getElem?_eq_some_iff.1 hz).1
    rw [hy j hj, List.getD_eq_getElem?_getD, hz]
    rfl
  · intro u hu
    obtain ⟨x, _, rfl⟩ := List.mem_map.1 hu
    rfl
  · intro v' w' o1 gr _
    have e : OwnU B w' v' (zs ++ ys) := by
      unfold OwnU
      rw [List.length_append, hm, List.map_append]
      exact o1
    exact h v' w' e ⟨gr.os, gr.tape, gr.output, gr.size, fun j hj hn => gr.block j hj (fun e => hn e.symm)⟩
/-- The same where the order of operations is the text's. -/
theorem wp_app {w : World} {ops : Array Oper} {rest : List Oper} {o : Oper} {a : Act} {Q : Exit → Act → World → Prop} (hgd : o.guard = none) (s x : Operand)
    (ho : o.op = .call { callee := .builtin .append, args := #[s, x], argTypes := #[89, 89] })
    (B : Nat) (hB : B ≤ w.heap.size) (v : Value) (zs : List Int) (hs : a.eval s = v) (hown : OwnU B w v zs) (ad : Addr) (m c : Nat) (ys : List Int) (hx : a.eval x = .slice (some ad) m c) (hm : ys.length = m)
    (hy : ∀ t, t < ys.length → w.cell? (ad.add t) = some (.int .u64 (ys.getD t 0))) (hl : zs.length ≤ 100000) (hl2 : ys.length ≤ 100000)
    (h : ∀ v' w', OwnU B w' v' (zs ++ ys) → Keep (fun j => v.ownBlock = some j) w w' → wpList Tryz.prog ops Q rest (a.put o.dst v') w') :
    wpList Tryz.prog ops Q (o :: rest) a w := by
  refine wpList_plain hgd fun K hK => ?_
  have hw : Region.wanted o (yielded ops a.tmps) = true := by simp [Region.wanted, hgd]
  have := step_app (ops := ops) (K := K) (Q := Q) (E := True) hgd s x ho B hB v zs hs hown ad m c ys hx hm hy hl hl2 (fun v' w' h1 h2 => hK _ _ (h v' w' h1 h2))
  rwa [if_pos hw] at this
theorem own_lit {w : World} {B : Nat} (hB : B ≤ w.heap.size) (x : Int) : OwnU B (w.alloc (.cells #[.int .u64 x] 32)) (.slice (some ⟨w.heap.size, 0, none⟩) 1 1) [x] := World.ownsRow_lit w #[.int .u64 x] 1 hB (by unfold maxLen; omega) rfl
/-- The whole of it, of a slice that reads so. -/
theorem all_at {w w' : World} {B g c : Nat} {L : List Int} (o : OwnU B w (.slice (some ⟨g, 0, none⟩) L.length c) L) (k : ∀ (t : Nat) u, w.cell? ⟨g, t, none⟩ = some u → w'.cell? ⟨g, t, none⟩ = some u) : ∀ t, t < L.length → w'.cell? ((⟨g, 0, none⟩ : Addr).add t) = some (.int .u64 (L.getD t 0)) := by
  intro t ht
  rw [add_plain, Nat.zero_add]
  exact k t _ (o.cell t ht)
theorem OwnU.lower {w : World} {B B' : Nat} {v : Value} {zs : List Int} (o : OwnU B' w v zs) (hB : B ≤ B') : OwnU B w v zs := by
  obtain ⟨h1, h2⟩ := o
  refine ⟨h1, ?_⟩
  rcases h2 with h2 | ⟨g, c, cur, hv, hg, r⟩
  · exact .inl h2
  · exact .inr ⟨g, c, cur, hv, Nat.le_trans hB hg, r⟩
theorem OwnU.shape {B : Nat} {w : World} {v : Value} {zs : List Int} (h : OwnU B w v zs) : (v = .slice none 0 0 ∧ zs = []) ∨ ∃ g c, v = .slice (some ⟨g, 0, none⟩) zs.length c ∧ B ≤ g ∧ g < w.heap.size ∧ zs.length ≤ c := by
  obtain ⟨h1, h2⟩ := id h
  rcases h2 with ⟨h3, h4⟩ | ⟨g, c, cur, hv, hB, hh, hc, _⟩
  · exact .inl ⟨h3, List.length_eq_zero_iff.1 h4⟩
  · exact .inr ⟨g, c, hv, hB, lt_of_block hh, hc⟩
/-- The same to a slice that lies somewhere: where it lies then: in its own block, or in a new one. -/
theorem step_apps {w : World} {ops : Array Oper} {o : Oper} {a : Act} {K : Act → World → Prop} {Q : Exit → Act → World → Prop} {E : Prop} (hgd : o.guard = none) (s x : Operand)
    (ho : o.op = .call { callee := .builtin .append, args := #[s, x], argTypes := #[89, 89] })
    (B : Nat) (hB : B ≤ w.heap.size) (g n cap : Nat) (zs : List Int) (hs : a.eval s = .slice (some ⟨g, 0, none⟩) n cap) (hn : zs.length = n) (hown : OwnU B w (.slice (some ⟨g, 0, none⟩) n cap) zs) (ad : Addr) (m c : Nat) (ys : List Int) (hx : a.eval x = .slice (some ad) m c) (hm : ys.length = m)
    (hy : ∀ t, t < ys.length → w.cell? (ad.add t) = some (.int .u64 (ys.getD t 0))) (hl : zs.length ≤ 100000) (hl2 : ys.length ≤ 100000)
    (h : ∀ g' c' w', OwnU B w' (.slice (some ⟨g', 0, none⟩) (n + m) c') (zs ++ ys) → Keep (fun j => j = g) w w' → (g' = g ∨ w.heap.size ≤ g') → K (a.put o.dst (.slice (some ⟨g', 0, none⟩) (n + m) c')) w') :
    if Region.wanted o (yielded ops a.tmps) = true then Oper.wp Tryz.prog o a w K Q else E := by
  subst hn
  obtain ⟨i0, hi0, hz0, hz1, hz2⟩ := info_parts info_push
  have hw : Region.wanted o (yielded ops a.tmps) = true := by simp [Region.wanted, hgd]
  rw [if_pos hw]
  have hnews : ∀ j u, (ys.map (Value.int .u64))[j]? = some u → w.cell? (ad.add j) = some u := by
    intro j u hj
    rw [List.getElem?_map, Option.map_eq_some_iff] at hj
    obtain ⟨z, hz, rfl⟩ := hj
    have hj : j < ys.length := (List.getElem?_eq_some_iff.1 hz).1
    rw [hy j hj, List.getD_eq_getElem?_getD, hz]
    rfl
  have h1 : ∀ u ∈ ys.map (Value.int .u64), u.oneCell' = true := by
    intro u hu
    obtain ⟨x, _, rfl⟩ := List.mem_map.1 hu
    rfl
  have gl : zs.length ≤ cap := by
    obtain ⟨_, h2⟩ := id hown
    rcases h2 with ⟨h2, _⟩ | ⟨g', c', cur, hv, _, _, hc, _⟩
    · simp at h2
    · simp at hv; omega
  have fin : ∀ g' c' w', w'.ownsRow B 32 1 (.slice (some ⟨g', 0, none⟩) (zs.length + m) c') (zs.length + m) (zs.map (Value.int .u64) ++ ys.map (Value.int .u64)) → w.grownBy w' (some g) → (g' = g ∨ w.heap.size ≤ g') → K (a.put o.dst (.slice (some ⟨g', 0, none⟩) (zs.length + m) c')) w' := by
    intro g' c' w' o1 gr hg
    refine h g' c' w' ?_ ⟨gr.os, gr.tape, gr.output, gr.size, fun j hj hn => gr.block j hj (fun e => hn (by cases e; rfl))⟩ hg
    unfold OwnU
    rw [List.length_append, hm, List.map_append]
    exact o1
  by_cases h0 : m = 0
  · obtain ⟨w', hr, h2, h3⟩ := run_append_fits (P := Tryz.prog) w B 89 o.type 32 i0 1 Tryz.underlying89 hi0 hz1 g zs.length cap (zs.map (Value.int .u64)) hown ad m c (ys.map (Value.int .u64)) (by simp [hm]) hnews h1 (by omega)
    unfold Oper.wp execOp
    simp only [ho, resolve, invoke, builtin, Sem.run_bind, Sem.run_pure, Result.andThen_ok, List.map_toArray, List.map_cons, List.map_nil, hs, hx, hr]
    exact fin g cap w' h2 h3 (.inl rfl)
  · exact wp_append_lies w s x 89 ho B 32 i0 (.int .u64 0) 1 8 Tryz.underlying89 hi0 hz0 hz1 hz2 rfl (by decide) _ zs.length (zs.map (Value.int .u64)) hs hown ad m c (ys.map (Value.int .u64)) hx (by simp [hm]) hnews h1 (by omega) (by unfold maxLen; omega) (by omega) hB w.heap.size rfl (fun g' c' w' h2 h3 h4 _ => fin g' c' w' h2 h3 (by
      rcases h4 with z | z
      · left; simp [Value.ownBlock] at z; exact z.symm
      · exact .inr (Nat.le_of_eq z.symm)))
theorem own_empty {w : World} {B : Nat} (hB : B ≤ w.heap.size) : OwnU B (w.alloc (.cells #[] 32)) (.slice (some ⟨w.heap.size, 0, none⟩) 0 0) [] := World.ownsRow_lit w #[] 0 hB (by unfold maxLen; omega) rfl
/-- The part ahead of a place. -/
theorem take_at {w w' : World} {B g c : Nat} {L : List Int} (o : OwnU B w (.slice (some ⟨g, 0, none⟩) L.length c) L) (k : ∀ (t : Nat) u, w.cell? ⟨g, t, none⟩ = some u → w'.cell? ⟨g, t, none⟩ = some u) (j : Nat) : ∀ t, t < (L.take j).length → w'.cell? ((⟨g, 0, none⟩ : Addr).add t) = some (.int .u64 ((L.take j).getD t 0)) := by
  intro t ht
  rw [List.length_take] at ht
  rw [add_plain, Nat.zero_add]
  refine k t _ ?_
  rw [o.cell t (by omega)]
  congr 2
  rw [List.getD_eq_getElem?_getD, List.getD_eq_getElem?_getD, List.getElem?_take, if_pos (by omega)]
/-- The part from a place on. -/
theorem drop_at {w w' : World} {B g c : Nat} {L : List Int} (o : OwnU B w (.slice (some ⟨g, 0, none⟩) L.length c) L) (k : ∀ (t : Nat) u, w.cell? ⟨g, t, none⟩ = some u → w'.cell? ⟨g, t, none⟩ = some u) (j : Nat) {ad : Addr} (had : ¬ c = j → ad = ⟨g, j, none⟩) (hc : L.length ≤ c) : ∀ t, t < (L.drop j).length → w'.cell? (ad.add t) = some (.int .u64 ((L.drop j).getD t 0)) := by
  intro t ht
  rw [List.length_drop] at ht
  rw [had (by omega), add_plain]
  refine k (j + t) _ ?_
  rw [o.cell (j + t) (by omega)]
  congr 2
  rw [List.getD_eq_getElem?_getD, List.getD_eq_getElem?_getD, List.getElem?_drop]
end Go.Proofs.YtmfpjnlplimkeaaGreat
/- 'l = append(l, x)' on a slice of ints that the call itself has made: what it holds then, where it lies, what has turned; condition: it holds at most 100,000. -/
namespace Go.Proofs.YtmfpjnlplimkeaaGreat
open Go.ChangeShapes Go.WideShapes Go.ChangeAt Go.RowKit
set_option linter.unusedVariables false

/-- A slice of ints of the call's own, from block B on (or nil). -/
abbrev OwnN (B : Nat) (w : World) (v : Value) (zs : List Int) : Prop := w.ownsRow B 3 1 v zs.length (zs.map (Value.int .i64))
theorem OwnN.keep {B : Nat} {w w' : World} {v : Value} {zs : List Int} {S : Nat → Prop} (h : OwnN B w v zs) (k : Keep S w w') (hn : ∀ g, v.ownBlock = some g → ¬ S g) : OwnN B w' v zs := by
  obtain ⟨h1, h2⟩ := id h
  refine ⟨h1, ?_⟩
  rcases h2 with h2 | ⟨g, c, cur, hv, hg, hh, r⟩
  · exact .inl h2
  · subst hv
    exact .inr ⟨g, c, cur, rfl, hg, by rw [k.block g (lt_of_block hh) (hn g rfl)]; exact hh, r⟩
theorem OwnN.lt {B : Nat} {w : World} {v : Value} {zs : List Int} (h : OwnN B w v zs) {g : Nat} (hg : v.ownBlock = some g) : B ≤ g ∧ g < w.heap.size := World.ownsRow.lt h g hg
theorem OwnN.cell {B g n c : Nat} {w : World} {zs : List Int} (h : OwnN B w (.slice (some ⟨g, 0, none⟩) n c) zs) (i : Nat) (hi : i < zs.length) : w.cell? ⟨g, i, none⟩ = some (.int .i64 (zs.getD i 0)) := by
  have := Own.cell (Own.of_base (f := Value.int .i64) (zs := zs) h rfl rfl) i hi
  rw [this]
  simp [List.getD_eq_getElem?_getD, hi]
theorem info_pushN : (Tryz.prog.info? 3).map (fun i => (i.zero, i.size, i.bytes)) = some (some (.int .i64 0), 1, 8) := by kernel_rfl
theorem push_liesN (x : World) (l : Int) : ∀ j u, [Value.int .i64 l][j]? = some u → (x.alloc (.cells #[.int .i64 l] 3)).cell? ((⟨x.heap.size, 0, none⟩ : Addr).add j) = some u := by
  intro j u hj
  match j, hj with
  | 0, hj => simp at hj; subst hj; simp [Addr.add]
theorem wp_pushN {w : World} {ops : Array Oper} {rest : List Oper} {o : Oper} {a : Act} {Q : Exit → Act → World → Prop} (hgd : o.guard = none) (s x : Operand)
    (ho : o.op = .call { callee := .builtin .append, args := #[s, x], argTypes := #[41, 41] })
    (B : Nat) (hB : B ≤ w.heap.size) (v : Value) (zs : List Int) (hs : a.eval s = v) (hown : OwnN B w v zs) (l : Int) (hx : a.eval x = .slice (some ⟨w.heap.size, 0, none⟩) 1 1) (hl : zs.length ≤ 100000)
    (h : ∀ g c w', OwnN B w' (.slice (some ⟨g, 0, none⟩) (zs.length + 1) c) (zs ++ [l]) → Keep (fun j => v.ownBlock = some j) w w' → (v.ownBlock = some g ∨ w.heap.size ≤ g) → wpList Tryz.prog ops Q rest (a.put o.dst (.slice (some ⟨g, 0, none⟩) (zs.length + 1) c)) w') :
    wpList Tryz.prog ops Q (o :: rest) a (w.alloc (.cells #[.int .i64 l] 3)) := by
  obtain ⟨i0, hi0, hz0, hz1, hz2⟩ := info_parts info_pushN
  refine wpList_append_lies _ hgd s x 41 ho B 3 i0 (.int .i64 0) 1 8 Tryz.underlying41 hi0 hz0 hz1 hz2 rfl (by decide) v zs.length (zs.map (Value.int .i64)) hs (World.ownsRow.alloc hown _) ⟨w.heap.size, 0, none⟩ 1 1 [.int .i64 l] hx rfl (push_liesN w l) (by simp [Value.oneCell']) (by decide) (by unfold maxLen; omega) (by omega) (by simp; omega) (w.heap.size + 1) (by simp) ?_
  intro g c w' o1 gr hg _
  have e : OwnN B w' (.slice (some ⟨g, 0, none⟩) (zs.length + 1) c) (zs ++ [l]) := by
    unfold OwnN
    simpa using o1
  have k0 := Keep.alloc (Keep.refl (fun j => v.ownBlock = some j) w) (.cells #[.int .i64 l] 3)
  refine h g c w' e (k0.trans ⟨gr.os, gr.tape, gr.output, gr.size, fun j hj hn => gr.block j hj (fun e => hn e.symm)⟩) (hg.imp_right (by omega))
/-- A slice of the call's own, written out but for where it lies. -/
theorem OwnN.shapeN {B : Nat} {w : World} {v : Value} {zs : List Int} (h : OwnN B w v zs) : ∃ A c, v = .slice A zs.length c ∧ (A = none → zs = []) ∧ ∀ ad, A = some ad → ∃ g, ad = ⟨g, 0, none⟩ := by
  obtain ⟨h1, h2⟩ := id h
  rcases h2 with ⟨h3, h4⟩ | ⟨g, c, cur, hv, _⟩
  · exact ⟨none, 0, by rw [h4]; exact h3, fun _ => List.length_eq_zero_iff.1 h4, fun ad h => by cases h⟩
  · exact ⟨some ⟨g, 0, none⟩, c, hv, fun h => (by cases h), fun ad h => by cases h; exact ⟨g, rfl⟩⟩
end Go.Proofs.YtmfpjnlplimkeaaGreat
