/- For layer 15's statements: a set of reads beside the two lists (keys, ranges) that the law makes of what came in; append of one. No condition but those of the set. -/
import Derived.Test.YtndpifkpgoeogaaJmI
import Derived.Test.YtndpifkpgoeogaaRdD
import Derived.Test.YtndpifkpgoeogaaOwnM
import Derived.Test.YtndpifkpgoeogaaCodes
import Derived.Test.YtndpifkpgoeogaaMask
import Derived.ChangeOld
import Derived.Deep.CutRange
import Derived.Deep.CutBlock
import Derived.Deep.LoopGhost
import Derived.BigRegion
import Derived.BigQuiet
import Derived.Deep.RegionHeld3
import Derived.Deep.QuietTactic
namespace Go.Proofs.Ytndpifkpgoeogaa
open Go.ChangeShapes Go.WideShapes Go.ChangeAt Go.RowKit
set_option linter.unusedVariables false
def rC (x : OpI) : List Value := [.bool x.sp, .int .i64 x.lo, .int .i64 x.hi, .int .u64 x.link, x.v]
abbrev OwnR (B : Nat) (w : World) (v : Value) (zs : List OpI) : Prop := w.ownsRow B 48 5 v zs.length (zs.flatMap rC)
section
variable {W w w' : World} {B t : Nat} {S S' T : Nat → Prop} {s s' : RdS} {v v1 v2 : Value} {zs ks ss : List OpI}
theorem OwnR.keep (h : OwnR B w v zs) (k : Keep T w w') (hn : ∀ g, v.ownBlock = some g → ¬ T g) : OwnR B w' v zs := by
  obtain ⟨h1, h2⟩ := id h
  refine ⟨h1, ?_⟩
  rcases h2 with h2 | ⟨g, c, cur, hv, hg, hh, r⟩
  · exact .inl h2
  · subst hv
    exact .inr ⟨g, c, cur, rfl, hg, by rw [k.block g (lt_of_block hh) (hn g rfl)]; exact hh, r⟩
theorem OwnR.lt (h : OwnR B w v zs) {g : Nat} (hg : v.ownBlock = some g) : B ≤ g ∧ g < w.heap.size := World.ownsRow.lt h g hg
theorem OwnR.shape (h : OwnR B w v zs) : ∃ A c, v = .slice A zs.length c ∧ (A = none → zs = []) ∧ ∀ ad, A = some ad → ∃ g, ad = ⟨g, 0, none⟩ := by
  obtain ⟨h1, h2⟩ := id h
  rcases h2 with ⟨h3, h4⟩ | ⟨g, c, cur, hv, _⟩
  · exact ⟨none, 0, by rw [h4]; exact h3, fun _ => List.length_eq_zero_iff.1 h4, fun ad h => by cases h⟩
  · exact ⟨some ⟨g, 0, none⟩, c, hv, fun h => (by cases h), fun ad h => by cases h; exact ⟨g, rfl⟩⟩
theorem OwnR.cells {g n c : Nat} (h : OwnR B w (.slice (some ⟨g, 0, none⟩) n c) zs) (i : Nat) (x : OpI) (hx : zs[i]? = some x) :
    w.cell? ⟨g, i * 5, none⟩ = some (.bool x.sp) ∧ w.cell? ⟨g, i * 5 + 1, none⟩ = some (.int .i64 x.lo) ∧ w.cell? ⟨g, i * 5 + 2, none⟩ = some (.int .i64 x.hi) ∧ w.cell? ⟨g, i * 5 + 3, none⟩ = some (.int .u64 x.link) ∧ w.cell? ⟨g, i * 5 + 4, none⟩ = some x.v := by
  have o : OwnM 5 rC 48 w (.slice (some ⟨g, 0, none⟩) n c) zs := OwnM.of_base h rfl rfl
  obtain ⟨hi, ex⟩ := List.getElem?_eq_some_iff.1 hx
  have hf : ∀ x, (rC x).length = 5 := fun x => rfl
  have c0 := OwnM.cell hf o i 0 hi (by omega)
  have c1 := OwnM.cell hf o i 1 hi (by omega)
  have c2 := OwnM.cell hf o i 2 hi (by omega)
  have c3 := OwnM.cell hf o i 3 hi (by omega)
  have c4 := OwnM.cell hf o i 4 hi (by omega)
  rw [ex] at c0 c1 c2 c3 c4
  exact ⟨c0, c1, c2, c3, c4⟩
theorem info_rdr : (Try.prog.info? 48).map (fun i => (i.zero, i.size, i.bytes)) = some (some (.agg #[.bool false, .int .i64 0, .int .i64 0, .int .u64 0, .slice none 0 0]), 5, 56) := by kernel_rfl
theorem rdr_lies (w : World) (y : OpI) : ∀ j u, (rC y)[j]? = some u → (w.alloc (.cells #[.bool y.sp, .int .i64 y.lo, .int .i64 y.hi, .int .u64 y.link, y.v] 48)).cell? ((⟨w.heap.size, 0, none⟩ : Addr).add j) = some u := by
  intro j u hj
  match j, hj with
  | 0, hj => simp [rC] at hj; subst hj; simp [Addr.add]
  | 1, hj => simp [rC] at hj; subst hj; simp [Addr.add]
  | 2, hj => simp [rC] at hj; subst hj; simp [Addr.add]
  | 3, hj => simp [rC] at hj; subst hj; simp [Addr.add]
  | 4, hj => simp [rC] at hj; subst hj; simp [Addr.add]
theorem wp_pushRd {w : World} {ops : Array Oper} {rest : List Oper} {o : Oper} {a : Act} {Q : Exit → Act → World → Prop} (hgd : o.guard = none) (s x : Operand)
    (ho : o.op = .call { callee := .builtin .append, args := #[s, x], argTypes := #[44, 44] })
    (B : Nat) (hB : B ≤ w.heap.size) (v : Value) (zs : List OpI) (hs : a.eval s = v) (hown : OwnR B w v zs) (y : OpI) (hy : y.v.oneCell' = true) (hx : a.eval x = .slice (some ⟨w.heap.size, 0, none⟩) 1 1) (hl : zs.length ≤ 100000)
    (h : ∀ g c w', OwnR B w' (.slice (some ⟨g, 0, none⟩) (zs.length + 1) c) (zs ++ [y]) → Keep (fun j => v.ownBlock = some j) w w' → (v.ownBlock = some g ∨ w.heap.size ≤ g) → wpList Try.prog ops Q rest (a.put o.dst (.slice (some ⟨g, 0, none⟩) (zs.length + 1) c)) w') :
    wpList Try.prog ops Q (o :: rest) a (w.alloc (.cells #[.bool y.sp, .int .i64 y.lo, .int .i64 y.hi, .int .u64 y.link, y.v] 48)) := by
  obtain ⟨i0, hi0, hz0, hz1, hz2⟩ := info_parts info_rdr
  refine wpList_append_lies _ hgd s x 44 ho B 48 i0 _ 5 56 Try.underlying44 hi0 hz0 hz1 hz2 rfl (by decide) v zs.length (zs.flatMap rC) hs (World.ownsRow.alloc hown _) ⟨w.heap.size, 0, none⟩ 1 1 (rC y) hx rfl (rdr_lies w y) (by intro u hu; simp only [rC, List.mem_cons, List.not_mem_nil, or_false] at hu; rcases hu with rfl | rfl | rfl | rfl | rfl; rfl; rfl; rfl; rfl; exact hy) (by decide) (by unfold maxLen; omega) (by omega) (by simp; omega) (w.heap.size + 1) (by simp) ?_
  intro g c w' o1 gr hg _
  have e : OwnR B w' (.slice (some ⟨g, 0, none⟩) (zs.length + 1) c) (zs ++ [y]) := by
    unfold OwnR
    simpa using o1
  have k0 := Keep.alloc (Keep.refl (fun j => v.ownBlock = some j) w) (.cells #[.bool y.sp, .int .i64 y.lo, .int .i64 y.hi, .int .u64 y.link, y.v] 48)
  refine h g c w' e (k0.trans ⟨gr.os, gr.tape, gr.output, gr.size, fun j hj hn => gr.block j hj (fun e => hn e.symm)⟩) (hg.imp_right (by omega))
/-- A set and the two lists. -/
structure A15 (W w : World) (t : Nat) (S : Nat → Prop) (s : RdS) (v1 : Value) (ks : List OpI) (v2 : Value) (ss : List OpI) : Prop where
  r : Rd W w t S s
  a1 : OwnR W.heap.size w v1 ks
  a2 : OwnR W.heap.size w v2 ss
  d1 : ∀ g, v1.ownBlock = some g → ¬ S g
  d2 : ∀ g, v2.ownBlock = some g → ¬ S g
  d3 : ∀ g, v1.ownBlock = some g → v2.ownBlock ≠ some g
theorem A15.start (h : Rd W w t S s) : A15 W w t S s (.slice none 0 0) [] (.slice none 0 0) [] := ⟨h, World.ownsRow_nil _ _ _ _, World.ownsRow_nil _ _ _ _, by simp [Value.ownBlock], by simp [Value.ownBlock], by simp [Value.ownBlock]⟩
theorem A15.step (h : A15 W w t S s v1 ks v2 ss) (hr : Rd W w' t S' s') (k : VKeep S S' w w') : A15 W w' t S' s' v1 ks v2 ss :=
  ⟨hr, OwnR.keep h.a1 k.1 h.d1, OwnR.keep h.a2 k.1 h.d2, fun g hg x => by rcases k.2 g x with y | y; exact h.d1 g hg y; have := (OwnR.lt h.a1 hg).2; omega, fun g hg x => by rcases k.2 g x with y | y; exact h.d2 g hg y; have := (OwnR.lt h.a2 hg).2; omega, h.d3⟩
theorem A15.quiet (h : A15 W w t S s v1 ks v2 ss) (k : Keep (fun _ => False) w w') : A15 W w' t S s v1 ks v2 ss := ⟨h.r.quiet k, OwnR.keep h.a1 k (by simp), OwnR.keep h.a2 k (by simp), h.d1, h.d2, h.d3⟩
theorem A15.push1 (h : A15 W w t S s v1 ks v2 ss) {g c : Nat} {y : OpI} (o : OwnR W.heap.size w' (.slice (some ⟨g, 0, none⟩) (ks.length + 1) c) (ks ++ [y])) (k : Keep (fun j => v1.ownBlock = some j) w w') (hg : v1.ownBlock = some g ∨ w.heap.size ≤ g) : A15 W w' t S s (.slice (some ⟨g, 0, none⟩) (ks.length + 1) c) (ks ++ [y]) v2 ss := by
  refine ⟨h.r.own k (fun x hx => ⟨h.d1 x hx, (OwnR.lt h.a1 hx).1⟩), o, OwnR.keep h.a2 k (fun x hx e => h.d3 x e hx), fun x hx y => ?_, h.d2, fun x hx y => ?_⟩
  all_goals
    have : g = x := by simpa [Value.ownBlock] using hx
    subst this
    rcases hg with z | z
  · exact h.d1 _ z y
  · have := h.r.lt _ y; omega
  · exact h.d3 _ z y
  · have := (OwnR.lt h.a2 y).2; omega
theorem A15.push2 (h : A15 W w t S s v1 ks v2 ss) {g c : Nat} {y : OpI} (o : OwnR W.heap.size w' (.slice (some ⟨g, 0, none⟩) (ss.length + 1) c) (ss ++ [y])) (k : Keep (fun j => v2.ownBlock = some j) w w') (hg : v2.ownBlock = some g ∨ w.heap.size ≤ g) : A15 W w' t S s v1 ks (.slice (some ⟨g, 0, none⟩) (ss.length + 1) c) (ss ++ [y]) := by
  refine ⟨h.r.own k (fun x hx => ⟨h.d2 x hx, (OwnR.lt h.a2 hx).1⟩), OwnR.keep h.a1 k (fun x hx e => h.d3 x hx e), o, h.d1, fun x hx y => ?_, fun x hx y => ?_⟩
  · have : g = x := by simpa [Value.ownBlock] using hx
    subst this
    rcases hg with z | z
    · exact h.d2 _ z y
    · have := h.r.lt _ y; omega
  · have : g = x := by simpa [Value.ownBlock] using y
    subst this
    rcases hg with z | z
    · exact h.d3 _ hx z
    · have := (OwnR.lt h.a1 hx).2; omega
end
end Go.Proofs.Ytndpifkpgoeogaa
