/- Package chain, first part: a look along a Chain (from, behind), for any Chain over a Store whose links are led to one another; condition: 4095 links at most, the Store's count of accesses at most 2^61. -/
import Derived.Test.YtmfpjnlplimkeaaRecL
import Derived.Test.YtmfpjnlplimkeaaSlc
import Derived.Deep.LoopGhost
namespace Go.Proofs.Ytmfpjnlplimkeaa
open Go.ChangeShapes Go.WideShapes Go.ChangeAt Go.RowKit
set_option linter.unusedVariables false

def RS.more (s : RS) (n : Nat) : RS := { s with c := s.c + 64 * (n : Int) }
theorem RS.more_tick (s : RS) (n : Nat) : (s.more n).tick = s.more (n + 1) := by
  unfold RS.more RS.tick
  simp only [RS.mk.injEq, true_and]
  omega
theorem RS.more_zero (s : RS) : s.more 0 = s := by simp [RS.more]
theorem ROk.more {s : RS} (h : ROk s) (n : Nat) : ROk (s.more n) := ⟨h.p, h.m, h.l, h.v, by have := h.c0; simp [RS.more]; omega⟩
theorem Linked.more {s : RS} {l : List Int} (h : Linked s l) (n : Nat) : Linked (s.more n) l := ⟨h.live, h.nd, h.next⟩
theorem Linked.u64 {s : RS} {l : List Int} (h : Linked s l) (ok : ROk s) (i : Nat) : U64 (l.getD i 0) := by
  by_cases hi : i < l.length
  · obtain ⟨h1, _, h2⟩ := slot_live (h.live _ (getD_mem hi))
    have := link_b ok.p _ h1
    rw [← h2] at this
    exact ⟨by omega, by omega⟩
  · rw [List.getD_eq_getElem?_getD, List.getElem?_eq_none (by omega)]
    exact ⟨by simp, by simp⟩
theorem Linked.pos {s : RS} {l : List Int} (h : Linked s l) (ok : ROk s) {x : Int} (hx : x ∈ l) : U64 x ∧ x ≠ 0 := by
  obtain ⟨h1, _, h2⟩ := slot_live (h.live _ hx)
  have := link_b ok.p _ h1
  rw [← h2] at this
  exact ⟨⟨by omega, by omega⟩, by omega⟩
theorem VAt.up {w : World} {p : Nat} {S : Nat → Prop} {s s' : RS} (h : VAt w p S s) (e1 : s'.s = s.s) (e2 : s'.r = s.r) (e3 : s.c ≤ s'.c) : VAt w p S s' := by
  obtain ⟨pp, Sp, pa, qa, c, zs, h, hS⟩ := h
  exact ⟨pp, Sp, pa, qa, c, zs, h.more e1 e2 e3, hS⟩
theorem VKeep.trans {S S1 S2 : Nat → Prop} {w w1 w2 : World} (a : VKeep S S1 w w1) (b : VKeep S1 S2 w1 w2) : VKeep S S2 w w2 :=
  ⟨⟨b.1.os.trans a.1.os, b.1.tape.trans a.1.tape, b.1.output.trans a.1.output, Nat.le_trans a.1.size b.1.size, fun k hk hn => (b.1.block k (Nat.lt_of_lt_of_le hk a.1.size) (fun x => by rcases a.2 k x with y | y; exact hn y; omega)).trans (a.1.block k hk hn)⟩,
    fun k hk => by
      rcases b.2 k hk with y | y
      · exact a.2 k y
      · exact .inr (Nat.le_trans a.1.size y)⟩
/-- In the midst of a look along a Chain: the Store, and a list of the call's own. -/
structure Fr (w wr : World) (p : Nat) (S S' : Nat → Prop) (s : RS) (v : Value) (zs : List Int) : Prop where
  h : VAt wr p S' s
  ow : OwnU w.heap.size wr v zs
  dv : ∀ g, v.ownBlock = some g → ¬ S' g
  k : VKeep S S' w wr
section
variable {w wr w2 : World} {p : Nat} {S S' S2 : Nat → Prop} {s s2 : RS} {v : Value} {zs : List Int}
theorem Fr.start (h : VAt w p S s) : Fr w w p S S s (.slice none 0 0) [] := ⟨h, World.ownsRow_nil _ _ _ _, by simp [Value.ownBlock], Keep.refl _ _, fun k hk => .inl hk⟩
theorem Fr.step (f : Fr w wr p S S' s v zs) (h2 : VAt w2 p S2 s2) (k2 : VKeep S' S2 wr w2) : Fr w w2 p S S2 s2 v zs :=
  ⟨h2, OwnU.keep f.ow k2.1 f.dv, fun g hg x => by rcases k2.2 g x with y | y; exact f.dv g hg y; have := (OwnU.lt f.ow hg).2; omega, f.k.trans k2⟩
theorem Fr.quiet (f : Fr w wr p S S' s v zs) (kk : Keep (fun _ => False) wr w2) : Fr w w2 p S S' s v zs :=
  f.step (f.h.keep kk (by simp)) ⟨kk.mono (by simp), fun k hk => .inl hk⟩
theorem Fr.push (f : Fr w wr p S S' s v zs) {g c : Nat} {l : Int} (o : OwnU w.heap.size w2 (.slice (some ⟨g, 0, none⟩) (zs.length + 1) c) (zs ++ [l])) (kk : Keep (fun j => v.ownBlock = some j) wr w2) (hg : v.ownBlock = some g ∨ wr.heap.size ≤ g) : Fr w w2 p S S' s (.slice (some ⟨g, 0, none⟩) (zs.length + 1) c) (zs ++ [l]) := by
  refine ⟨f.h.keep kk (fun x hx y => f.dv x y hx), o, fun x hx y => ?_, ⟨⟨kk.os.trans f.k.1.os, kk.tape.trans f.k.1.tape, kk.output.trans f.k.1.output, Nat.le_trans f.k.1.size kk.size, fun k hk hn => (kk.block k (Nat.lt_of_lt_of_le hk f.k.1.size) (fun x => by have := (OwnU.lt f.ow x).1; omega)).trans (f.k.1.block k hk hn)⟩, f.k.2⟩⟩
  cases hx
  rcases hg with z | z
  · exact f.dv _ z y
  · have : g < wr.heap.size := f.h.lt _ y
    omega
end
def FRel (w : World) (p : Nat) (S : Nat → Prop) (s : RS) (l : List Int) (k : Nat) (lv v : Value) (wr : World) : Prop :=
  ∃ S', k ≤ l.length ∧ lv = .int .u64 (l.getD k 0) ∧ Fr w wr p S S' (s.more k) v (l.take k)
section
variable {w : World} {p q : Nat} {S : Nat → Prop} {s : RS} {l : List Int}
end
end Go.Proofs.Ytmfpjnlplimkeaa
