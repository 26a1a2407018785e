/- A Store that a law walks with: what it is, how many calls it has seen at most, and that all that has turned is new; and the statement's helper awake. -/
import Derived.Test.YtmfpjnlplimkeaaRecC
import Derived.Deep.RegionHeld3
namespace Go.Proofs.Ytmfpjnlplimkeaa
open Go.ChangeShapes Go.WideShapes Go.ChangeAt Go.RowKit
set_option linter.unusedVariables false

/-- Since W a Store has been made, in new blocks, that is now in state s behind at most k calls; nothing of W has turned. -/
structure Rec (W w : World) (p : Nat) (S : Nat → Prop) (s : RS) (k : Nat) : Prop where
  h : VAt w p S s
  ok : ROk s
  g : ∀ k, S k → W.heap.size ≤ k
  b : Below W.heap.size W w
  c : s.c ≤ 64 * k
section
variable {W w w' : World} {p : Nat} {S S' : Nat → Prop} {s s' : RS} {k : Nat}
theorem Rec.step (h : Rec W w p S s k) (ok : ROk s') (hp : VAt w' p S' s') (kk : Keep S w w') (g : ∀ k, S' k → S k ∨ w.heap.size ≤ k) (c : s'.c = s.c + 64) : Rec W w' p S' s' (k + 1) := by
  have bs := h.b.size
  have hc := h.c
  exact ⟨hp, ok, fun x hx => by rcases g x hx with y | y; exact h.g x y; omega, h.b.trans (kk.below bs h.g), by omega⟩
theorem Rec.quiet (h : Rec W w p S s k) (kk : Keep (fun _ => False) w w') : Rec W w' p S s k := ⟨h.h.keep kk (by simp), h.ok, h.g, h.b.trans (kk.below h.b.size (by simp)), h.c⟩
theorem Rec.more (h : Rec W w p S s k) {n : Nat} (hn : k ≤ n) : Rec W w p S s n := ⟨h.h, h.ok, h.g, h.b, by have := h.c; omega⟩
theorem Rec.cc (h : Rec W w p S s k) (hk : k ≤ 1000000) : s.c ≤ 4611686018427387904 := by have := h.c; omega
end
theorem v_new (n : Nat) (w : World) (h0 : 1 ≤ n) (h1 : n ≤ 4096) : Calls Try.prog 4 #[.int .i64 n] w fun x w' => ∃ p S, x = .returned (.tuple #[.pointer (some ⟨p, 0, none⟩), .int .i64 0]) ∧ Rec w w' p S (RS.new n) 1 := by
  refine (vnew_ok n w h0 h1).mono ?_
  rintro x w1 ⟨p, S, rfl, h, g, b⟩
  exact ⟨p, S, rfl, h, rOk_new n h0 h1, g, b, by simp [RS.new]⟩
/-- A Store, and blocks V of the law's own, which no call of the Store turns. -/
structure RecV (W w : World) (p : Nat) (S : Nat → Prop) (s : RS) (k : Nat) (V : Nat → Prop) : Prop where
  r : Rec W w p S s k
  v : ∀ g, V g → ¬ S g ∧ g < w.heap.size
/-- The blocks V have not turned. -/
def VSame (V : Nat → Prop) (w w' : World) : Prop := ∀ g, V g → w'.heap[g]? = w.heap[g]?
theorem VSame.cell {V : Nat → Prop} {w w' : World} (h : VSame V w w') {a : Addr} (hv : V a.block) {x : Value} (hc : w.cell? a = some x) : w'.cell? a = some x := by
  rw [World.cell?_of_block (w := w) (h _ hv)]; exact hc
theorem VSame.frozen {V : Nat → Prop} {w w' : World} (h : VSame V w w') {a : Addr} (hv : V a.block) {x : Bool} (hc : w.frozen? a = x) : w'.frozen? a = x := by
  rw [World.frozen?_of_block (w := w) (h _ hv)]; exact hc
section
variable {W w w' : World} {p : Nat} {S S' : Nat → Prop} {s s' : RS} {k k' : Nat} {V : Nat → Prop}
theorem RecV.start (h : Rec W w p S s k) : RecV W w p S s k (fun _ => False) := ⟨h, fun g hg => hg.elim⟩
theorem RecV.step (h : RecV W w p S s k V) (hr : Rec W w' p S' s' k') (kk : VKeep S S' w w') : RecV W w' p S' s' k' V ∧ VSame V w w' :=
  ⟨⟨hr, fun g hg => ⟨fun x => by rcases kk.2 g x with y | y; exact (h.v g hg).1 y; have := (h.v g hg).2; omega, Nat.lt_of_lt_of_le (h.v g hg).2 kk.1.size⟩⟩, fun g hg => kk.1.block g (h.v g hg).2 (h.v g hg).1⟩
/-- The law's own blocks, T, have turned. -/
theorem RecV.own (h : RecV W w p S s k V) {T : Nat → Prop} (kk : Keep T w w') (hT : ∀ g, T g → ¬ S g ∧ W.heap.size ≤ g) : RecV W w' p S s k V :=
  ⟨⟨h.r.h.keep kk (fun g hs ht => (hT g ht).1 hs), h.r.ok, h.r.g, h.r.b.trans (kk.below h.r.b.size (fun g hg => (hT g hg).2)), h.r.c⟩, fun g hg => ⟨(h.v g hg).1, Nat.lt_of_lt_of_le (h.v g hg).2 kk.size⟩⟩
theorem RecV.quiet (h : RecV W w p S s k V) (kk : Keep (fun _ => False) w w') : RecV W w' p S s k V := h.own kk (fun g hg => hg.elim)
theorem VSame.quiet (h : RecV W w p S s k V) (kk : Keep (fun _ => False) w w') : VSame V w w' := fun g hg => kk.block g (h.v g hg).2 (by simp)
/-- New blocks join them. -/
theorem RecV.join (h : RecV W w p S s k V) {b : Nat} (kk : Keep (fun _ => False) w w') (h0 : w.heap.size ≤ b) (h1 : b < w'.heap.size) : RecV W w' p S s k (fun g => V g ∨ g = b) :=
  ⟨(h.quiet kk).r, fun g hg => by rcases hg with hg | rfl; exact (h.quiet kk).v g hg; exact ⟨fun x => by have := h.r.h.lt g x; omega, h1⟩⟩
end
end Go.Proofs.Ytmfpjnlplimkeaa
