/- A Table that a law walks with: what it is, and that all that has turned is new; and the statement's helper awake. -/
import Derived.Test.YtodmpmnjkfnogaaTabC
namespace Go.Proofs.Ytodmpmnjkfnogaa
open Go.ChangeShapes Go.WideShapes Go.ChangeAt Go.RowKit
set_option linter.unusedVariables false

/-- Since W a Table has been made, in new blocks, that is now in state s; nothing of W has turned. -/
structure Tab (W w : World) (p : Nat) (S : Nat → Prop) (s : TS) : Prop where
  h : TabAt w p S s
  ok : TOk s
  g : ∀ k, S k → W.heap.size ≤ k
  b : Below W.heap.size W w
/-- Only the blocks S, and new ones, have turned; it now lies in S'. -/
def TKeep (S S' : Nat → Prop) (w w' : World) : Prop := Keep S w w' ∧ ∀ k, S' k → S k ∨ w.heap.size ≤ k
section
variable {W w w' : World} {p : Nat} {S S' : Nat → Prop} {s s' : TS}
theorem Tab.start {n : Int} (h : TabAt w p S (TS.new n)) (h0 : 1 ≤ n) (h1 : n ≤ 65535) (g : ∀ k, S k → W.heap.size ≤ k) (b : Below W.heap.size W w) : Tab W w p S (TS.new n) := ⟨h, tOk_new n h0 h1, g, b⟩
theorem Tab.step (h : Tab W w p S s) (ok : TOk s') (hp : TabAt w' p S' s') (k : Keep S w w') (g : ∀ k, S' k → S k ∨ w.heap.size ≤ k) : Tab W w' p S' s' := by
  have bs := h.b.size
  exact ⟨hp, ok, fun x hx => by rcases g x hx with y | y; exact h.g x y; omega, h.b.trans (k.below bs h.g)⟩
theorem Tab.quiet (h : Tab W w p S s) (k : Keep (fun _ => False) w w') : Tab W w' p S s := ⟨h.h.keep k (by simp), h.ok, h.g, h.b.trans (k.below h.b.size (by simp))⟩
theorem c_make (h : Tab W w p S s) (lv b : Int) (b0 : 0 ≤ b) (id e : Int) (s' : TS) (hs : s.make lv b = (id, e, s')) :
    Calls Try.prog 9 #[.pointer (some ⟨p, 0, none⟩), .int .i64 lv, .int .u64 b] w fun x w' => x = .returned (.tuple #[.int .i64 id, .int .i64 e]) ∧ ∃ S', Tab W w' p S' s' ∧ TKeep S S' w w' := by
  have ok := tOk_make h.ok lv b b0
  refine (tmake_any h.h h.ok lv b b0).mono ?_
  rw [hs] at ok ⊢
  rintro x w1 ⟨rfl, S1, h1, k1, g1⟩
  exact ⟨rfl, S1, h.step ok h1 k1 g1, k1, g1⟩
theorem c_turn (h : Tab W w p S s) (id t : Int) (i1 : id ≤ 9223372036854775807) (e : Int) (s' : TS) (hs : s.turn id t = (e, s')) :
    Calls Try.prog 11 #[.pointer (some ⟨p, 0, none⟩), .int .i64 id, .int .i64 t] w fun x w' => x = .returned (.int .i64 e) ∧ ∃ S', Tab W w' p S' s' ∧ TKeep S S' w w' := by
  have ok := tOk_turn h.ok id t
  refine (tturn_any h.h h.ok id t i1).mono ?_
  rw [hs] at ok ⊢
  rintro x w1 ⟨rfl, S1, h1, k1, g1⟩
  exact ⟨rfl, S1, h.step ok h1 k1 g1, k1, g1⟩
theorem c_stop (h : Tab W w p S s) (id y : Int) (i1 : id ≤ 9223372036854775807) (y0 : 0 ≤ y) (e : Int) (s' : TS) (hs : s.stop id y = (e, s')) :
    Calls Try.prog 10 #[.pointer (some ⟨p, 0, none⟩), .int .i64 id, .int .u64 y] w fun x w' => x = .returned (.int .i64 e) ∧ ∃ S', Tab W w' p S' s' ∧ TKeep S S' w w' := by
  have ok := tOk_stop h.ok id y y0
  refine (tstop_any h.h h.ok id y i1 y0).mono ?_
  rw [hs] at ok ⊢
  rintro x w1 ⟨rfl, S1, h1, k1, g1⟩
  exact ⟨rfl, S1, h.step ok h1 k1 g1, k1, g1⟩
theorem c_get (h : Tab W w p S s) (id : Int) (i1 : id ≤ 9223372036854775807) (r : Value) (hs : s.get id = r) :
    Calls Try.prog 12 #[.pointer (some ⟨p, 0, none⟩), .int .i64 id] w fun x w' => x = .returned r ∧ ∃ S', Tab W w' p S' s ∧ TKeep S S' w w' := by
  refine (tget_any h.h h.ok id i1).mono ?_
  rw [hs]
  rintro x w1 ⟨rfl, S1, h1, k1, g1⟩
  exact ⟨rfl, S1, h.step h.ok h1 k1 g1, k1, g1⟩
theorem c_old (h : Tab W w p S s) (now : Int) (n0 : 0 ≤ now) (n1 : now ≤ 18446744073709551615) (r : Int) (hs : s.old now = r) :
    Calls Try.prog 14 #[.pointer (some ⟨p, 0, none⟩), .int .u64 now] w fun x w' => x = .returned (.int .u64 r) ∧ ∃ S', Tab W w' p S' s ∧ TKeep S S' w w' := by
  refine (told_any h.h h.ok now n0 n1).mono ?_
  rw [hs]
  rintro x w1 ⟨rfl, S1, h1, k1, g1⟩
  exact ⟨rfl, S1, h.step h.ok h1 k1 g1, k1, g1⟩
theorem c_live (h : Tab W w p S s) (zs : List Int) (hs : s.live = zs) :
    Calls Try.prog 16 #[.pointer (some ⟨p, 0, none⟩)] w fun x w' => ∃ v S', x = .returned v ∧ OwnN w.heap.size w' v zs ∧ (∀ g, v.ownBlock = some g → ¬ S' g) ∧ Tab W w' p S' s ∧ TKeep S S' w w' := by
  refine (tlive_any h.h h.ok).mono ?_
  rw [hs]
  rintro x w1 ⟨v, S1, rfl, o, h1, k1, g1, n1⟩
  exact ⟨v, S1, rfl, o, n1, h.step h.ok h1 k1 g1, k1, g1⟩
theorem c_len (h : Tab W w p S s) (r : Int) (hs : (s.l.length : Int) = r) :
    Calls Try.prog 20 #[.pointer (some ⟨p, 0, none⟩)] w fun x w' => x = .returned (.int .i64 r) ∧ ∃ S', Tab W w' p S' s ∧ TKeep S S' w w' := by
  refine (tlen_any h.h h.ok).mono ?_
  rw [hs]
  rintro x w1 ⟨rfl, S1, h1, k1, g1⟩
  exact ⟨rfl, S1, h.step h.ok h1 k1 g1, k1, g1⟩
end
theorem c_new (n : Int) (w : World) (h0 : 1 ≤ n) (h1 : n ≤ 65535) : Calls Try.prog 8 #[.int .i64 n] w fun x w' => ∃ p S, x = .returned (.tuple #[.pointer (some ⟨p, 0, none⟩), .int .i64 0]) ∧ Tab w w' p S (TS.new n) := by
  refine (tnew_ok n w h0 h1).mono ?_
  rintro x w1 ⟨p, S, rfl, h, g, b⟩
  exact ⟨p, S, rfl, h, tOk_new n h0 h1, g, b⟩
/-- A Table, and a list of ints of the call's own. -/
structure TabV (W w : World) (p : Nat) (S : Nat → Prop) (s : TS) (v : Value) (zs : List Int) : Prop where
  t : Tab W w p S s
  ow : OwnN W.heap.size w v zs
  dv : ∀ g, v.ownBlock = some g → ¬ S g
section
variable {W w w' : World} {p : Nat} {S S' : Nat → Prop} {s s' : TS} {v : Value} {zs : List Int}
theorem TabV.step (h : TabV W w p S s v zs) (ht : Tab W w' p S' s') (k : TKeep S S' w w') : TabV W w' p S' s' v zs :=
  ⟨ht, h.ow.keep k.1 h.dv, fun g hg x => by rcases k.2 g x with y | y; exact h.dv g hg y; have := h.ow.lt hg; omega⟩
theorem TabV.quiet (h : TabV W w p S s v zs) (k : Keep (fun _ => False) w w') : TabV W w' p S s v zs := ⟨h.t.quiet k, h.ow.keep k (by simp), h.dv⟩
theorem TabV.push (h : TabV W w p S s v zs) {g c : Nat} {l : Int} (o : OwnN W.heap.size w' (.slice (some ⟨g, 0, none⟩) (zs.length + 1) c) (zs ++ [l])) (k : Keep (fun j => v.ownBlock = some j) w w') (hg : v.ownBlock = some g ∨ w.heap.size ≤ g) : TabV W w' p S s (.slice (some ⟨g, 0, none⟩) (zs.length + 1) c) (zs ++ [l]) := by
  have bs := h.t.b.size
  refine ⟨⟨h.t.h.keep k (fun x hx y => h.dv x y hx), h.t.ok, h.t.g, h.t.b.trans (k.below bs (fun x hx => (h.ow.lt hx).1))⟩, o, fun x hx y => ?_⟩
  cases hx
  rcases hg with z | z
  · exact h.dv _ z y
  · have : g < w.heap.size := h.t.h.lt _ y
    omega
end
theorem awake5_any (w : World) : Calls Try.prog 13 #[] w fun e w' => e = .returned (.bool true) ∧ Below w.heap.size w w' := by
  go_enter Try.func13, Try.ntmps13
  go_wp2_with fail
  refine (c_new 4 _ (by omega) (by omega)).mono ?_
  rintro e w1 ⟨p, S1, rfl, h1⟩
  go_wp2_with fail
  refine (c_make h1 3 3 (by omega) 1 0 ⟨4, [⟨3, 1, 3, 0⟩]⟩ rfl).mono ?_
  rintro e w2 ⟨rfl, S2, h2, _⟩
  clear h1
  go_wp2_with fail
  refine (c_turn h2 1 4 (by omega) 0 ⟨4, [⟨3, 4, 3, 0⟩]⟩ rfl).mono ?_
  rintro e w3 ⟨rfl, S3, h3, _⟩
  clear h2
  go_wp2_with fail
  refine (c_turn h3 1 2 (by omega) 7 ⟨4, [⟨3, 4, 3, 0⟩]⟩ rfl).mono ?_
  rintro e w4 ⟨rfl, S4, h4, _⟩
  clear h3
  go_wp2_with fail
  refine (can_any 1 2 _).mono ?_
  rw [show canI 1 2 = true by rfl]
  rintro e w5 ⟨rfl, rfl⟩
  go_wp2_with fail
  refine (c_old h4 9 (by omega) (by omega) 9 (by decide)).mono ?_
  rintro e w6 ⟨rfl, S6, h6, _⟩
  go_wp2
  go_ret
  exact ⟨rfl, h6.b⟩
end Go.Proofs.Ytodmpmnjkfnogaa
