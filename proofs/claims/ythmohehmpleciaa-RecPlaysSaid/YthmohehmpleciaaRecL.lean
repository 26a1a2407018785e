/- A Store that a law walks with: what it is, how many calls it has seen at most, and that all that has turned is new; and the statement's helper awake. -/
import Derived.Test.YthmohehmpleciaaRecC
import Derived.Deep.RegionHeld3
namespace Go.Proofs.Ythmohehmpleciaa
open Go.ChangeShapes Go.WideShapes Go.ChangeAt Go.RowKit
set_option linter.unusedVariables false

/-- Since W a Store has been made, in new blocks, that is now in state s behind at most k calls; nothing of W has turned. -/
structure Rec (W w : World) (p : Nat) (S : Nat → Prop) (s : RS) (k : Nat) : Prop where
  h : VAt w p S s
  ok : ROk s
  g : ∀ k, S k → W.heap.size ≤ k
  b : Below W.heap.size W w
  c : s.c ≤ 64 * k
/-- Only the blocks S, and new ones, have turned; it now lies in S'. -/
def VKeep (S S' : Nat → Prop) (w w' : World) : Prop := Keep S w w' ∧ ∀ k, S' k → S k ∨ w.heap.size ≤ k
section
variable {W w w' : World} {p : Nat} {S S' : Nat → Prop} {s s' : RS} {k : Nat}
theorem Rec.step (h : Rec W w p S s k) (ok : ROk s') (hp : VAt w' p S' s') (kk : Keep S w w') (g : ∀ k, S' k → S k ∨ w.heap.size ≤ k) (c : s'.c = s.c + 64) : Rec W w' p S' s' (k + 1) := by
  have bs := h.b.size
  have hc := h.c
  exact ⟨hp, ok, fun x hx => by rcases g x hx with y | y; exact h.g x y; omega, h.b.trans (kk.below bs h.g), by omega⟩
theorem Rec.quiet (h : Rec W w p S s k) (kk : Keep (fun _ => False) w w') : Rec W w' p S s k := ⟨h.h.keep kk (by simp), h.ok, h.g, h.b.trans (kk.below h.b.size (by simp)), h.c⟩
theorem Rec.more (h : Rec W w p S s k) {n : Nat} (hn : k ≤ n) : Rec W w p S s n := ⟨h.h, h.ok, h.g, h.b, by have := h.c; omega⟩
theorem Rec.cc (h : Rec W w p S s k) (hk : k ≤ 1000000) : s.c ≤ 4611686018427387904 := by have := h.c; omega
theorem v_make (h : Rec W w p S s k) (hk : k ≤ 1000000) (key val b e : Int) (hb : U64 b) (he : U64 e) (l f : Int) (s' : RS) (hs : s.make key val b e = (l, f, s')) :
    Calls Try.prog 9 #[.pointer (some ⟨p, 0, none⟩), .int .i64 key, .int .i64 val, .int .u64 b, .int .u64 e] w fun x w' => x = .returned (.tuple #[.int .u64 l, .int .i64 f]) ∧ ∃ S', Rec W w' p S' s' (k + 1) ∧ VKeep S S' w w' := by
  have ok := rOk_make h.ok key val b e hb he
  have cc := make_c s key val b e
  refine (vmake_any h.h h.ok (h.cc hk) key val b e hb he).mono ?_
  rw [hs] at ok cc ⊢
  rintro x w1 ⟨rfl, S1, h1, k1, g1⟩
  exact ⟨rfl, S1, h.step ok h1 k1 g1 cc, k1, g1⟩
theorem v_free (h : Rec W w p S s k) (hk : k ≤ 1000000) (l : Int) (hl : U64 l) (f : Int) (s' : RS) (hs : s.free l = (f, s')) :
    Calls Try.prog 13 #[.pointer (some ⟨p, 0, none⟩), .int .u64 l] w fun x w' => x = .returned (.int .i64 f) ∧ ∃ S', Rec W w' p S' s' (k + 1) ∧ VKeep S S' w w' := by
  have ok := rOk_free h.ok l
  have cc := free_c s l
  refine (vfree_any h.h h.ok (h.cc hk) l hl).mono ?_
  rw [hs] at ok cc ⊢
  rintro x w1 ⟨rfl, S1, h1, k1, g1⟩
  exact ⟨rfl, S1, h.step ok h1 k1 g1 cc, k1, g1⟩
theorem v_get (h : Rec W w p S s k) (hk : k ≤ 1000000) (l : Int) (hl : U64 l) (r : Value) (hs : s.get l = r) :
    Calls Try.prog 12 #[.pointer (some ⟨p, 0, none⟩), .int .u64 l] w fun x w' => x = .returned r ∧ ∃ S', Rec W w' p S' s.tick (k + 1) ∧ VKeep S S' w w' := by
  refine (vget_any h.h h.ok (h.cc hk) l hl).mono ?_
  rw [hs]
  rintro x w1 ⟨rfl, S1, h1, k1, g1⟩
  exact ⟨rfl, S1, h.step h.ok.tick h1 k1 g1 rfl, k1, g1⟩
theorem v_set (h : Rec W w p S s k) (hk : k ≤ 1000000) (l v : Int) (hl : U64 l) (f : Int) (s' : RS) (hs : s.set l v = (f, s')) :
    Calls Try.prog 19 #[.pointer (some ⟨p, 0, none⟩), .int .u64 l, .int .i64 v] w fun x w' => x = .returned (.int .i64 f) ∧ ∃ S', Rec W w' p S' s' (k + 1) ∧ VKeep S S' w w' := by
  have ok := rOk_set h.ok l v
  have cc := set_c s l v
  refine (vset_any h.h h.ok (h.cc hk) l v hl).mono ?_
  rw [hs] at ok cc ⊢
  rintro x w1 ⟨rfl, S1, h1, k1, g1⟩
  exact ⟨rfl, S1, h.step ok h1 k1 g1 cc, k1, g1⟩
theorem v_next (h : Rec W w p S s k) (hk : k ≤ 1000000) (l t : Int) (hl : U64 l) (ht : U64 t) (f : Int) (s' : RS) (hs : s.next l t = (f, s')) :
    Calls Try.prog 11 #[.pointer (some ⟨p, 0, none⟩), .int .u64 l, .int .u64 t] w fun x w' => x = .returned (.int .i64 f) ∧ ∃ S', Rec W w' p S' s' (k + 1) ∧ VKeep S S' w w' := by
  have ok := rOk_next h.ok l t ht
  have cc := next_c s l t
  refine (vnext_any h.h h.ok (h.cc hk) l t hl ht).mono ?_
  rw [hs] at ok cc ⊢
  rintro x w1 ⟨rfl, S1, h1, k1, g1⟩
  exact ⟨rfl, S1, h.step ok h1 k1 g1 cc, k1, g1⟩
theorem v_begin (h : Rec W w p S s k) (hk : k ≤ 1000000) (l o n : Int) (hl : U64 l) (ho : U64 o) (hn : U64 n) (f : Bool) (s' : RS) (hs : s.begin l o n = (f, s')) :
    Calls Try.prog 17 #[.pointer (some ⟨p, 0, none⟩), .int .u64 l, .int .u64 o, .int .u64 n] w fun x w' => x = .returned (.bool f) ∧ ∃ S', Rec W w' p S' s' (k + 1) ∧ VKeep S S' w w' := by
  have ok := rOk_begin h.ok l o n hn
  have cc := begin_c s l o n
  refine (vbegin_any h.h h.ok (h.cc hk) l o n hl ho hn).mono ?_
  rw [hs] at ok cc ⊢
  rintro x w1 ⟨rfl, S1, h1, k1, g1⟩
  exact ⟨rfl, S1, h.step ok h1 k1 g1 cc, k1, g1⟩
theorem v_end (h : Rec W w p S s k) (hk : k ≤ 1000000) (l o n : Int) (hl : U64 l) (ho : U64 o) (hn : U64 n) (f : Bool) (s' : RS) (hs : s.stop l o n = (f, s')) :
    Calls Try.prog 18 #[.pointer (some ⟨p, 0, none⟩), .int .u64 l, .int .u64 o, .int .u64 n] w fun x w' => x = .returned (.bool f) ∧ ∃ S', Rec W w' p S' s' (k + 1) ∧ VKeep S S' w w' := by
  have ok := rOk_stop h.ok l o n hn
  have cc := stop_c s l o n
  refine (vend_any h.h h.ok (h.cc hk) l o n hl ho hn).mono ?_
  rw [hs] at ok cc ⊢
  rintro x w1 ⟨rfl, S1, h1, k1, g1⟩
  exact ⟨rfl, S1, h.step ok h1 k1 g1 cc, k1, g1⟩
theorem v_used (h : Rec W w p S s k) (hk : k ≤ 1000000) (n : Int) (hs : s.used = n) :
    Calls Try.prog 14 #[.pointer (some ⟨p, 0, none⟩)] w fun x w' => x = .returned (.int .i64 n) ∧ ∃ S', Rec W w' p S' s.tick (k + 1) ∧ VKeep S S' w w' := by
  refine (vused_any h.h h.ok (h.cc hk)).mono ?_
  rw [hs]
  rintro x w1 ⟨rfl, S1, h1, k1, g1⟩
  exact ⟨rfl, S1, h.step h.ok.tick h1 k1 g1 rfl, k1, g1⟩
theorem v_links (h : Rec W w p S s k) (hk : k ≤ 1000000) (zs : List Int) (hs : s.links = zs) :
    Calls Try.prog 15 #[.pointer (some ⟨p, 0, none⟩)] w fun x w' => ∃ v S', x = .returned v ∧ OwnU w.heap.size w' v zs ∧ (∀ g, v.ownBlock = some g → ¬ S' g) ∧ Rec W w' p S' s.tick (k + 1) ∧ VKeep S S' w w' := by
  refine (vlinks_any h.h h.ok (h.cc hk)).mono ?_
  rw [hs]
  rintro x w1 ⟨v, S1, rfl, o, h1, k1, g1, n1⟩
  exact ⟨v, S1, rfl, o, n1, h.step h.ok.tick h1 k1 g1 rfl, k1, g1⟩
end
theorem v_new (n : Nat) (w : World) (h0 : 1 ≤ n) (h1 : n ≤ 4096) : Calls Try.prog 8 #[.int .i64 n] w fun x w' => ∃ p S, x = .returned (.tuple #[.pointer (some ⟨p, 0, none⟩), .int .i64 0]) ∧ Rec w w' p S (RS.new n) 1 := by
  refine (vnew_ok n w h0 h1).mono ?_
  rintro x w1 ⟨p, S, rfl, h, g, b⟩
  exact ⟨p, S, rfl, h, rOk_new n h0 h1, g, b, by simp [RS.new]⟩
theorem forever_any (w : World) : Calls Try.prog 10 #[] w fun e w' => e = .returned (.int .u64 2305843009213693952) ∧ w = w' := by
  go_enter Try.func10, Try.ntmps10
  go_wp2
  go_ret
  exact ⟨rfl, rfl⟩
/-- A Store, and blocks V of the law's own, which no call of the Store turns. -/
structure RecV (W w : World) (p : Nat) (S : Nat → Prop) (s : RS) (k : Nat) (V : Nat → Prop) : Prop where
  r : Rec W w p S s k
  v : ∀ g, V g → ¬ S g ∧ g < w.heap.size
/-- The blocks V have not turned. -/
def VSame (V : Nat → Prop) (w w' : World) : Prop := ∀ g, V g → w'.heap[g]? = w.heap[g]?
theorem VSame.cell {V : Nat → Prop} {w w' : World} (h : VSame V w w') {a : Addr} (hv : V a.block) {x : Value} (hc : w.cell? a = some x) : w'.cell? a = some x := by
  rw [World.cell?_of_block (w := w) (h _ hv)]; exact hc
theorem VSame.frozen {V : Nat → Prop} {w w' : World} (h : VSame V w w') {a : Addr} (hv : V a.block) {x : Bool} (hc : w.frozen? a = x) : w'.frozen? a = x := by
  rw [World.frozen?_of_block (w := w) (h _ hv)]; exact hc
section
variable {W w w' : World} {p : Nat} {S S' : Nat → Prop} {s s' : RS} {k k' : Nat} {V : Nat → Prop}
theorem RecV.start (h : Rec W w p S s k) : RecV W w p S s k (fun _ => False) := ⟨h, fun g hg => hg.elim⟩
theorem RecV.step (h : RecV W w p S s k V) (hr : Rec W w' p S' s' k') (kk : VKeep S S' w w') : RecV W w' p S' s' k' V ∧ VSame V w w' :=
  ⟨⟨hr, fun g hg => ⟨fun x => by rcases kk.2 g x with y | y; exact (h.v g hg).1 y; have := (h.v g hg).2; omega, Nat.lt_of_lt_of_le (h.v g hg).2 kk.1.size⟩⟩, fun g hg => kk.1.block g (h.v g hg).2 (h.v g hg).1⟩
/-- The law's own blocks, T, have turned. -/
theorem RecV.own (h : RecV W w p S s k V) {T : Nat → Prop} (kk : Keep T w w') (hT : ∀ g, T g → ¬ S g ∧ W.heap.size ≤ g) : RecV W w' p S s k V :=
  ⟨⟨h.r.h.keep kk (fun g hs ht => (hT g ht).1 hs), h.r.ok, h.r.g, h.r.b.trans (kk.below h.r.b.size (fun g hg => (hT g hg).2)), h.r.c⟩, fun g hg => ⟨(h.v g hg).1, Nat.lt_of_lt_of_le (h.v g hg).2 kk.size⟩⟩
theorem RecV.quiet (h : RecV W w p S s k V) (kk : Keep (fun _ => False) w w') : RecV W w' p S s k V := h.own kk (fun g hg => hg.elim)
theorem VSame.quiet (h : RecV W w p S s k V) (kk : Keep (fun _ => False) w w') : VSame V w w' := fun g hg => kk.block g (h.v g hg).2 (by simp)
/-- New blocks join them. -/
theorem RecV.join (h : RecV W w p S s k V) {b : Nat} (kk : Keep (fun _ => False) w w') (h0 : w.heap.size ≤ b) (h1 : b < w'.heap.size) : RecV W w' p S s k (fun g => V g ∨ g = b) :=
  ⟨(h.quiet kk).r, fun g hg => by rcases hg with hg | rfl; exact (h.quiet kk).v g hg; exact ⟨fun x => by have := h.r.h.lt g x; omega, h1⟩⟩
end
theorem awake6_any (w : World) : Calls Try.prog 16 #[] w fun e w' => e = .returned (.bool true) ∧ Below w.heap.size w w' := by
  go_enter Try.func16, Try.ntmps16
  go_wp2_with fail
  refine (v_new 4 _ (by omega) (by omega)).mono ?_
  rintro e w1 ⟨p, S1, rfl, h1⟩
  go_wp2_with fail
  refine (forever_any _).mono ?_
  rintro e w' ⟨rfl, rfl⟩
  go_wp2_with fail
  refine (v_make h1 (by omega) 1 2 3 2305843009213693952 ⟨by omega, by omega⟩ ⟨by omega, by omega⟩ 1 0 ⟨⟨65535, [0, 0, 0, 0], [true, false, false, false], [], 1, 0⟩, [⟨1, 2, 3, 2305843009213693952, 0⟩, ⟨0, 0, 0, 0, 0⟩, ⟨0, 0, 0, 0, 0⟩, ⟨0, 0, 0, 0, 0⟩], 128⟩ (by rfl)).mono ?_
  rintro e w2 ⟨rfl, S2, h2, k2⟩
  go_wp2_with fail
  refine (v_get h2 (by omega) 1 ⟨by omega, by omega⟩ (.tuple #[.agg #[.int .i64 1, .int .i64 2, .int .u64 3, .int .u64 2305843009213693952, .int .u64 0], .bool true]) (by rfl)).mono ?_
  rintro e w3 ⟨rfl, S3, h3, k3⟩
  go_wp2_with fail
  have A := Keep.alloc (Keep.refl (fun _ => False) w3) (.cells #[.int .i64 1, .int .i64 2, .int .u64 3, .int .u64 2305843009213693952, .int .u64 0] 33)
  have V3 := ((RecV.start h3).join A (Nat.le_refl _) (by simp)).quiet (Keep.refl (fun _ => False) _).drew
  have y : ∀ i, (w3.alloc (.cells #[.int .i64 1, .int .i64 2, .int .u64 3, .int .u64 2305843009213693952, .int .u64 0] 33)).cell? ⟨w3.heap.size, i, none⟩ = #[Value.int .i64 1, .int .i64 2, .int .u64 3, .int .u64 2305843009213693952, .int .u64 0][i]? := fun i => World.cell?_alloc_new _ _ _ _
  obtain ⟨w4, e4⟩ : ∃ w4, w3.alloc (.cells #[.int .i64 1, .int .i64 2, .int .u64 3, .int .u64 2305843009213693952, .int .u64 0] 33) = w4 := ⟨_, rfl⟩
  obtain ⟨b, eb⟩ : ∃ b, w3.heap.size = b := ⟨_, rfl⟩
  rw [e4] at V3 y ⊢
  rw [eb] at V3 y ⊢
  clear e4 eb A
  refine wp_region_held_drew (S := (fun w' => w'.cell? ⟨b, 0, none⟩ = some (.int .i64 1) ∧ w'.cell? ⟨b, 1, none⟩ = some (.int .i64 2) ∧ w'.cell? ⟨b, 2, none⟩ = some (.int .u64 3) ∧ w'.cell? ⟨b, 3, none⟩ = some (.int .u64 2305843009213693952) ∧ w'.cell? ⟨b, 4, none⟩ = some (.int .u64 0))) (by kernel_rfl) ⟨y 0, y 1, y 2, y 3, y 4⟩ (fun hHeld => ?_)
  refine wpAnyH_take (i := 0) (v := ?qvu34) rfl (by kernel_rfl) (by kernel_rfl) (by kernel_rfl) (fun _ _ _ h => h) (Or.inl ⟨by rfl, ?qyu34⟩) (by assumption) ?qru34; case qyu34 => ((intro w hSw; (try dsimp only at hSw); go_simp); try (with_reducible rfl))
  ((try simp only [List.getElem_toArray]); (try simp only [List.getElem_cons_succ]); (try simp only [List.getElem_cons_zero]); (try simp only [Act.put]); (try simp only [List.setIfInBounds_toArray]); (try simp only [List.set_cons_succ]); (try simp only [List.set_cons_zero]))
  refine wpAnyH_take (i := 1) (v := ?qvu35) rfl (by kernel_rfl) (by kernel_rfl) (by kernel_rfl) (fun _ _ _ h => h) (Or.inl ⟨by rfl, ?qyu35⟩) (by assumption) ?qru35; case qyu35 => ((intro w hSw; (try dsimp only at hSw); go_simp); try (with_reducible rfl))
  ((try simp only [List.getElem_toArray]); (try simp only [List.getElem_cons_succ]); (try simp only [List.getElem_cons_zero]); (try simp only [Act.put]); (try simp only [List.setIfInBounds_toArray]); (try simp only [List.set_cons_succ]); (try simp only [List.set_cons_zero]))
  refine wpAnyH_take (i := 2) (v := ?qvu36) rfl (by kernel_rfl) (by kernel_rfl) (by kernel_rfl) (fun _ _ _ h => h) (Or.inl ⟨by rfl, ?qyu36⟩) (by assumption) ?qru36; case qyu36 => ((intro w hSw; (try dsimp only at hSw); go_simp); try (with_reducible rfl))
  ((try simp only [List.getElem_toArray]); (try simp only [List.getElem_cons_succ]); (try simp only [List.getElem_cons_zero]); (try simp only [Act.put]); (try simp only [List.setIfInBounds_toArray]); (try simp only [List.set_cons_succ]); (try simp only [List.set_cons_zero]))
  refine wpAnyH_take (i := 3) (v := ?qvu37) rfl (by kernel_rfl) (by kernel_rfl) (by kernel_rfl) (fun _ _ _ h => h) (Or.inl ⟨by rfl, ?qyu37⟩) (by assumption) ?qru37; case qyu37 => ((intro w hSw; (try dsimp only at hSw); go_simp); try (with_reducible rfl))
  ((try simp only [List.getElem_toArray]); (try simp only [List.getElem_cons_succ]); (try simp only [List.getElem_cons_zero]); (try simp only [Act.put]); (try simp only [List.setIfInBounds_toArray]); (try simp only [List.set_cons_succ]); (try simp only [List.set_cons_zero]))
  refine wpAnyH_take (i := 4) (v := ?qvu38) rfl (by kernel_rfl) (by kernel_rfl) (by kernel_rfl) (fun _ _ _ h => h) (Or.inl ⟨by rfl, ?qyu38⟩) (by assumption) ?qru38; case qyu38 => ((intro w hSw; (try dsimp only at hSw); go_simp); try (with_reducible rfl))
  ((try simp only [List.getElem_toArray]); (try simp only [List.getElem_cons_succ]); (try simp only [List.getElem_cons_zero]); (try simp only [Act.put]); (try simp only [List.setIfInBounds_toArray]); (try simp only [List.set_cons_succ]); (try simp only [List.set_cons_zero]))
  refine wpAnyH_take (i := 5) (v := ?qvu39) rfl (by kernel_rfl) (by kernel_rfl) (by kernel_rfl) (fun _ _ _ h => h) (Or.inl ⟨by rfl, ?qyu39⟩) (by assumption) ?qru39; case qyu39 => ((intro w hSw; (try dsimp only at hSw); go_simp); try (with_reducible rfl))
  ((try simp only [List.getElem_toArray]); (try simp only [List.getElem_cons_succ]); (try simp only [List.getElem_cons_zero]); (try simp only [Act.put]); (try simp only [List.setIfInBounds_toArray]); (try simp only [List.set_cons_succ]); (try simp only [List.set_cons_zero]))
  refine wpAnyH_take (i := 6) (v := ?qvu40) rfl (by kernel_rfl) (by kernel_rfl) (by kernel_rfl) (fun _ _ _ h => h) (Or.inl ⟨by rfl, ?qyu40⟩) (by assumption) ?qru40; case qyu40 => ((intro w hSw; (try dsimp only at hSw); go_simp); try (with_reducible rfl))
  ((try simp only [List.getElem_toArray]); (try simp only [List.getElem_cons_succ]); (try simp only [List.getElem_cons_zero]); (try simp only [Act.put]); (try simp only [List.setIfInBounds_toArray]); (try simp only [List.set_cons_succ]); (try simp only [List.set_cons_zero]))
  refine wpAnyH_ready (rs := [7]) (by kernel_rfl) (by simp) ?_
  refine AllReadyH.cons rfl (fun K hK => ?_) AllReadyH.nil
  go_simp
  refine (forever_any _).mono ?_
  rintro e w' ⟨rfl, rfl⟩
  refine hK.out _ _ hHeld (fun hHeld => ?_)
  clear hK K
  ((try simp only [List.getElem_toArray]); (try simp only [List.getElem_cons_succ]); (try simp only [List.getElem_cons_zero]); (try simp only [Act.put]); (try simp only [List.setIfInBounds_toArray]); (try simp only [List.set_cons_succ]); (try simp only [List.set_cons_zero]))
  refine wpAnyH_take (i := 8) (v := ?qvu41) rfl (by kernel_rfl) (by kernel_rfl) (by kernel_rfl) (fun _ _ _ h => h) (Or.inl ⟨by rfl, ?qyu41⟩) (by assumption) ?qru41; case qyu41 => ((intro w hSw; (try dsimp only at hSw); go_simp); try (with_reducible rfl))
  ((try simp only [List.getElem_toArray]); (try simp only [List.getElem_cons_succ]); (try simp only [List.getElem_cons_zero]); (try simp only [Act.put]); (try simp only [List.setIfInBounds_toArray]); (try simp only [List.set_cons_succ]); (try simp only [List.set_cons_zero]))
  refine wpAnyH_take (i := 9) (v := ?qvu42) rfl (by kernel_rfl) (by kernel_rfl) (by kernel_rfl) (fun _ _ _ h => h) (Or.inl ⟨by rfl, ?qyu42⟩) (by assumption) ?qru42; case qyu42 => ((intro w hSw; (try dsimp only at hSw); go_simp); try (with_reducible rfl))
  ((try simp only [List.getElem_toArray]); (try simp only [List.getElem_cons_succ]); (try simp only [List.getElem_cons_zero]); (try simp only [Act.put]); (try simp only [List.setIfInBounds_toArray]); (try simp only [List.set_cons_succ]); (try simp only [List.set_cons_zero]))
  refine wpAnyH_take (i := 10) (v := ?qvu43) rfl (by kernel_rfl) (by kernel_rfl) (by kernel_rfl) (fun _ _ _ h => h) (Or.inl ⟨by rfl, ?qyu43⟩) (by assumption) ?qru43; case qyu43 => ((intro w hSw; (try dsimp only at hSw); go_simp); try (with_reducible rfl))
  ((try simp only [List.getElem_toArray]); (try simp only [List.getElem_cons_succ]); (try simp only [List.getElem_cons_zero]); (try simp only [Act.put]); (try simp only [List.setIfInBounds_toArray]); (try simp only [List.set_cons_succ]); (try simp only [List.set_cons_zero]))
  refine wpAnyH_take (i := 11) (v := ?qvu44) rfl (by kernel_rfl) (by kernel_rfl) (by kernel_rfl) (fun _ _ _ h => h) (Or.inl ⟨by rfl, ?qyu44⟩) (by assumption) ?qru44; case qyu44 => ((intro w hSw; (try dsimp only at hSw); go_simp); try (with_reducible rfl))
  ((try simp only [List.getElem_toArray]); (try simp only [List.getElem_cons_succ]); (try simp only [List.getElem_cons_zero]); (try simp only [Act.put]); (try simp only [List.setIfInBounds_toArray]); (try simp only [List.set_cons_succ]); (try simp only [List.set_cons_zero]))
  refine wpAnyH_take (i := 12) (v := ?qvu45) rfl (by kernel_rfl) (by kernel_rfl) (by kernel_rfl) (fun _ _ _ h => h) (Or.inl ⟨by rfl, ?qyu45⟩) (by assumption) ?qru45; case qyu45 => ((intro w hSw; (try dsimp only at hSw); go_simp); try (with_reducible rfl))
  ((try simp only [List.getElem_toArray]); (try simp only [List.getElem_cons_succ]); (try simp only [List.getElem_cons_zero]); (try simp only [Act.put]); (try simp only [List.setIfInBounds_toArray]); (try simp only [List.set_cons_succ]); (try simp only [List.set_cons_zero]))
  refine wpAnyH_ready (rs := [13]) (by kernel_rfl) (by simp) ?_
  refine AllReadyH.cons rfl (fun K hK => ?_) AllReadyH.nil
  go_simp
  refine (v_used V3.r (by omega) 1 (by rfl)).mono ?_
  rintro e y1 ⟨rfl, S4, h4, k4⟩
  obtain ⟨V4, sm⟩ := V3.step h4 k4
  refine hK.out _ _ ⟨sm.cell (.inr rfl) hHeld.1, sm.cell (.inr rfl) hHeld.2.1, sm.cell (.inr rfl) hHeld.2.2.1, sm.cell (.inr rfl) hHeld.2.2.2.1, sm.cell (.inr rfl) hHeld.2.2.2.2⟩ (fun hHeld => ?_)
  clear hK K
  ((try simp only [List.getElem_toArray]); (try simp only [List.getElem_cons_succ]); (try simp only [List.getElem_cons_zero]); (try simp only [Act.put]); (try simp only [List.setIfInBounds_toArray]); (try simp only [List.set_cons_succ]); (try simp only [List.set_cons_zero]))
  refine wpAnyH_take (i := 14) (v := ?qvu46) rfl (by kernel_rfl) (by kernel_rfl) (by kernel_rfl) (fun _ _ _ h => h) (Or.inl ⟨by rfl, ?qyu46⟩) (by assumption) ?qru46; case qyu46 => ((intro w hSw; (try dsimp only at hSw); go_simp); try (with_reducible rfl))
  ((try simp only [List.getElem_toArray]); (try simp only [List.getElem_cons_succ]); (try simp only [List.getElem_cons_zero]); (try simp only [Act.put]); (try simp only [List.setIfInBounds_toArray]); (try simp only [List.set_cons_succ]); (try simp only [List.set_cons_zero]))
  refine wpAnyH_take (i := 15) (v := ?qvu47) rfl (by kernel_rfl) (by kernel_rfl) (by kernel_rfl) (fun _ _ _ h => h) (Or.inl ⟨by rfl, ?qyu47⟩) (by assumption) ?qru47; case qyu47 => ((intro w hSw; (try dsimp only at hSw); go_simp); try (with_reducible rfl))
  ((try simp only [List.getElem_toArray]); (try simp only [List.getElem_cons_succ]); (try simp only [List.getElem_cons_zero]); (try simp only [Act.put]); (try simp only [List.setIfInBounds_toArray]); (try simp only [List.set_cons_succ]); (try simp only [List.set_cons_zero]))
  refine wpAnyH_take (i := 16) (v := ?qvu48) rfl (by kernel_rfl) (by kernel_rfl) (by kernel_rfl) (fun _ _ _ h => h) (Or.inl ⟨by rfl, ?qyu48⟩) (by assumption) ?qru48; case qyu48 => ((intro w hSw; (try dsimp only at hSw); go_simp); try (with_reducible rfl))
  ((try simp only [List.getElem_toArray]); (try simp only [List.getElem_cons_succ]); (try simp only [List.getElem_cons_zero]); (try simp only [Act.put]); (try simp only [List.setIfInBounds_toArray]); (try simp only [List.set_cons_succ]); (try simp only [List.set_cons_zero]))
  refine wpAnyH_done (by kernel_rfl) ?_ _
  go_wp2
  go_ret
  exact ⟨rfl, V4.r.b⟩
end Go.Proofs.Ythmohehmpleciaa
