/- Package chain, first part: a look along a Chain (from, behind), for any Chain over a Store whose links are led to one another; condition: 4095 links at most, the Store's count of accesses at most 2^61. -/
import Derived.Test.YtmfpjnlplimkeaaGreatLawHashPlaysZag
import Derived.Test.YtmfpjnlplimkeaaGreatLawHashPlaysZah
import Derived.Deep.LoopGhost
namespace Go.Proofs.YtmfpjnlplimkeaaGreat
open Go.ChangeShapes Go.WideShapes Go.ChangeAt Go.RowKit
set_option linter.unusedVariables false

def RS.more (s : RS) (n : Nat) : RS := { s with c := s.c + 64 * (n : Int) }
theorem RS.more_tick (s : RS) (n : Nat) : (s.more n).tick = s.more (n + 1) := by
  unfold RS.more RS.tick
  simp only [RS.mk.injEq, true_and]
  omega
theorem RS.more_zero (s : RS) : s.more 0 = s := by simp [RS.more]
theorem ROk.more {s : RS} (h : ROk s) (n : Nat) : ROk (s.more n) := ⟨h.p, h.m, h.l, h.v, by have := h.c0; simp [RS.more]; omega⟩
theorem Linked.more {s : RS} {l : List Int} (h : Linked s l) (n : Nat) : Linked (s.more n) l := ⟨h.live, h.nd, h.next⟩
theorem Linked.u64 {s : RS} {l : List Int} (h : Linked s l) (ok : ROk s) (i : Nat) : U64 (l.getD i 0) := by
  by_cases hi : i < l.length
  · obtain ⟨h1, _, h2⟩ := slot_live (h.live _ (getD_mem hi))
    have := link_b ok.p _ h1
    rw [← h2] at this
    exact ⟨by omega, by omega⟩
  · rw [List.getD_eq_getElem?_getD, List.getElem?_eq_none (by omega)]
    exact ⟨by simp, by simp⟩
theorem Linked.pos {s : RS} {l : List Int} (h : Linked s l) (ok : ROk s) {x : Int} (hx : x ∈ l) : U64 x ∧ x ≠ 0 := by
  obtain ⟨h1, _, h2⟩ := slot_live (h.live _ hx)
  have := link_b ok.p _ h1
  rw [← h2] at this
  exact ⟨⟨by omega, by omega⟩, by omega⟩
theorem VAt.up {w : World} {p : Nat} {S : Nat → Prop} {s s' : RS} (h : VAt w p S s) (e1 : s'.s = s.s) (e2 : s'.r = s.r) (e3 : s.c ≤ s'.c) : VAt w p S s' := by
  obtain ⟨pp, Sp, pa, qa, c, zs, h, hS⟩ := h
  exact ⟨pp, Sp, pa, qa, c, zs, h.more e1 e2 e3, hS⟩
theorem VKeep.trans {S S1 S2 : Nat → Prop} {w w1 w2 : World} (a : VKeep S S1 w w1) (b : VKeep S1 S2 w1 w2) : VKeep S S2 w w2 :=
  ⟨⟨b.1.os.trans a.1.os, b.1.tape.trans a.1.tape, b.1.output.trans a.1.output, Nat.le_trans a.1.size b.1.size, fun k hk hn => (b.1.block k (Nat.lt_of_lt_of_le hk a.1.size) (fun x => by rcases a.2 k x with y | y; exact hn y; omega)).trans (a.1.block k hk hn)⟩,
    fun k hk => by
      rcases b.2 k hk with y | y
      · exact a.2 k y
      · exact .inr (Nat.le_trans a.1.size y)⟩
/-- In the midst of a look along a Chain: the Store, and a list of the call's own. -/
structure Fr (w wr : World) (p : Nat) (S S' : Nat → Prop) (s : RS) (v : Value) (zs : List Int) : Prop where
  h : VAt wr p S' s
  ow : OwnU w.heap.size wr v zs
  dv : ∀ g, v.ownBlock = some g → ¬ S' g
  k : VKeep S S' w wr
section
variable {w wr w2 : World} {p : Nat} {S S' S2 : Nat → Prop} {s s2 : RS} {v : Value} {zs : List Int}
theorem Fr.start (h : VAt w p S s) : Fr w w p S S s (.slice none 0 0) [] := ⟨h, World.ownsRow_nil _ _ _ _, by simp [Value.ownBlock], Keep.refl _ _, fun k hk => .inl hk⟩
theorem Fr.step (f : Fr w wr p S S' s v zs) (h2 : VAt w2 p S2 s2) (k2 : VKeep S' S2 wr w2) : Fr w w2 p S S2 s2 v zs :=
  ⟨h2, OwnU.keep f.ow k2.1 f.dv, fun g hg x => by rcases k2.2 g x with y | y; exact f.dv g hg y; have := (OwnU.lt f.ow hg).2; omega, f.k.trans k2⟩
theorem Fr.quiet (f : Fr w wr p S S' s v zs) (kk : Keep (fun _ => False) wr w2) : Fr w w2 p S S' s v zs :=
  f.step (f.h.keep kk (by simp)) ⟨kk.mono (by simp), fun k hk => .inl hk⟩
theorem Fr.push (f : Fr w wr p S S' s v zs) {g c : Nat} {l : Int} (o : OwnU w.heap.size w2 (.slice (some ⟨g, 0, none⟩) (zs.length + 1) c) (zs ++ [l])) (kk : Keep (fun j => v.ownBlock = some j) wr w2) (hg : v.ownBlock = some g ∨ wr.heap.size ≤ g) : Fr w w2 p S S' s (.slice (some ⟨g, 0, none⟩) (zs.length + 1) c) (zs ++ [l]) := by
  refine ⟨f.h.keep kk (fun x hx y => f.dv x y hx), o, fun x hx y => ?_, ⟨⟨kk.os.trans f.k.1.os, kk.tape.trans f.k.1.tape, kk.output.trans f.k.1.output, Nat.le_trans f.k.1.size kk.size, fun k hk hn => (kk.block k (Nat.lt_of_lt_of_le hk f.k.1.size) (fun x => by have := (OwnU.lt f.ow x).1; omega)).trans (f.k.1.block k hk hn)⟩, f.k.2⟩⟩
  cases hx
  rcases hg with z | z
  · exact f.dv _ z y
  · have : g < wr.heap.size := f.h.lt _ y
    omega
end
def FRel (w : World) (p : Nat) (S : Nat → Prop) (s : RS) (l : List Int) (k : Nat) (lv v : Value) (wr : World) : Prop :=
  ∃ S', k ≤ l.length ∧ lv = .int .u64 (l.getD k 0) ∧ Fr w wr p S S' (s.more k) v (l.take k)
section
variable {w : World} {p q : Nat} {S : Nat → Prop} {s : RS} {l : List Int}
set_option maxRecDepth 100000 in
theorem cfrom_any (h : VAt w p S s) (ok : ROk s) (hc : s.c ≤ 2305843009213693952) (ln : Linked s l) (hl : l.length ≤ 4095) (c0 : w.cell? ⟨q, 0, none⟩ = some (.pointer (some ⟨p, 0, none⟩))) (hq : ¬ S q) (x : Int) (hx : l.headD 0 = x) :
    Calls Tryz.prog 32 #[.pointer (some ⟨q, 0, none⟩), .int .u64 x] w fun e w' => ∃ v S', e = .returned v ∧ Fr w w' p S S' (s.more (l.length + 1)) v l := by
  have F0 := Fr.start h
  have hx0 : l.getD 0 0 = x := by rw [← hx]; cases l <;> rfl
  clear hx
  go_enter Tryz.func32, Tryz.ntmps32
  go_wp2
  go_loopg [1, 5] l.length (fun m lv v wr => ∃ k : Nat, m + k = l.length ∧ FRel w p S s l k lv v wr)
  case atStart => exact ⟨0, rfl, S, Nat.zero_le _, by rw [hx0], by rw [RS.more_zero]; exact F0⟩
  case round =>
    obtain ⟨k, hgk, S1, hk, rfl, F⟩ := hrel
    clear F0 hx0
    have c1 := F.k.1.cell c0 hq
    have lk : (l.take k).length = k := by rw [List.length_take]; omega
    obtain ⟨A, c, rfl, hA⟩ : ∃ A c, u5 = Value.slice A k c ∧ True := by
      rcases OwnU.shape F.ow with ⟨h1, h2⟩ | ⟨g, c, h1, _⟩
      · have : k = 0 := by rw [h2] at lk; exact lk.symm
        exact ⟨none, 0, by rw [h1, this], trivial⟩
      · exact ⟨_, c, by rw [h1, lk], trivial⟩
    clear hA
    have d1 : decide ((k : Int) < 4096) = true := decide_eq_true (by omega)
    have ux := ln.u64 ok k
    have cm : (s.more k).c ≤ 4611686018427387904 := by show s.c + 64 * (k : Int) ≤ _; omega
    by_cases hlt : k < l.length
    · obtain ⟨y, hy, hn⟩ := (ln.more k).get k hlt
      obtain ⟨yk, yv, yb, ye, yn⟩ := y
      change yn = l.getD (k + 1) 0 at hn
      have hT : l.take k ++ [l.getD k 0] = l.take (k + 1) := by
        rw [List.take_add_one, List.getElem?_eq_getElem hlt, List.getD_eq_getElem?_getD, List.getElem?_eq_getElem hlt]; rfl
      have hg := vget_any F.h (ok.more k) cm (l.getD k 0) ux
      rw [hy, RS.more_tick] at hg
      dsimp only [verV] at hg
      obtain ⟨z, ez⟩ : ∃ z, l.getD k 0 = z := ⟨_, rfl⟩
      rw [ez] at hg hT ⊢
      have HT := Lib.hid (And.intro hT hn)
      clear hy hn ez ux hT
      go_wp2_with fail
      refine hg.mono ?_
      rintro e w1 ⟨rfl, S2, h2, k2⟩
      have F1 := F.step h2 k2
      have F2 := F1.quiet (Keep.alloc (Keep.refl (fun _ => False) w1) (.cells #[.int .i64 yk, .int .i64 yv, .int .u64 yb, .int .u64 ye, .int .u64 yn] 126))
      clear hg h2 k2 F
      go_wp2_with (with_reducible refine wp_stop 25 rfl ?_)
      intro _
      refine wp_push rfl (.tmp 22) (.tmp 24) rfl w.heap.size F2.k.1.size (.slice A k c) (l.take k) rfl F2.ow z (by show Value.slice (some ⟨w1.heap.size + 1, 0, none⟩) 1 1 = _; simp) (by omega) ?_
      intro g c' w4 o4 k4 hg
      have F3 := F2.push o4 k4 hg
      rw [lk, HT.out.1] at F3
      have cN : w4.cell? ⟨w1.heap.size, 4, none⟩ = some (.int .u64 yn) := k4.cell (by simp) (fun x => by have := (OwnU.lt F1.ow x).2; simp at this)
      clear F1 F2 o4 k4 hg
      go_wp2
      go_roundg (l.length - (k + 1))
      case measure => omega
      case rel => exact ⟨k + 1, by omega, S2, by omega, by rw [HT.out.2], F3⟩
    · obtain rfl : k = l.length := by omega
      have e0 : l.getD l.length 0 = 0 := by rw [List.getD_eq_getElem?_getD, List.getElem?_eq_none (Nat.le_refl _)]; rfl
      have hg := vget_any F.h (ok.more l.length) cm (l.getD l.length 0) ux
      rw [e0, dead_get (zero_dead _), RS.more_tick] at hg
      dsimp only [verV] at hg
      rw [e0]
      rw [List.take_length] at F
      clear e0 ux
      go_wp2_with fail
      refine hg.mono ?_
      rintro e w1 ⟨rfl, S2, h2, k2⟩
      have F2 := (F.step h2 k2).quiet (Keep.alloc (Keep.refl (fun _ => False) w1) (.cells #[.int .i64 0, .int .i64 0, .int .u64 0, .int .u64 0, .int .u64 0] 126))
      clear hg h2 k2 F
      go_wp2
      go_ret
      exact ⟨_, S2, rfl, F2⟩
/-- Where a version leads on to, if not to itself. -/
theorem cbehind (h : VAt w p S s) (ok : ROk s) (hc : s.c ≤ 2305843009213693952) (c0 : w.cell? ⟨q, 0, none⟩ = some (.pointer (some ⟨p, 0, none⟩))) (x : Int) (hx : U64 x) (y : Ver) (hy : s.get x = .tuple #[verV y, .bool true]) (z : Int) (hz : y.n = z) (hne : z ≠ x) :
    Calls Tryz.prog 38 #[.pointer (some ⟨q, 0, none⟩), .int .u64 x] w fun e w' => e = .returned (.int .u64 z) ∧ ∃ S', VAt w' p S' s.tick ∧ VKeep S S' w w' := by
  have hg := vget_any h ok (by omega) x hx
  rw [hy] at hg
  obtain ⟨yk, yv, yb, ye, yn⟩ := y
  obtain rfl : yn = z := hz
  have q0 : (yn == x) = false := by simpa using hne
  dsimp only [verV] at hg
  clear hy hne
  go_enter Tryz.func38, Tryz.ntmps38
  go_wp2_with fail
  refine hg.mono ?_
  rintro e w1 ⟨rfl, S2, h2, k2⟩
  have k3 := Keep.alloc (Keep.refl (fun _ => False) w1) (.cells #[.int .i64 yk, .int .i64 yv, .int .u64 yb, .int .u64 ye, .int .u64 yn] 126)
  have h3 := h2.keep k3 (by simp)
  have k4 : VKeep S S2 w _ := VKeep.trans k2 ⟨k3.mono (by simp), fun k hk => .inl hk⟩
  clear hg h2 k2 k3
  go_wp2
  go_ret
  exact ⟨rfl, S2, h3, k4⟩
end
end Go.Proofs.YtmfpjnlplimkeaaGreat
