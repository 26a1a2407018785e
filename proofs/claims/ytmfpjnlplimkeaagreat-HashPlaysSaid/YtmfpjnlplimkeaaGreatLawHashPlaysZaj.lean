/- Several texts, one behind the other: ChM, ChP, ChK, ChD. -/
import Derived.Test.YtmfpjnlplimkeaaGreatLawHashPlaysZai
import Derived.Test.YtmfpjnlplimkeaaGreatLawHashPlaysZag
import Derived.Test.YtmfpjnlplimkeaaGreatLawHashPlaysZad
import Derived.Deep.QuietTactic
import Derived.BigQuiet
import Derived.StillTailTactics
import Derived.Deep.RegionHeld3
/- Package chain, second part: New, Head, Links, Len, Push, Cut of any Chain over a Store and a word of an Arena; condition: 4095 links at most, the counts of accesses at most 2^61. -/
namespace Go.Proofs.YtmfpjnlplimkeaaGreat
open Go.ChangeShapes Go.WideShapes Go.ChangeAt Go.RowKit
set_option linter.unusedVariables false

/-- A Chain at block q: its Store, its Arena, and its word there. -/
structure ChAt (w : World) (q p pa at' : Nat) : Prop where
  c0 : w.cell? ⟨q, 0, none⟩ = some (.pointer (some ⟨p, 0, none⟩))
  c1 : w.cell? ⟨q, 1, none⟩ = some (.pointer (some ⟨pa, 0, none⟩))
  c2 : w.cell? ⟨q, 2, none⟩ = some (.int .i64 at')
theorem ChAt.keep {w w' : World} {q p pa at' : Nat} {T : Nat → Prop} (h : ChAt w q p pa at') (k : Keep T w w') (hq : ¬ T q) : ChAt w' q p pa at' := ⟨k.cell h.c0 hq, k.cell h.c1 hq, k.cell h.c2 hq⟩
/-- A Chain with what it stands on: a Store in state s, an Arena with the words zs, its count C at most. -/
structure CG (w : World) (p : Nat) (S : Nat → Prop) (s : RS) (pa qa : Nat) (zs : List Int) (C : Int) (q at' : Nat) : Prop where
  hv : VAt w p S s
  ok : ROk s
  ar : ∃ c, Ar w pa qa zs c ∧ 0 ≤ c ∧ c ≤ C
  ch : ChAt w q p pa at'
  lt : at' < zs.length
  n0 : ¬ S pa
  n1 : ¬ S qa
  n2 : ¬ S q
  n3 : q ≠ pa
  n4 : q ≠ qa
/-- The Store's blocks, the Arena's, and new ones have turned. -/
structure Turn (pa qa : Nat) (S S' : Nat → Prop) (w w' : World) : Prop where
  k : Keep (fun j => S j ∨ Two pa qa j) w w'
  g : ∀ k, S' k → S k ∨ w.heap.size ≤ k
section
variable {w w1 w' : World} {p pa qa q at' : Nat} {S S1 S' : Nat → Prop} {s s' : RS} {zs zs' : List Int} {C C' : Int}
theorem Turn.refl (pa qa : Nat) (S : Nat → Prop) (w : World) : Turn pa qa S S w w := ⟨Keep.refl _ _, fun k hk => .inl hk⟩
theorem Turn.trans (a : Turn pa qa S S1 w w1) (b : Turn pa qa S1 S' w1 w') : Turn pa qa S S' w w' :=
  ⟨⟨b.k.os.trans a.k.os, b.k.tape.trans a.k.tape, b.k.output.trans a.k.output, Nat.le_trans a.k.size b.k.size, fun k hk hn => (b.k.block k (Nat.lt_of_lt_of_le hk a.k.size) (fun x => by
      rcases x with x | x
      · rcases a.g k x with y | y
        · exact hn (.inl y)
        · omega
      · exact hn (.inr x))).trans (a.k.block k hk hn)⟩,
    fun k hk => by
      rcases b.g k hk with y | y
      · exact a.g k y
      · exact .inr (Nat.le_trans a.k.size y)⟩
theorem Turn.store (k : VKeep S S' w w') : Turn pa qa S S' w w' := ⟨k.1.mono (fun j hj => .inl hj), k.2⟩
theorem Turn.arena (k : Keep (Two pa qa) w w') : Turn pa qa S S w w' := ⟨k.mono (fun j hj => .inr hj), fun k hk => .inl hk⟩
theorem Turn.quiet (k : Keep (fun _ => False) w w') : Turn pa qa S S w w' := ⟨k.mono (by simp), fun k hk => .inl hk⟩
theorem CG.la (h : CG w p S s pa qa zs C q at') : pa < w.heap.size ∧ qa < w.heap.size ∧ q < w.heap.size := by
  obtain ⟨c, ha, _⟩ := h.ar
  exact ⟨ha.lt, ha.ws.lt, lt_of_cell (a := ⟨q, 0, none⟩) h.ch.c0⟩
theorem CG.keep (h : CG w p S s pa qa zs C q at') {T : Nat → Prop} (k : Keep T w w') (hS : ∀ g, S g → ¬ T g) (h0 : ¬ T pa) (h1 : ¬ T qa) (h2 : ¬ T q) : CG w' p S s pa qa zs C q at' := by
  obtain ⟨c, ha, c0, c1⟩ := h.ar
  exact ⟨h.hv.keep k hS, h.ok, ⟨c, ha.keep k h0 h1, c0, c1⟩, h.ch.keep k h2, h.lt, h.n0, h.n1, h.n2, h.n3, h.n4⟩
theorem CG.quiet (h : CG w p S s pa qa zs C q at') (k : Keep (fun _ => False) w w') : CG w' p S s pa qa zs C q at' := h.keep k (by simp) (by simp) (by simp) (by simp)
theorem CG.drew (h : CG w p S s pa qa zs C q at') : CG w.drew p S s pa qa zs C q at' := h.quiet (Keep.refl _ _).drew
/-- The Store has turned. -/
theorem CG.store (h : CG w p S s pa qa zs C q at') (hv : VAt w' p S' s') (ok : ROk s') (k : VKeep S S' w w') : CG w' p S' s' pa qa zs C q at' := by
  obtain ⟨l0, l1, l2⟩ := h.la
  obtain ⟨c, ha, c0, c1⟩ := h.ar
  have far : ∀ j, j < w.heap.size → ¬ S j → ¬ S' j := fun j hj hn x => by
    rcases k.2 j x with y | y
    · exact hn y
    · omega
  exact ⟨hv, ok, ⟨c, ha.keep k.1 h.n0 h.n1, c0, c1⟩, h.ch.keep k.1 h.n2, h.lt, far _ l0 h.n0, far _ l1 h.n1, far _ l2 h.n2, h.n3, h.n4⟩
/-- The Arena has turned. -/
theorem CG.arena (h : CG w p S s pa qa zs C q at') (ar : ∃ c, Ar w' pa qa zs' c ∧ 0 ≤ c ∧ c ≤ C') (hl : zs'.length = zs.length) (k : Keep (Two pa qa) w w') : CG w' p S s pa qa zs' C' q at' :=
  ⟨h.hv.keep k (fun g hg x => by rcases x with x | x; exact h.n0 (x ▸ hg); exact h.n1 (x ▸ hg)), h.ok, ar, h.ch.keep k (fun x => by rcases x with x | x; exact h.n3 x; exact h.n4 x), by rw [hl]; exact h.lt, h.n0, h.n1, h.n2, h.n3, h.n4⟩
theorem CG.up (h : CG w p S s pa qa zs C q at') (hC : C ≤ C') : CG w p S s pa qa zs C' q at' := by
  obtain ⟨c, ha, c0, c1⟩ := h.ar
  exact ⟨h.hv, h.ok, ⟨c, ha, c0, by omega⟩, h.ch, h.lt, h.n0, h.n1, h.n2, h.n3, h.n4⟩
theorem CG.more (h : CG w p S s pa qa zs C q at') (n : Nat) : CG w p S (s.more n) pa qa zs C q at' :=
  ⟨h.hv.up rfl rfl (by show s.c ≤ s.c + 64 * (n : Int); omega), h.ok.more n, h.ar, h.ch, h.lt, h.n0, h.n1, h.n2, h.n3, h.n4⟩
set_option maxRecDepth 100000 in
/-- The first link. -/
theorem chead (h : CG w p S s pa qa zs C q at') (hC : C ≤ 4611686018427387904) (x : Int) (hx : zs.getD at' 0 = x) :
    Calls Tryz.prog 12 #[.pointer (some ⟨q, 0, none⟩)] w fun e w' => e = .returned (.int .u64 x) ∧ CG w' p S s pa qa zs (C + 1) q at' ∧ Keep (Two pa qa) w w' := by
  have e1 := h.ch.c1
  have e2 := h.ch.c2
  have kd := (Keep.refl (fun _ => False) w).drew
  have hd := h.drew
  obtain ⟨c, ha, c0, c1⟩ := hd.ar
  have hl := load_to at' x (c + 1) ha h.lt c0 (by omega) hx rfl
  go_enter Tryz.func12, Tryz.ntmps12
  go_wp2_with fail
  go_still_tail 8, (by kernel_rfl)
  change wpList _ _ _ _ _ w.drew
  go_wp2_with fail
  refine hl.mono ?_
  rintro e w1 ⟨rfl, h1, k1⟩
  go_wp2
  go_ret
  exact ⟨rfl, hd.arena ⟨_, h1, by omega, by omega⟩ rfl k1, (kd.mono (by simp)).trans k1⟩
/-- All links. -/
theorem clinks (h : CG w p S s pa qa zs C q at') (hC : C ≤ 4611686018427387904) (hc : s.c ≤ 2305843009213693952) {l : List Int} (ln : Linked s l) (hl : l.length ≤ 4095) (hz : zs.getD at' 0 = l.headD 0) :
    Calls Tryz.prog 36 #[.pointer (some ⟨q, 0, none⟩)] w fun e w' => ∃ v S', e = .returned v ∧ OwnU w.heap.size w' v l ∧ (∀ g, v.ownBlock = some g → ¬ S' g) ∧ CG w' p S' (s.more (l.length + 1)) pa qa zs (C + 1) q at' ∧ Turn pa qa S S' w w' := by
  obtain ⟨x, ex⟩ : ∃ x, l.headD 0 = x := ⟨_, rfl⟩
  rw [ex] at hz
  have hh := chead h hC x hz
  clear hz
  go_enter Tryz.func36, Tryz.ntmps36
  go_wp2_with fail
  refine hh.mono ?_
  rintro e w1 ⟨rfl, h1, k1⟩
  have hf := cfrom_any h1.hv h1.ok hc ln hl h1.ch.c0 h1.n2 x ex
  clear hh ex
  go_wp2_with fail
  refine hf.mono ?_
  rintro e w2 ⟨v, S2, rfl, f⟩
  clear hf
  go_wp2
  go_ret
  exact ⟨v, S2, rfl, OwnU.lower f.ow k1.size, f.dv, h1.store f.h (h1.ok.more _) f.k, (Turn.arena k1).trans (Turn.store f.k)⟩
theorem clen (h : CG w p S s pa qa zs C q at') (hC : C ≤ 4611686018427387904) (hc : s.c ≤ 2305843009213693952) {l : List Int} (ln : Linked s l) (hl : l.length ≤ 4095) (hz : zs.getD at' 0 = l.headD 0) :
    Calls Tryz.prog 14 #[.pointer (some ⟨q, 0, none⟩)] w fun e w' => ∃ S', e = .returned (.int .i64 (l.length : Int)) ∧ CG w' p S' (s.more (l.length + 1)) pa qa zs (C + 1) q at' ∧ Turn pa qa S S' w w' := by
  have hh := clinks h hC hc ln hl hz
  clear hz
  go_enter Tryz.func14, Tryz.ntmps14
  go_wp2_with fail
  refine hh.mono ?_
  rintro e w1 ⟨v, S1, rfl, o, _, h1, k1⟩
  obtain ⟨A, c, rfl⟩ : ∃ A c, v = Value.slice A l.length c := by
    rcases OwnU.shape o with ⟨h1, h2⟩ | ⟨g, c, h1, _⟩
    · exact ⟨none, 0, by rw [h1, h2]; rfl⟩
    · exact ⟨_, c, h1⟩
  clear hh o
  go_wp2
  go_ret
  exact ⟨S1, rfl, h1, k1⟩
theorem cnew_no (x y : Option Addr) (i : Int) (w : World) (h : x = none ∨ y = none) : Calls Tryz.prog 44 #[.pointer x, .pointer y, .int .i64 i] w fun e w' => e = .returned (.tuple #[.pointer none, .int .i64 1]) ∧ w = w' := by
  cases x with
  | none =>
    go_enter Tryz.func44, Tryz.ntmps44
    go_wp2
    go_ret2
    exact ⟨rfl, rfl⟩
  | some x =>
    obtain rfl : y = none := by simpa using h
    go_enter Tryz.func44, Tryz.ntmps44
    go_wp2
    go_ret2
    exact ⟨rfl, rfl⟩
theorem cnew_ok (hv : VAt w p S s) (ok : ROk s) {c : Int} (ha : Ar w pa qa zs c) (c0 : 0 ≤ c) (c1 : c ≤ C) (hi : at' < zs.length) (n0 : ¬ S pa) (n1 : ¬ S qa) :
    Calls Tryz.prog 44 #[.pointer (some ⟨p, 0, none⟩), .pointer (some ⟨pa, 0, none⟩), .int .i64 at'] w fun e w' => ∃ q, e = .returned (.tuple #[.pointer (some ⟨q, 0, none⟩), .int .i64 0]) ∧ CG w' p S s pa qa zs C q at' ∧ w.heap.size ≤ q ∧ Keep (fun _ => False) w w' := by
  have hn := len_any pa qa zs c w ha
  have hl := ha.len
  go_enter Tryz.func44, Tryz.ntmps44
  go_wp2_with (go_at_call 60; refine (len_any pa qa zs c _ ha).mono ?_; rintro e w' ⟨rfl, rfl⟩)
  go_ret2
  have k := Keep.alloc (Keep.refl (fun _ => False) w) (.cells #[.pointer (some ⟨p, 0, none⟩), .pointer (some ⟨pa, 0, none⟩), .int .i64 at'] 92)
  have l0 := ha.lt
  have l1 := ha.ws.lt
  refine ⟨_, rfl, ⟨hv.keep k (by simp), ok, ⟨c, ha.keep k (by simp) (by simp), c0, c1⟩, ⟨by simp, by simp, by simp⟩, hi, n0, n1, fun x => ?_, by omega, by omega⟩, Nat.le_refl _, k⟩
  have := hv.lt _ x
  omega
end
end Go.Proofs.YtmfpjnlplimkeaaGreat
/- Package chain, third part: Push and Cut of any Chain over a Store and a word of an Arena; condition: 4095 links at most, the counts of accesses at most 2^61. -/
namespace Go.Proofs.YtmfpjnlplimkeaaGreat
open Go.ChangeShapes Go.WideShapes Go.ChangeAt Go.RowKit
set_option linter.unusedVariables false

section
variable {w w1 w' : World} {p pa qa q at' : Nat} {S S1 S' : Nat → Prop} {s s' : RS} {zs zs' : List Int} {C C' : Int} {l : List Int}
theorem ccas (h : CG w p S s pa qa zs C q at') (hC : C ≤ 4611686018427387904) (o x : Int) (hx : U64 x) (ho : zs.getD at' 0 = o) :
    Calls Tryz.prog 34 #[.pointer (some ⟨pa, 0, none⟩), .int .i64 at', .int .u64 o, .int .u64 x] w fun e w' => e = .returned (.bool true) ∧ CG w' p S s pa qa (zs.set at' x) (C + 1) q at' ∧ Keep (Two pa qa) w w' := by
  obtain ⟨c, ha, c0, c1⟩ := h.ar
  refine (cas_hit pa qa zs c at' o x w ha h.lt c0 (by omega) hx.1 hx.2 ho).mono ?_
  rintro e w1 ⟨rfl, h1, k1⟩
  exact ⟨rfl, h.arena ⟨_, h1, by omega, by omega⟩ (by simp) k1, k1⟩
theorem cnext (h : CG w p S s pa qa zs C q at') (hc : s.c ≤ 4611686018427387904) (x t : Int) (hx : U64 x) (ht : U64 t) (f : Int) (s' : RS) (hs : s.next x t = (f, s')) :
    Calls Tryz.prog 33 #[.pointer (some ⟨p, 0, none⟩), .int .u64 x, .int .u64 t] w fun e w' => e = .returned (.int .i64 f) ∧ ∃ S', CG w' p S' s' pa qa zs C q at' ∧ Turn pa qa S S' w w' := by
  have ok := rOk_next h.ok x t ht
  refine (vnext_any h.hv h.ok hc x t hx ht).mono ?_
  rw [hs] at ok ⊢
  rintro e w1 ⟨rfl, S1, h1, k1, g1⟩
  exact ⟨rfl, S1, h.store h1 ok ⟨k1, g1⟩, Turn.store ⟨k1, g1⟩⟩
theorem cfrom (h : CG w p S s pa qa zs C q at') (hc : s.c ≤ 2305843009213693952) (ln : Linked s l) (hl : l.length ≤ 4095) (x : Int) (hx : l.headD 0 = x) :
    Calls Tryz.prog 32 #[.pointer (some ⟨q, 0, none⟩), .int .u64 x] w fun e w' => ∃ v S', e = .returned v ∧ OwnU w.heap.size w' v l ∧ CG w' p S' (s.more (l.length + 1)) pa qa zs C q at' ∧ Turn pa qa S S' w w' := by
  refine (cfrom_any h.hv h.ok hc ln hl h.ch.c0 h.n2 x hx).mono ?_
  rintro e w1 ⟨v, S1, rfl, f⟩
  exact ⟨v, S1, rfl, f.ow, h.store f.h (h.ok.more _) f.k, Turn.store f.k⟩
theorem head_u64 (ln : Linked s l) (ok : ROk s) : U64 (l.headD 0) := by
  have := ln.u64 ok 0
  cases l <;> exact this
set_option maxRecDepth 100000 in
/-- What stands there is not put there. -/
theorem cpush_in (h : CG w p S s pa qa zs C q at') (hC : C ≤ 2305843009213693952) (hc : s.c ≤ 2305843009213693952) (ln : Linked s l) (hl : l.length ≤ 4095) (hz : zs.getD at' 0 = l.headD 0) (x : Int) (hx : x ∈ l) :
    Calls Tryz.prog 9 #[.pointer (some ⟨q, 0, none⟩), .int .u64 x] w fun e w' => e = .returned (.bool false) ∧ ∃ S', CG w' p S' (s.more (l.length + 1)) pa qa zs (C + 1) q at' ∧ Turn pa qa S S' w w' := by
  obtain ⟨y, ey⟩ : ∃ y, l.headD 0 = y := ⟨_, rfl⟩
  rw [ey] at hz
  have hh := chead h (by omega) y hz
  clear hz
  go_enter Tryz.func9, Tryz.ntmps9
  go_wp2
  go_loopw [5] (fun i wr => w = wr) (fun _ _ => 0)
  case atStart => exact rfl
  case round =>
    obtain rfl := hrel
    go_wp2_with fail
    refine hh.mono ?_
    rintro e w1 ⟨rfl, h1, k1⟩
    have hf := cfrom h1 hc ln hl y ey
    clear hh ey
    go_wp2_with fail
    refine hf.mono ?_
    rintro e w2 ⟨v, S2, rfl, o, h2, t2⟩
    clear hf
    go_wp2_with fail
    refine (contains_yes o (by omega) x hx).mono ?_
    rintro e w' ⟨rfl, rfl⟩
    clear o hx
    go_wp2
    go_ret
    exact ⟨rfl, S2, h2, (Turn.arena k1).trans t2⟩
set_option maxRecDepth 100000 in
/-- What does not live is not put there. -/
theorem cpush_dead (h : CG w p S s pa qa zs C q at') (hC : C ≤ 2305843009213693952) (hc : s.c ≤ 2305843009213693952) (ln : Linked s l) (hl : l.length ≤ 4095) (hz : zs.getD at' 0 = l.headD 0) (x : Int) (ux : U64 x) (hx : s.s.live x = false) :
    Calls Tryz.prog 9 #[.pointer (some ⟨q, 0, none⟩), .int .u64 x] w fun e w' => e = .returned (.bool false) ∧ ∃ S', CG w' p S' (s.more (l.length + 2)) pa qa zs (C + 1) q at' ∧ Turn pa qa S S' w w' := by
  have hn : x ∉ l := fun hm => by have := ln.live x hm; rw [hx] at this; cases this
  have uy := head_u64 ln h.ok
  obtain ⟨y, ey⟩ : ∃ y, l.headD 0 = y := ⟨_, rfl⟩
  rw [ey] at hz uy
  have hh := chead h (by omega) y hz
  clear hz
  go_enter Tryz.func9, Tryz.ntmps9
  go_wp2
  go_loopw [5] (fun i wr => w = wr) (fun _ _ => 0)
  case atStart => exact rfl
  case round =>
    obtain rfl := hrel
    go_wp2_with fail
    refine hh.mono ?_
    rintro e w1 ⟨rfl, h1, k1⟩
    have hf := cfrom h1 hc ln hl y ey
    clear hh ey
    go_wp2_with fail
    refine hf.mono ?_
    rintro e w2 ⟨v, S2, rfl, o, h2, t2⟩
    clear hf
    go_wp2_with fail
    refine (contains_no o (by omega) x hn).mono ?_
    rintro e w' ⟨rfl, rfl⟩
    have e0 := h2.ch.c0
    have hnx := cnext h2 (by show s.c + 64 * ((l.length + 1 : Nat) : Int) ≤ _; omega) x y ux uy 8 (s.more (l.length + 2)) (by rw [dead_next (by exact hx), RS.more_tick])
    clear o hn hx
    go_wp2_with fail
    refine hnx.mono ?_
    rintro e w3 ⟨rfl, S3, h3, t3⟩
    clear hnx e0
    go_wp2
    go_ret
    exact ⟨rfl, S3, h3, ((Turn.arena k1).trans t2).trans t3⟩
set_option maxRecDepth 100000 in
/-- A version that lives, and does not stand there, is put ahead of the others. -/
theorem cpush_ok (h : CG w p S s pa qa zs C q at') (hC : C ≤ 2305843009213693952) (hc : s.c ≤ 2305843009213693952) (ln : Linked s l) (hl : l.length ≤ 4095) (hz : zs.getD at' 0 = l.headD 0) (x : Int) (hx : s.s.live x = true) (hn : x ∉ l) :
    Calls Tryz.prog 9 #[.pointer (some ⟨q, 0, none⟩), .int .u64 x] w fun e w' => e = .returned (.bool true) ∧ ∃ S', CG w' p S' ((s.more (l.length + 1)).put (slotOf x) { s.ver (slotOf x) with n := l.headD 0 }) pa qa (zs.set at' x) (C + 2) q at' ∧ Turn pa qa S S' w w' := by
  have ux : U64 x := by
    obtain ⟨h1, _, h2⟩ := slot_live hx
    have := link_b h.ok.p _ h1
    rw [← h2] at this
    exact ⟨by omega, by omega⟩
  have uy := head_u64 ln h.ok
  obtain ⟨y, ey⟩ : ∃ y, l.headD 0 = y := ⟨_, rfl⟩
  rw [ey] at hz uy ⊢
  have hh := chead h (by omega) y hz
  go_enter Tryz.func9, Tryz.ntmps9
  go_wp2
  go_loopw [5] (fun i wr => w = wr) (fun _ _ => 0)
  case atStart => exact rfl
  case round =>
    obtain rfl := hrel
    go_wp2_with fail
    refine hh.mono ?_
    rintro e w1 ⟨rfl, h1, k1⟩
    have hf := cfrom h1 hc ln hl y ey
    clear hh ey
    go_wp2_with fail
    refine hf.mono ?_
    rintro e w2 ⟨v, S2, rfl, o, h2, t2⟩
    clear hf
    go_wp2_with fail
    refine (contains_no o (by omega) x hn).mono ?_
    rintro e w' ⟨rfl, rfl⟩
    have e0 := h2.ch.c0
    have hnx := cnext h2 (by show s.c + 64 * ((l.length + 1 : Nat) : Int) ≤ _; omega) x y ux uy 0 ((s.more (l.length + 1)).put (slotOf x) { s.ver (slotOf x) with n := y }) (by unfold RS.next; rw [if_pos (by exact hx)]; rfl)
    clear o hn hx
    go_wp2_with fail
    refine hnx.mono ?_
    rintro e w3 ⟨rfl, S3, h3, t3⟩
    clear hnx e0
    have e1 := h3.ch.c1
    have e2 := h3.ch.c2
    have kd := (Keep.refl (fun _ => False) w3).drew
    have hd := h3.drew
    have hcs := ccas hd (by omega) y x ux hz
    clear hz
    go_wp2_with fail
    go_still_tail 10, (by kernel_rfl)
    change wpList _ _ _ _ _ w3.drew
    go_wp2_with fail
    refine hcs.mono ?_
    rintro e w4 ⟨rfl, h4, k4⟩
    clear hcs
    go_wp2
    go_ret
    exact ⟨rfl, S3, h4.up (by omega), (((Turn.arena k1).trans t2).trans t3).trans ((Turn.quiet kd).trans (Turn.arena k4))⟩
end
end Go.Proofs.YtmfpjnlplimkeaaGreat
/- Package chain, fourth part: Cut of any Chain over a Store and a word of an Arena: what stands nowhere, what stands first, what stands behind another one; condition: 4095 links at most, the counts of accesses at most 2^61. -/
namespace Go.Proofs.YtmfpjnlplimkeaaGreat
open Go.ChangeShapes Go.WideShapes Go.ChangeAt Go.RowKit
set_option linter.unusedVariables false

def CutR (w : World) (p : Nat) (S : Nat → Prop) (pa qa q at' : Nat) (s2 : RS) (zs2 : List Int) (C2 : Int) (m : Nat) (dv : Value) (wr : World) : Prop :=
  (m = 1 ∧ dv = .bool false ∧ w = wr) ∨ (m = 0 ∧ dv = .bool true ∧ ∃ S', CG wr p S' s2 pa qa zs2 C2 q at' ∧ Turn pa qa S S' w wr)
section
variable {w w1 w' : World} {p pa qa q at' : Nat} {S S1 S' : Nat → Prop} {s s' : RS} {zs zs' : List Int} {C C' : Int} {l : List Int}
theorem cbeh (h : CG w p S s pa qa zs C q at') (hc : s.c ≤ 2305843009213693952) (x : Int) (hx : U64 x) (y : Ver) (hy : s.get x = .tuple #[verV y, .bool true]) (z : Int) (hz : y.n = z) (hne : z ≠ x) :
    Calls Tryz.prog 38 #[.pointer (some ⟨q, 0, none⟩), .int .u64 x] w fun e w' => e = .returned (.int .u64 z) ∧ ∃ S', CG w' p S' s.tick pa qa zs C q at' ∧ VKeep S S' w w' := by
  refine (cbehind h.hv h.ok hc h.ch.c0 x hx y hy z hz hne).mono ?_
  rintro e w1 ⟨rfl, S1, h1, k1⟩
  exact ⟨rfl, S1, h.store h1 h.ok.tick k1, k1⟩
theorem slice_form {B : Nat} {w : World} {v : Value} (o : OwnU B w v l) : ∃ A c, v = Value.slice A l.length c := by
  rcases OwnU.shape o with ⟨h1, h2⟩ | ⟨g, c, h1, _⟩
  · exact ⟨none, 0, by rw [h1, h2]; rfl⟩
  · exact ⟨_, c, h1⟩
set_option maxRecDepth 100000 in
/-- What does not stand there is not cut. -/
theorem ccut_no (h : CG w p S s pa qa zs C q at') (hC : C ≤ 2305843009213693952) (hc : s.c ≤ 2305843009213693952) (ln : Linked s l) (hl : l.length ≤ 4095) (hz : zs.getD at' 0 = l.headD 0) (x : Int) (hx : x ∉ l) :
    Calls Tryz.prog 11 #[.pointer (some ⟨q, 0, none⟩), .int .u64 x] w fun e w' => e = .returned (.bool false) ∧ ∃ S', CG w' p S' (s.more (l.length + 1)) pa qa zs (C + 1) q at' ∧ Turn pa qa S S' w w' := by
  have hh := clinks h (by omega) hc ln hl hz
  go_enter Tryz.func11, Tryz.ntmps11
  go_wp2
  go_loopw [5] (fun i wr => i = .bool false ∧ w = wr) (fun _ _ => 0)
  case atStart => exact ⟨rfl, rfl⟩
  case round =>
    obtain ⟨rfl, rfl⟩ := hrel
    go_wp2_with fail
    refine hh.mono ?_
    rintro e w1 ⟨v, S1, rfl, o, _, h1, t1⟩
    have hi := index_loop o (by omega) x _ (.inl ⟨hx, rfl⟩)
    clear hh hx o
    go_wp2_with fail
    refine hi.mono ?_
    rintro e w' ⟨rfl, rfl⟩
    clear hi
    go_wp2
    go_ret
    exact ⟨rfl, S1, h1, t1⟩
set_option maxRecDepth 100000 in
set_option maxHeartbeats 4000000 in
/-- The first one is cut. -/
theorem ccut_first (h : CG w p S s pa qa zs C q at') (hC : C ≤ 2305843009213693952) (hc : s.c ≤ 1152921504606846976) (x : Int) (ln : Linked s (x :: l)) (hl : l.length ≤ 4094) (hz : zs.getD at' 0 = x) :
    Calls Tryz.prog 11 #[.pointer (some ⟨q, 0, none⟩), .int .u64 x] w fun e w' => e = .returned (.bool true) ∧ ∃ S', CG w' p S' (s.more (2 * l.length + 4)) pa qa (zs.set at' (l.headD 0)) (C + 3) q at' ∧ Turn pa qa S S' w w' := by
  have ux := (ln.pos h.ok (List.mem_cons_self ..)).1
  have x0 := (ln.pos h.ok (List.mem_cons_self ..)).2
  have nd := List.nodup_cons.1 ln.nd
  have ln2 := ln.cut_first
  have uz := head_u64 ln2 h.ok
  have hzx : l.headD 0 ≠ x := by
    cases l with
    | nil => exact fun e => x0 e.symm
    | cons a t => exact fun e => nd.1 (by rw [show a = x from e]; exact List.mem_cons_self ..)
  have e1 : (x :: l).getD 1 0 = l.headD 0 := by cases l <;> rfl
  have hh := clinks h (by omega) (by omega) ln (by simp; omega) hz
  obtain ⟨z, ez⟩ : ∃ z, l.headD 0 = z := ⟨_, rfl⟩
  obtain ⟨s1, es1⟩ : ∃ s1, s.more (l.length + 2) = s1 := ⟨_, rfl⟩
  have c1 : s1.c ≤ 1152921504606846976 + 300000 := by rw [← es1]; show s.c + 64 * ((l.length + 2 : Nat) : Int) ≤ _; omega
  obtain ⟨y, hy, hyn⟩ := ln.get 0 (by simp)
  rw [Nat.zero_add, e1] at hyn
  have hy : s1.get x = .tuple #[verV y, .bool true] := by rw [← es1]; exact hy
  rw [ez] at hyn hzx uz ⊢
  have ln1 : Linked s1 l := by rw [← es1]; exact ln2.more _
  have ln3 : Linked s1.tick l := ln1.tick
  have est : s.more ((x :: l).length + 1) = s1 := by rw [← es1]; rfl
  have esf : s1.tick.more (l.length + 1) = s.more (2 * l.length + 4) := by
    rw [← es1]; unfold RS.more RS.tick; simp only [RS.mk.injEq, true_and]; omega
  have hz2 : (zs.set at' z).getD at' 0 = l.headD 0 := by rw [getD_setI _ _ _ _ h.lt, if_pos rfl, ez]
  rw [est] at hh
  have hn2 := nd.1
  clear ln ln2 est es1 nd x0 e1
  have Z2 := Lib.hid hz2
  have EF := Lib.hid esf
  have ZX := Lib.hid hzx
  clear hz2 ez esf hzx
  go_enter Tryz.func11, Tryz.ntmps11
  go_wp2
  go_loopg [5] 1 (fun m dv wr => CutR w p S pa qa q at' s1.tick (zs.set at' z) (C + 2) m dv wr)
  case atStart => exact .inl ⟨rfl, rfl, rfl⟩
  case round =>
    rcases hrel with ⟨rfl, rfl, rfl⟩ | ⟨rfl, rfl, S2, h2, t2⟩
    · go_wp2_with fail
      refine hh.mono ?_
      rintro e w1 ⟨v, S1, rfl, o, _, h1, t1⟩
      have hi := index_loop o (by simp; omega) x 0 (.inr ⟨0, ⟨by simp, by simp, fun m hm => absurd hm (Nat.not_lt_zero m)⟩, rfl⟩)
      clear hh o
      go_wp2_with fail
      refine hi.mono ?_
      rintro e w' ⟨rfl, rfl⟩
      clear hi
      have i1 := h1.ch.c1
      have i2 := h1.ch.c2
      go_wp2_with fail
      refine wp_region_held_drew (S := (fun w' => w'.cell? ⟨q, 1, none⟩ = some (.pointer (some ⟨pa, 0, none⟩)) ∧ w'.cell? ⟨q, 2, none⟩ = some (.int .i64 at'))) (by kernel_rfl) ⟨i1, i2⟩ (fun hHeld => ?_)
      have kd := (Keep.refl (fun _ => False) w1).drew
      have hd := h1.drew
      clear i1 i2
      refine wpAnyH_take (i := 0) (v := ?qvu49) rfl (by kernel_rfl) (by kernel_rfl) (by kernel_rfl) (fun _ _ _ h => h) (Or.inl ⟨by rfl, ?qyu49⟩) (by assumption) ?qru49; case qyu49 => ((intro w hSw; (try dsimp only at hSw); go_simp); try (with_reducible rfl))
      ((try simp only [List.getElem_toArray]); (try simp only [List.getElem_cons_succ]); (try simp only [List.getElem_cons_zero]); (try simp only [Act.put]); (try simp only [List.setIfInBounds_toArray]); (try simp only [List.set_cons_succ]); (try simp only [List.set_cons_zero]))
      refine wpAnyH_take (i := 1) (v := ?qvu50) rfl (by kernel_rfl) (by kernel_rfl) (by kernel_rfl) (fun _ _ _ h => h) (Or.inl ⟨by rfl, ?qyu50⟩) (by assumption) ?qru50; case qyu50 => ((intro w hSw; (try dsimp only at hSw); go_simp); try (with_reducible rfl))
      ((try simp only [List.getElem_toArray]); (try simp only [List.getElem_cons_succ]); (try simp only [List.getElem_cons_zero]); (try simp only [Act.put]); (try simp only [List.setIfInBounds_toArray]); (try simp only [List.set_cons_succ]); (try simp only [List.set_cons_zero]))
      refine wpAnyH_take (i := 2) (v := ?qvu51) rfl (by kernel_rfl) (by kernel_rfl) (by kernel_rfl) (fun _ _ _ h => h) (Or.inl ⟨by rfl, ?qyu51⟩) (by assumption) ?qru51; case qyu51 => ((intro w hSw; (try dsimp only at hSw); go_simp); try (with_reducible rfl))
      ((try simp only [List.getElem_toArray]); (try simp only [List.getElem_cons_succ]); (try simp only [List.getElem_cons_zero]); (try simp only [Act.put]); (try simp only [List.setIfInBounds_toArray]); (try simp only [List.set_cons_succ]); (try simp only [List.set_cons_zero]))
      refine wpAnyH_take (i := 3) (v := ?qvu52) rfl (by kernel_rfl) (by kernel_rfl) (by kernel_rfl) (fun _ _ _ h => h) (Or.inl ⟨by rfl, ?qyu52⟩) (by assumption) ?qru52; case qyu52 => ((intro w hSw; (try dsimp only at hSw); go_simp); try (with_reducible rfl))
      ((try simp only [List.getElem_toArray]); (try simp only [List.getElem_cons_succ]); (try simp only [List.getElem_cons_zero]); (try simp only [Act.put]); (try simp only [List.setIfInBounds_toArray]); (try simp only [List.set_cons_succ]); (try simp only [List.set_cons_zero]))
      refine wpAnyH_take (i := 4) (v := ?qvu53) rfl (by kernel_rfl) (by kernel_rfl) (by kernel_rfl) (fun _ _ _ h => h) (Or.inl ⟨by rfl, ?qyu53⟩) (by assumption) ?qru53; case qyu53 => ((intro w hSw; (try dsimp only at hSw); go_simp); try (with_reducible rfl))
      ((try simp only [List.getElem_toArray]); (try simp only [List.getElem_cons_succ]); (try simp only [List.getElem_cons_zero]); (try simp only [Act.put]); (try simp only [List.setIfInBounds_toArray]); (try simp only [List.set_cons_succ]); (try simp only [List.set_cons_zero]))
      refine wpAnyH_take (i := 5) (v := ?qvu54) rfl (by kernel_rfl) (by kernel_rfl) (by kernel_rfl) (fun _ _ _ h => h) (Or.inl ⟨by rfl, ?qyu54⟩) (by assumption) ?qru54; case qyu54 => ((intro w hSw; (try dsimp only at hSw); go_simp); try (with_reducible rfl))
      ((try simp only [List.getElem_toArray]); (try simp only [List.getElem_cons_succ]); (try simp only [List.getElem_cons_zero]); (try simp only [Act.put]); (try simp only [List.setIfInBounds_toArray]); (try simp only [List.set_cons_succ]); (try simp only [List.set_cons_zero]))
      refine wpAnyH_take (i := 6) (v := ?qvu55) rfl (by kernel_rfl) (by kernel_rfl) (by kernel_rfl) (fun _ _ _ h => h) (Or.inl ⟨by rfl, ?qyu55⟩) (by assumption) ?qru55; case qyu55 => ((intro w hSw; (try dsimp only at hSw); go_simp); try (with_reducible rfl))
      ((try simp only [List.getElem_toArray]); (try simp only [List.getElem_cons_succ]); (try simp only [List.getElem_cons_zero]); (try simp only [Act.put]); (try simp only [List.setIfInBounds_toArray]); (try simp only [List.set_cons_succ]); (try simp only [List.set_cons_zero]))
      refine wpAnyH_take (i := 7) (v := ?qvu56) rfl (by kernel_rfl) (by kernel_rfl) (by kernel_rfl) (fun _ _ _ h => h) (Or.inl ⟨by rfl, ?qyu56⟩) (by assumption) ?qru56; case qyu56 => ((intro w hSw; (try dsimp only at hSw); go_simp); try (with_reducible rfl))
      ((try simp only [List.getElem_toArray]); (try simp only [List.getElem_cons_succ]); (try simp only [List.getElem_cons_zero]); (try simp only [Act.put]); (try simp only [List.setIfInBounds_toArray]); (try simp only [List.set_cons_succ]); (try simp only [List.set_cons_zero]))
      refine wpAnyH_take (i := 8) (v := ?qvu57) rfl (by kernel_rfl) (by kernel_rfl) (by kernel_rfl) (fun _ _ _ h => h) (Or.inl ⟨by rfl, ?qyu57⟩) (by assumption) ?qru57; case qyu57 => ((intro w hSw; (try dsimp only at hSw); go_simp); try (with_reducible rfl))
      ((try simp only [List.getElem_toArray]); (try simp only [List.getElem_cons_succ]); (try simp only [List.getElem_cons_zero]); (try simp only [Act.put]); (try simp only [List.setIfInBounds_toArray]); (try simp only [List.set_cons_succ]); (try simp only [List.set_cons_zero]))
      refine wpAnyH_take (i := 9) (v := ?qvu58) rfl (by kernel_rfl) (by kernel_rfl) (by kernel_rfl) (fun _ _ _ h => h) (Or.inl ⟨by rfl, ?qyu58⟩) (by assumption) ?qru58; case qyu58 => ((intro w hSw; (try dsimp only at hSw); go_simp); try (with_reducible rfl))
      ((try simp only [List.getElem_toArray]); (try simp only [List.getElem_cons_succ]); (try simp only [List.getElem_cons_zero]); (try simp only [Act.put]); (try simp only [List.setIfInBounds_toArray]); (try simp only [List.set_cons_succ]); (try simp only [List.set_cons_zero]))
      refine wpAnyH_take (i := 10) (v := ?qvu59) rfl (by kernel_rfl) (by kernel_rfl) (by kernel_rfl) (fun _ _ _ h => h) (Or.inl ⟨by rfl, ?qyu59⟩) (by assumption) ?qru59; case qyu59 => ((intro w hSw; (try dsimp only at hSw); go_simp); try (with_reducible rfl))
      ((try simp only [List.getElem_toArray]); (try simp only [List.getElem_cons_succ]); (try simp only [List.getElem_cons_zero]); (try simp only [Act.put]); (try simp only [List.setIfInBounds_toArray]); (try simp only [List.set_cons_succ]); (try simp only [List.set_cons_zero]))
      refine wpAnyH_ready (rs := [11]) (by kernel_rfl) (by simp) ?_
      refine AllReadyH.cons rfl (fun K hK => ?_) AllReadyH.nil
      go_simp
      refine (cbeh hd (by omega) x ux y hy z hyn ZX.out).mono ?_
      rintro e y1 ⟨rfl, S3, h3, k3⟩
      refine hK.out _ _ ⟨h3.ch.c1, h3.ch.c2⟩ (fun hHeld => ?_)
      clear hK K
      ((try simp only [List.getElem_toArray]); (try simp only [List.getElem_cons_succ]); (try simp only [List.getElem_cons_zero]); (try simp only [Act.put]); (try simp only [List.setIfInBounds_toArray]); (try simp only [List.set_cons_succ]); (try simp only [List.set_cons_zero]))
      refine wpAnyH_ready (rs := [12]) (by kernel_rfl) (by simp) ?_
      refine AllReadyH.cons rfl (fun K hK => ?_) AllReadyH.nil
      go_simp
      refine (ccas h3 (by omega) x z uz hz).mono ?_
      rintro e y2 ⟨rfl, h4, k4⟩
      have t4 := (t1.trans (Turn.quiet kd)).trans ((Turn.store k3).trans (Turn.arena k4))
      refine hK.out _ _ ⟨h4.ch.c1, h4.ch.c2⟩ (fun hHeld => ?_)
      clear hK K
      ((try simp only [List.getElem_toArray]); (try simp only [List.getElem_cons_succ]); (try simp only [List.getElem_cons_zero]); (try simp only [Act.put]); (try simp only [List.setIfInBounds_toArray]); (try simp only [List.set_cons_succ]); (try simp only [List.set_cons_zero]))
      refine wpAnyH_take (i := 13) (v := ?qvu60) rfl (by kernel_rfl) (by kernel_rfl) (by kernel_rfl) (fun _ _ _ h => h) (Or.inl ⟨by rfl, ?qyu60⟩) (by assumption) ?qru60; case qyu60 => ((intro w hSw; (try dsimp only at hSw); go_simp); try (with_reducible rfl))
      ((try simp only [List.getElem_toArray]); (try simp only [List.getElem_cons_succ]); (try simp only [List.getElem_cons_zero]); (try simp only [Act.put]); (try simp only [List.setIfInBounds_toArray]); (try simp only [List.set_cons_succ]); (try simp only [List.set_cons_zero]))
      refine wpAnyH_done (by kernel_rfl) ?_ _
      go_wp2
      go_roundg 0
      (case measure => omega)
      (case rel => exact .inr ⟨rfl, rfl, S3, h4.up (by omega), t4⟩)
    · have hk := clinks h2 (by omega) (by show s1.c + 64 ≤ _; omega) ln3 (by omega) Z2.out
      rw [EF.out] at hk
      clear hh hy hyn
      go_wp2_with fail
      refine hk.mono ?_
      rintro e w1 ⟨v, S3, rfl, o, _, h3, t3⟩
      have hi := index_loop o (by omega) x _ (.inl ⟨hn2, rfl⟩)
      clear hk o hn2
      go_wp2_with fail
      refine hi.mono ?_
      rintro e w' ⟨rfl, rfl⟩
      clear hi
      go_wp2
      go_ret
      exact ⟨rfl, S3, h3.up (by omega), t2.trans t3⟩
set_option maxRecDepth 100000 in
set_option maxHeartbeats 4000000 in
/-- One that stands behind another one is cut. -/
theorem ccut_mid (h : CG w p S s pa qa zs C q at') (hC : C ≤ 2305843009213693952) (hc : s.c ≤ 1152921504606846976) (ln : Linked s l) (hl : l.length ≤ 4095) (hz : zs.getD at' 0 = l.headD 0) (x : Int) (j : Nat) (hj : j + 1 < l.length) (hx : l.getD (j + 1) 0 = x) (b : Int) (hb : l.getD j 0 = b) (s1 s2 : RS) (e1 : s.more (l.length + 2) = s1) (e2 : s1.put (slotOf b) { s1.ver (slotOf b) with n := l.getD (j + 2) 0 } = s2) :
    Calls Tryz.prog 11 #[.pointer (some ⟨q, 0, none⟩), .int .u64 x] w fun e w' => e = .returned (.bool true) ∧ ∃ S', CG w' p S' (s2.more (l.length)) pa qa zs (C + 2) q at' ∧ Turn pa qa S S' w w' := by
  have hxm : x ∈ l := by rw [← hx]; exact getD_mem hj
  have hbm : b ∈ l := by rw [← hb]; exact getD_mem (by omega)
  have ux := (ln.pos h.ok hxm).1
  have ub := (ln.pos h.ok hbm).1
  have x0 := (ln.pos h.ok hxm).2
  have hbl := ln.live b hbm
  have uz := ln.u64 h.ok (j + 2)
  have hzx : l.getD (j + 2) 0 ≠ x := by
    by_cases hlt : j + 2 < l.length
    · intro e
      have := getD_inj ln.nd hlt hj (e.trans hx.symm)
      omega
    · rw [List.getD_eq_getElem?_getD, List.getElem?_eq_none (by omega)]
      exact fun e => x0 e.symm
  have ok1 : ROk s1 := by rw [← e1]; exact h.ok.more _
  have ln1 : Linked s1 l := by rw [← e1]; exact ln.more _
  have c1 : s1.c ≤ 1152921504606846976 + 300000 := by rw [← e1]; show s.c + 64 * ((l.length + 2 : Nat) : Int) ≤ _; omega
  have ln2 : Linked s2 (l.eraseIdx (j + 1)) := by
    rw [← e2, ← hb]; exact ln1.cut ok1 j hj
  have hle : (l.eraseIdx (j + 1)).length + 1 = l.length := by rw [List.length_eraseIdx_of_lt hj]; omega
  have hne : x ∉ l.eraseIdx (j + 1) := by
    rw [← erase_idx ln.nd hj, hx]
    exact fun e => by rw [ln.nd.mem_erase_iff] at e; exact e.1 rfl
  have hze : zs.getD at' 0 = (l.eraseIdx (j + 1)).headD 0 := by
    rw [hz]
    cases l with
    | nil => rfl
    | cons a t => rfl
  have hfa : FirstAt l x (j + 1) := ⟨hj, hx, fun m hm e => by
    have := getD_inj ln.nd (by omega) hj (e.trans hx.symm)
    omega⟩
  have hh := clinks h (by omega) (by omega) ln hl hz
  obtain ⟨y, hy, hyn⟩ := ln.get (j + 1) hj
  rw [hx] at hy
  obtain ⟨z, ez⟩ : ∃ z, l.getD (j + 2) 0 = z := ⟨_, rfl⟩
  rw [ez] at hyn hzx uz e2
  obtain ⟨s0, es0⟩ : ∃ s0, s.more (l.length + 1) = s0 := ⟨_, rfl⟩
  have et : s0.tick = s1 := by rw [← es0, ← e1, RS.more_tick]
  have c0 : s0.c ≤ 1152921504606846976 + 300000 := by rw [← es0]; show s.c + 64 * ((l.length + 1 : Nat) : Int) ≤ _; omega
  have hy : s0.get x = .tuple #[verV y, .bool true] := by rw [← es0]; exact hy
  have hs2 : s1.next b z = (0, s2) := by unfold RS.next; rw [if_pos (by rw [← e1]; exact hbl), e2]
  have c2 : s2.c = s1.c + 64 := by rw [← e2]; rfl
  rw [es0] at hh
  have d0 : j < l.length := by omega
  have wr0 : IntKind.i64.wrap (j : Int) = (j : Int) := IntWalk.i64_in _ (by omega)
  have wr1 : IntKind.i64.wrap ((j : Int) + 1 - 1) = (j : Int) := (IntWalk.i64_in _ (by omega)).trans (by omega)
  have Z2 := Lib.hid hze
  have ZX := Lib.hid hzx
  have HB := Lib.hid hb
  have C2 := Lib.hid c2
  have HL := Lib.hid hle
  clear hz hze ez e1 e2 hxm hbm x0 hbl hx es0 ok1 ln1 ln hzx hb c2 hle
  go_enter Tryz.func11, Tryz.ntmps11
  go_wp2
  go_loopg [5] 1 (fun m dv wr => CutR w p S pa qa q at' s2 zs (C + 1) m dv wr)
  case atStart => exact .inl ⟨rfl, rfl, rfl⟩
  case round =>
    rcases hrel with ⟨rfl, rfl, rfl⟩ | ⟨rfl, rfl, S2, h2, t2⟩
    · go_wp2_with fail
      refine hh.mono ?_
      rintro e w1 ⟨v, S1, rfl, o, dv, h1, t1⟩
      have hi := index_loop o (by omega) x ((j : Int) + 1) (.inr ⟨j + 1, hfa, by omega⟩)
      obtain ⟨g, c, rfl⟩ : ∃ g c, v = Value.slice (some ⟨g, 0, none⟩) l.length c := by
        rcases OwnU.shape o with ⟨h1, h2⟩ | ⟨g, c, h1, _⟩
        · rw [h2] at hj; simp at hj
        · exact ⟨g, c, h1⟩
      have i3 := OwnU.cell o j (by omega)
      rw [HB.out] at i3
      have ng := dv g rfl
      have gl := (OwnU.lt o rfl).2
      have gp : g ≠ pa := by have z1 : w.heap.size ≤ g := (OwnU.lt o rfl).1; have z2 := h.la.1; omega
      have gq : g ≠ qa := by have z1 : w.heap.size ≤ g := (OwnU.lt o rfl).1; have z2 := h.la.2.1; omega
      clear hh o hfa dv
      go_wp2_with fail
      refine hi.mono ?_
      rintro e w' ⟨rfl, rfl⟩
      clear hi
      have i1 := h1.ch.c0
      go_wp2_with fail
      refine wp_region_held_drew (S := (fun w' => w'.cell? ⟨q, 0, none⟩ = some (.pointer (some ⟨p, 0, none⟩)) ∧ w'.cell? ⟨g, j, none⟩ = some (.int .u64 b))) (by kernel_rfl) ⟨i1, i3⟩ (fun hHeld => ?_)
      have kd := (Keep.refl (fun _ => False) w1).drew
      have hd := h1.drew
      clear i1
      refine wpAnyH_take (i := 0) (v := ?qvu61) rfl (by kernel_rfl) (by kernel_rfl) (by kernel_rfl) (fun _ _ _ h => h) (Or.inl ⟨by rfl, ?qyu61⟩) (by assumption) ?qru61; case qyu61 => ((intro w hSw; (try dsimp only at hSw); go_simp); try (with_reducible rfl))
      ((try simp only [List.getElem_toArray]); (try simp only [List.getElem_cons_succ]); (try simp only [List.getElem_cons_zero]); (try simp only [Act.put]); (try simp only [List.setIfInBounds_toArray]); (try simp only [List.set_cons_succ]); (try simp only [List.set_cons_zero]))
      refine wpAnyH_take (i := 1) (v := ?qvu62) rfl (by kernel_rfl) (by kernel_rfl) (by kernel_rfl) (fun _ _ _ h => h) (Or.inl ⟨by rfl, ?qyu62⟩) (by assumption) ?qru62; case qyu62 => ((intro w hSw; (try dsimp only at hSw); go_simp); try (with_reducible rfl))
      ((try simp only [List.getElem_toArray]); (try simp only [List.getElem_cons_succ]); (try simp only [List.getElem_cons_zero]); (try simp only [Act.put]); (try simp only [List.setIfInBounds_toArray]); (try simp only [List.set_cons_succ]); (try simp only [List.set_cons_zero]))
      refine wpAnyH_take (i := 2) (v := ?qvu63) rfl (by kernel_rfl) (by kernel_rfl) (by kernel_rfl) (fun _ _ _ h => h) (Or.inl ⟨by rfl, ?qyu63⟩) (by assumption) ?qru63; case qyu63 => ((intro w hSw; (try dsimp only at hSw); go_simp); try (with_reducible rfl))
      ((try simp only [List.getElem_toArray]); (try simp only [List.getElem_cons_succ]); (try simp only [List.getElem_cons_zero]); (try simp only [Act.put]); (try simp only [List.setIfInBounds_toArray]); (try simp only [List.set_cons_succ]); (try simp only [List.set_cons_zero]))
      refine wpAnyH_take (i := 3) (v := ?qvu64) rfl (by kernel_rfl) (by kernel_rfl) (by kernel_rfl) (fun _ _ _ h => h) (Or.inl ⟨by rfl, ?qyu64⟩) (by assumption) ?qru64; case qyu64 => ((intro w hSw; (try dsimp only at hSw); go_simp); try (with_reducible rfl))
      ((try simp only [List.getElem_toArray]); (try simp only [List.getElem_cons_succ]); (try simp only [List.getElem_cons_zero]); (try simp only [Act.put]); (try simp only [List.setIfInBounds_toArray]); (try simp only [List.set_cons_succ]); (try simp only [List.set_cons_zero]))
      refine wpAnyH_take (i := 4) (v := ?qvu65) rfl (by kernel_rfl) (by kernel_rfl) (by kernel_rfl) (fun _ _ _ h => h) (Or.inl ⟨by rfl, ?qyu65⟩) (by assumption) ?qru65; case qyu65 => ((intro w hSw; (try dsimp only at hSw); go_simp); try (with_reducible rfl))
      ((try simp only [List.getElem_toArray]); (try simp only [List.getElem_cons_succ]); (try simp only [List.getElem_cons_zero]); (try simp only [Act.put]); (try simp only [List.setIfInBounds_toArray]); (try simp only [List.set_cons_succ]); (try simp only [List.set_cons_zero]))
      refine wpAnyH_take (i := 5) (v := ?qvu66) rfl (by kernel_rfl) (by kernel_rfl) (by kernel_rfl) (fun _ _ _ h => h) (Or.inl ⟨by rfl, ?qyu66⟩) (by assumption) ?qru66; case qyu66 => ((intro w hSw; (try dsimp only at hSw); go_simp); try (with_reducible rfl))
      ((try simp only [List.getElem_toArray]); (try simp only [List.getElem_cons_succ]); (try simp only [List.getElem_cons_zero]); (try simp only [Act.put]); (try simp only [List.setIfInBounds_toArray]); (try simp only [List.set_cons_succ]); (try simp only [List.set_cons_zero]))
      refine wpAnyH_take (i := 6) (v := ?qvu67) rfl (by kernel_rfl) (by kernel_rfl) (by kernel_rfl) (fun _ _ _ h => h) (Or.inl ⟨by rfl, ?qyu67⟩) (by assumption) ?qru67; case qyu67 => ((intro w hSw; (try dsimp only at hSw); go_simp); try (with_reducible rfl))
      ((try simp only [List.getElem_toArray]); (try simp only [List.getElem_cons_succ]); (try simp only [List.getElem_cons_zero]); (try simp only [Act.put]); (try simp only [List.setIfInBounds_toArray]); (try simp only [List.set_cons_succ]); (try simp only [List.set_cons_zero]))
      refine wpAnyH_take (i := 7) (v := ?qvu68) rfl (by kernel_rfl) (by kernel_rfl) (by kernel_rfl) (fun _ _ _ h => h) (Or.inl ⟨by rfl, ?qyu68⟩) (by assumption) ?qru68; case qyu68 => ((intro w hSw; (try dsimp only at hSw); go_simp); try (with_reducible rfl))
      ((try simp only [List.getElem_toArray]); (try simp only [List.getElem_cons_succ]); (try simp only [List.getElem_cons_zero]); (try simp only [Act.put]); (try simp only [List.setIfInBounds_toArray]); (try simp only [List.set_cons_succ]); (try simp only [List.set_cons_zero]))
      refine wpAnyH_take (i := 8) (v := ?qvu69) rfl (by kernel_rfl) (by kernel_rfl) (by kernel_rfl) (fun _ _ _ h => h) (Or.inl ⟨by rfl, ?qyu69⟩) (by assumption) ?qru69; case qyu69 => ((intro w hSw; (try dsimp only at hSw); go_simp); try (with_reducible rfl))
      ((try simp only [List.getElem_toArray]); (try simp only [List.getElem_cons_succ]); (try simp only [List.getElem_cons_zero]); (try simp only [Act.put]); (try simp only [List.setIfInBounds_toArray]); (try simp only [List.set_cons_succ]); (try simp only [List.set_cons_zero]))
      refine wpAnyH_take (i := 9) (v := ?qvu70) rfl (by kernel_rfl) (by kernel_rfl) (by kernel_rfl) (fun _ _ _ h => h) (Or.inl ⟨by rfl, ?qyu70⟩) (by assumption) ?qru70; case qyu70 => ((intro w hSw; (try dsimp only at hSw); go_simp); try (with_reducible rfl))
      ((try simp only [List.getElem_toArray]); (try simp only [List.getElem_cons_succ]); (try simp only [List.getElem_cons_zero]); (try simp only [Act.put]); (try simp only [List.setIfInBounds_toArray]); (try simp only [List.set_cons_succ]); (try simp only [List.set_cons_zero]))
      refine wpAnyH_take (i := 10) (v := ?qvu71) rfl (by kernel_rfl) (by kernel_rfl) (by kernel_rfl) (fun _ _ _ h => h) (Or.inl ⟨by rfl, ?qyu71⟩) (by assumption) ?qru71; case qyu71 => ((intro w hSw; (try dsimp only at hSw); go_simp); try (with_reducible rfl))
      ((try simp only [List.getElem_toArray]); (try simp only [List.getElem_cons_succ]); (try simp only [List.getElem_cons_zero]); (try simp only [Act.put]); (try simp only [List.setIfInBounds_toArray]); (try simp only [List.set_cons_succ]); (try simp only [List.set_cons_zero]))
      refine wpAnyH_ready (rs := [11]) (by kernel_rfl) (by simp) ?_
      refine AllReadyH.cons rfl (fun K hK => ?_) AllReadyH.nil
      go_simp
      refine (cbeh hd (by omega) x ux y hy z hyn ZX.out).mono ?_
      rintro e y1 ⟨rfl, S3, h3, k3⟩
      rw [et] at h3
      have i4 : y1.cell? ⟨g, j, none⟩ = some (.int .u64 b) := k3.1.cell (a := ⟨g, j, none⟩) (show w1.drew.cell? _ = _ from i3) ng
      have ng3 : ¬ S3 g := (fun x => by rcases k3.2 g x with y | y; exact ng y; exact absurd y (by show ¬ w1.heap.size ≤ g; omega))
      refine hK.out _ _ ⟨h3.ch.c0, i4⟩ (fun hHeld => ?_)
      clear hK K
      ((try simp only [List.getElem_toArray]); (try simp only [List.getElem_cons_succ]); (try simp only [List.getElem_cons_zero]); (try simp only [Act.put]); (try simp only [List.setIfInBounds_toArray]); (try simp only [List.set_cons_succ]); (try simp only [List.set_cons_zero]))
      refine wpAnyH_ready (rs := [12]) (by kernel_rfl) (by simp) ?_
      refine AllReadyH.cons rfl (fun K hK => ?_) AllReadyH.nil
      go_simp
      refine (cnext h3 (by omega) b z ub uz 0 s2 hs2).mono ?_
      rintro e y2 ⟨rfl, S4, h4, t5⟩
      have t4 := (t1.trans (Turn.quiet kd)).trans ((Turn.store k3).trans t5)
      refine hK.out _ _ ⟨h4.ch.c0, t5.k.cell (a := ⟨g, j, none⟩) i4 (fun x => by rcases x with x | x | x; exact ng3 x; exact gp x; exact gq x)⟩ (fun hHeld => ?_)
      clear hK K
      ((try simp only [List.getElem_toArray]); (try simp only [List.getElem_cons_succ]); (try simp only [List.getElem_cons_zero]); (try simp only [Act.put]); (try simp only [List.setIfInBounds_toArray]); (try simp only [List.set_cons_succ]); (try simp only [List.set_cons_zero]))
      refine wpAnyH_done (by kernel_rfl) ?_ _
      go_wp2
      go_roundg 0
      (case measure => omega)
      (case rel => exact .inr ⟨rfl, rfl, S4, h4.up (by omega), t4⟩)
    · have hk := clinks h2 (by omega) (by rw [C2.out]; omega) ln2 (by have := HL.out; omega) Z2.out
      rw [HL.out] at hk
      clear hh hy hyn hfa
      go_wp2_with fail
      refine hk.mono ?_
      rintro e w1 ⟨v, S3, rfl, o, _, h3, t3⟩
      have hi := index_loop o (by have := HL.out; omega) x _ (.inl ⟨hne, rfl⟩)
      clear hk o hne
      go_wp2_with fail
      refine hi.mono ?_
      rintro e w' ⟨rfl, rfl⟩
      clear hi
      go_wp2
      go_ret
      exact ⟨rfl, S3, h3.up (by omega), t2.trans t3⟩
end
end Go.Proofs.YtmfpjnlplimkeaaGreat
/- A Chain over a Store, as layer 9's statements walk with it: the contracts of package chain, and of the statements' helpers Made and awake; condition: lists of 64 links at most. -/
namespace Go.Proofs.YtmfpjnlplimkeaaGreat
open Go.ChangeShapes Go.WideShapes Go.ChangeAt Go.RowKit
set_option linter.unusedVariables false

/-- The blocks of a Chain, of its Store and of its Arena. -/
def CFoot (SV : Nat → Prop) (pa qa q : Nat) (j : Nat) : Prop := SV j ∨ Two pa qa j ∨ j = q
/-- Since W a Store p and a Chain q over it have been made, in new blocks; the Store is in state s, the Chain holds l; at most 64 k looks were had; nothing of W has turned. -/
structure Chn (W w : World) (p q : Nat) (S : Nat → Prop) (s : RS) (l : List Int) (k : Nat) : Prop where
  core : ∃ pa qa zs SV C at', CG w p SV s pa qa zs C q at' ∧ zs.getD at' 0 = l.headD 0 ∧ C ≤ 64 * (k : Int) ∧ ∀ j, S j ↔ CFoot SV pa qa q j
  c : s.c ≤ 64 * (k : Int)
  ok : ROk s
  ln : Linked s l
  g : ∀ k, S k → W.heap.size ≤ k
  lt : ∀ k, S k → k < w.heap.size
  b : Below W.heap.size W w
section
variable {W w w' : World} {p q : Nat} {S S' : Nat → Prop} {s s' : RS} {l l' : List Int} {k k' : Nat}
theorem Chn.up (h : Chn W w p q S s l k) {n : Nat} (hk : k ≤ n) : Chn W w p q S s l n := by
  obtain ⟨pa, qa, zs, SV, C, a, h1, h2, h3, h4⟩ := h.core
  exact ⟨⟨pa, qa, zs, SV, C, a, h1, h2, by omega, h4⟩, by have := h.c; omega, h.ok, h.ln, h.g, h.lt, h.b⟩
theorem Chn.own (h : Chn W w p q S s l k) {T : Nat → Prop} (kk : Keep T w w') (hT : ∀ g, T g → ¬ S g ∧ W.heap.size ≤ g) : Chn W w' p q S s l k := by
  obtain ⟨pa, qa, zs, SV, C, a, h1, h2, h3, h4⟩ := h.core
  exact ⟨⟨pa, qa, zs, SV, C, a, h1.keep kk (fun g hg x => (hT g x).1 ((h4 g).2 (.inl hg))) (fun x => (hT _ x).1 ((h4 _).2 (.inr (.inl (.inl rfl))))) (fun x => (hT _ x).1 ((h4 _).2 (.inr (.inl (.inr rfl))))) (fun x => (hT _ x).1 ((h4 _).2 (.inr (.inr rfl)))), h2, h3, h4⟩, h.c, h.ok, h.ln, h.g, fun x hx => Nat.lt_of_lt_of_le (h.lt x hx) kk.size, h.b.trans (kk.below h.b.size (fun g hg => (hT g hg).2))⟩
theorem Chn.quiet (h : Chn W w p q S s l k) (kk : Keep (fun _ => False) w w') : Chn W w' p q S s l k := h.own kk (fun g hg => hg.elim)
/-- Behind a call. -/
theorem Chn.turn_at (h : Chn W w p q S s l k) {pa qa a : Nat} {zs' : List Int} {SV SV' : Nat → Prop} {C' : Int} (hS : ∀ j, S j ↔ CFoot SV pa qa q j) (h1 : CG w' p SV' s' pa qa zs' C' q a) (t : Turn pa qa SV SV' w w') (hz : zs'.getD a 0 = l'.headD 0) (hC : C' ≤ 64 * (k' : Int)) (hc : s'.c ≤ 64 * (k' : Int)) (ln : Linked s' l') :
    Chn W w' p q (CFoot SV' pa qa q) s' l' k' ∧ VKeep S (CFoot SV' pa qa q) w w' := by
  have kk : Keep S w w' := t.k.mono (fun j hj => (hS j).2 (by rcases hj with x | x; exact .inl x; exact .inr (.inl x)))
  have hg : ∀ j, CFoot SV' pa qa q j → S j ∨ w.heap.size ≤ j := fun j hj => by
    rcases hj with x | x | x
    · rcases t.g j x with y | y
      · exact .inl ((hS j).2 (.inl y))
      · exact .inr y
    · exact .inl ((hS j).2 (.inr (.inl x)))
    · exact .inl ((hS j).2 (.inr (.inr x)))
  have bs := h.b.size
  refine ⟨⟨⟨pa, qa, zs', SV', C', a, h1, hz, hC, fun j => Iff.rfl⟩, hc, h1.ok, ln, fun j hj => ?_, fun j hj => ?_, h.b.trans (kk.below bs h.g)⟩, kk, hg⟩
  · rcases hg j hj with y | y
    · exact h.g j y
    · omega
  · rcases hj with x | (x | x) | x
    · exact h1.hv.lt j x
    · rw [x]; exact h1.la.1
    · rw [x]; exact h1.la.2.1
    · rw [x]; exact h1.la.2.2
theorem Chn.turn (h : Chn W w p q S s l k) {pa qa a : Nat} {zs' : List Int} {SV SV' : Nat → Prop} {C' : Int} (hS : ∀ j, S j ↔ CFoot SV pa qa q j) (h1 : CG w' p SV' s' pa qa zs' C' q a) (t : Turn pa qa SV SV' w w') (hz : zs'.getD a 0 = l'.headD 0) (hC : C' ≤ 64 * (k' : Int)) (hc : s'.c ≤ 64 * (k' : Int)) (ln : Linked s' l') :
    ∃ S', Chn W w' p q S' s' l' k' ∧ VKeep S S' w w' := ⟨_, h.turn_at hS h1 t hz hC hc ln⟩
theorem h_make (h : Chn W w p q S s l k) (hk : k ≤ 900000000) (key val b e : Int) (hb : U64 b) (he : U64 e) (x f : Int) (s' : RS) (hs : s.make key val b e = (x, f, s')) :
    Calls Tryz.prog 8 #[.pointer (some ⟨p, 0, none⟩), .int .i64 key, .int .i64 val, .int .u64 b, .int .u64 e] w fun y w' => y = .returned (.tuple #[.int .u64 x, .int .i64 f]) ∧ ∃ S', Chn W w' p q S' s' l (k + 1000) ∧ VKeep S S' w w' := by
  obtain ⟨pa, qa, zs, SV, C, a, h1, h2, h3, h4⟩ := h.core
  have ok := rOk_make h.ok key val b e hb he
  have cc := make_c s key val b e
  have ln := h.ln.make h.ok key val b e
  have hc := h.c
  refine (vmake_any h1.hv h.ok (by omega) key val b e hb he).mono ?_
  rw [hs] at ok cc ln ⊢
  rintro y w1 ⟨rfl, S1, v1, k1, g1⟩
  exact ⟨rfl, h.turn h4 (h1.store v1 ok ⟨k1, g1⟩) (Turn.store ⟨k1, g1⟩) h2 (by omega) (by rw [cc]; omega) ln⟩
theorem more_c (s : RS) (n : Nat) : (s.more n).c = s.c + 64 * (n : Int) := rfl
theorem h_push (h : Chn W w p q S s l k) (hk : k ≤ 900000000) (hl : l.length ≤ 64) (x : Int) (hx : U64 x) (r : Bool) (l' : List Int) (hs : pushI s.s l x = (r, l')) :
    Calls Tryz.prog 9 #[.pointer (some ⟨q, 0, none⟩), .int .u64 x] w fun y w' => y = .returned (.bool r) ∧ ∃ S' s', s'.s = s.s ∧ Chn W w' p q S' s' l' (k + 1000) ∧ VKeep S S' w w' := by
  obtain ⟨pa, qa, zs, SV, C, a, h1, h2, h3, h4⟩ := h.core
  have hc := h.c
  by_cases hm : x ∈ l
  · obtain ⟨rfl, rfl⟩ : r = false ∧ l' = l := by
      unfold pushI at hs; rw [if_neg (fun z => z.2 hm)] at hs; cases hs; exact ⟨rfl, rfl⟩
    refine (cpush_in h1 (by omega) (by omega) h.ln (by omega) h2 x hm).mono ?_
    rintro y w1 ⟨rfl, S1, g1, t1⟩
    obtain ⟨S', a1, a2⟩ := h.turn (k' := k + 1000) h4 g1 t1 h2 (by omega) (by rw [more_c]; omega) (h.ln.more _)
    refine ⟨rfl, S', _, ?_, a1, a2⟩
    rfl
  · cases hd : s.s.live x with
    | false =>
      obtain ⟨rfl, rfl⟩ : r = false ∧ l' = l := by
        unfold pushI at hs; rw [if_neg (by simp [hd])] at hs; cases hs; exact ⟨rfl, rfl⟩
      refine (cpush_dead h1 (by omega) (by omega) h.ln (by omega) h2 x hx hd).mono ?_
      rintro y w1 ⟨rfl, S1, g1, t1⟩
      obtain ⟨S', a1, a2⟩ := h.turn (k' := k + 1000) h4 g1 t1 h2 (by omega) (by rw [more_c]; omega) (h.ln.more _)
      refine ⟨rfl, S', _, ?_, a1, a2⟩
      rfl
    | true =>
      obtain ⟨rfl, rfl⟩ : r = true ∧ l' = x :: l := by
        unfold pushI at hs; rw [if_pos ⟨hd, hm⟩] at hs; cases hs; exact ⟨rfl, rfl⟩
      refine (cpush_ok h1 (by omega) (by omega) h.ln (by omega) h2 x hd hm).mono ?_
      rintro y w1 ⟨rfl, S1, g1, t1⟩
      obtain ⟨S', a1, a2⟩ := h.turn (k' := k + 1000) h4 g1 t1 (by rw [getD_setI _ _ _ _ h1.lt, if_pos rfl]; rfl) (by omega) (by show s.c + 64 * ((l.length + 1 : Nat) : Int) + 64 ≤ _; omega) ((h.ln.more _).push (h.ok.more _) hd hm)
      refine ⟨rfl, S', _, ?_, a1, a2⟩
      rfl
theorem h_cut (h : Chn W w p q S s l k) (hk : k ≤ 900000000) (hl : l.length ≤ 64) (x : Int) (hx : U64 x) (r : Bool) (l' : List Int) (hs : cutI l x = (r, l')) :
    Calls Tryz.prog 11 #[.pointer (some ⟨q, 0, none⟩), .int .u64 x] w fun y w' => y = .returned (.bool r) ∧ ∃ S' s', s'.s = s.s ∧ Chn W w' p q S' s' l' (k + 1000) ∧ VKeep S S' w w' := by
  obtain ⟨pa, qa, zs, SV, C, a, h1, h2, h3, h4⟩ := h.core
  have hc := h.c
  rcases first_or x l with hm | ⟨i, hi⟩
  · obtain ⟨rfl, rfl⟩ : r = false ∧ l' = l := by
      unfold cutI at hs; rw [if_neg hm] at hs; cases hs; exact ⟨rfl, rfl⟩
    refine (ccut_no h1 (by omega) (by omega) h.ln (by omega) h2 x hm).mono ?_
    rintro y w1 ⟨rfl, S1, g1, t1⟩
    obtain ⟨S', a1, a2⟩ := h.turn (k' := k + 1000) h4 g1 t1 h2 (by omega) (by rw [more_c]; omega) (h.ln.more _)
    refine ⟨rfl, S', _, ?_, a1, a2⟩
    rfl
  · obtain ⟨rfl, rfl⟩ : r = true ∧ l' = l.eraseIdx i := by
      unfold cutI at hs; rw [if_pos hi.mem] at hs; cases hs
      exact ⟨rfl, by rw [← erase_idx h.ln.nd hi.lt, hi.eq]⟩
    cases i with
    | zero =>
      obtain ⟨t, rfl⟩ : ∃ t, l = x :: t := by
        cases l with
        | nil => have := hi.lt; simp at this
        | cons b t => exact ⟨t, by have := hi.eq; simp at this; rw [this]⟩
      have hl : t.length + 1 ≤ 64 := hl
      refine (ccut_first h1 (by omega) (by omega) x h.ln (by omega) h2).mono ?_
      rintro y w1 ⟨rfl, S1, g1, t1⟩
      obtain ⟨S', a1, a2⟩ := h.turn (k' := k + 1000) (l' := t) h4 g1 t1 (by rw [getD_setI _ _ _ _ h1.lt, if_pos rfl]) (by omega) (by rw [more_c]; omega) (h.ln.cut_first.more _)
      refine ⟨rfl, S', _, ?_, a1, a2⟩
      rfl
    | succ j =>
      have hj := hi.lt
      refine (ccut_mid h1 (by omega) (by omega) h.ln (by omega) h2 x j hj hi.eq _ rfl _ _ rfl rfl).mono ?_
      rintro y w1 ⟨rfl, S1, g1, t1⟩
      have ln2 := ((h.ln.more (l.length + 2)).cut (h.ok.more _) j hj).more l.length
      obtain ⟨S', a1, a2⟩ := h.turn (k' := k + 1000) (l' := l.eraseIdx (j + 1)) h4 g1 t1 (by rw [h2]; cases l <;> rfl) (by omega) (by show s.c + 64 * ((l.length + 2 : Nat) : Int) + 64 + 64 * (l.length : Int) ≤ _; omega) ln2
      refine ⟨rfl, S', _, ?_, a1, a2⟩
      rfl
theorem h_head (h : Chn W w p q S s l k) (hk : k ≤ 900000000) (hl : l.length ≤ 64) (x : Int) (hs : l.headD 0 = x) :
    Calls Tryz.prog 12 #[.pointer (some ⟨q, 0, none⟩)] w fun y w' => y = .returned (.int .u64 x) ∧ ∃ S' s', s'.s = s.s ∧ Chn W w' p q S' s' l (k + 1000) ∧ VKeep S S' w w' := by
  obtain ⟨pa, qa, zs, SV, C, a, h1, h2, h3, h4⟩ := h.core
  have hc := h.c
  refine (chead h1 (by omega) x (by rw [h2, hs])).mono ?_
  rintro y w1 ⟨rfl, g1, k1⟩
  obtain ⟨S', a1, a2⟩ := h.turn (k' := k + 1000) h4 g1 (Turn.arena k1) h2 (by omega) (by omega) h.ln
  refine ⟨rfl, S', _, ?_, a1, a2⟩
  rfl
theorem h_len (h : Chn W w p q S s l k) (hk : k ≤ 900000000) (hl : l.length ≤ 64) (x : Int) (hs : (l.length : Int) = x) :
    Calls Tryz.prog 14 #[.pointer (some ⟨q, 0, none⟩)] w fun y w' => y = .returned (.int .i64 x) ∧ ∃ S' s', s'.s = s.s ∧ Chn W w' p q S' s' l (k + 1000) ∧ VKeep S S' w w' := by
  obtain ⟨pa, qa, zs, SV, C, a, h1, h2, h3, h4⟩ := h.core
  have hc := h.c
  subst hs
  refine (clen h1 (by omega) (by omega) h.ln (by omega) h2).mono ?_
  rintro y w1 ⟨S1, rfl, g1, t1⟩
  obtain ⟨S', a1, a2⟩ := h.turn (k' := k + 1000) h4 g1 t1 h2 (by omega) (by rw [more_c]; omega) (h.ln.more _)
  refine ⟨rfl, S', _, ?_, a1, a2⟩
  rfl
theorem h_links (h : Chn W w p q S s l k) (hk : k ≤ 900000000) (hl : l.length ≤ 64) :
    Calls Tryz.prog 36 #[.pointer (some ⟨q, 0, none⟩)] w fun y w' => ∃ v S' s', y = .returned v ∧ OwnU w.heap.size w' v l ∧ (∀ g, v.ownBlock = some g → ¬ S' g) ∧ s'.s = s.s ∧ Chn W w' p q S' s' l (k + 1000) ∧ VKeep S S' w w' := by
  obtain ⟨pa, qa, zs, SV, C, a, h1, h2, h3, h4⟩ := h.core
  have hc := h.c
  have la := h1.la
  refine (clinks h1 (by omega) (by omega) h.ln (by omega) h2).mono ?_
  rintro y w1 ⟨v, S1, rfl, o, dv, g1, t1⟩
  have a3 := h.turn_at (k' := k + 1000) h4 g1 t1 h2 (by omega) (by rw [more_c]; omega) (h.ln.more _)
  refine ⟨v, CFoot S1 pa qa q, _, rfl, o, fun g hg x => ?_, ?_, a3.1, a3.2⟩
  rotate_left
  · rfl
  have hge : w.heap.size ≤ g := (OwnU.lt o hg).1
  rcases x with x | (x | x) | x
  · exact dv g hg x
  · have := la.1; omega
  · have := la.2.1; omega
  · have := la.2.2; omega
end
/-- A Chain, and blocks V of the law's own, which no call turns. -/
structure ChV (W w : World) (p q : Nat) (S : Nat → Prop) (s : RS) (l : List Int) (k : Nat) (V : Nat → Prop) : Prop where
  r : Chn W w p q S s l k
  v : ∀ g, V g → ¬ S g ∧ g < w.heap.size
section
variable {W w w' : World} {p q : Nat} {S S' : Nat → Prop} {s s' : RS} {l l' : List Int} {k k' : Nat} {V : Nat → Prop}
theorem ChV.step (h : ChV W w p q S s l k V) (hr : Chn W w' p q S' s' l' k') (kk : VKeep S S' w w') : ChV W w' p q S' s' l' k' V ∧ VSame V w w' :=
  ⟨⟨hr, fun g hg => ⟨fun x => by rcases kk.2 g x with y | y; exact (h.v g hg).1 y; have := (h.v g hg).2; omega, Nat.lt_of_lt_of_le (h.v g hg).2 kk.1.size⟩⟩, fun g hg => kk.1.block g (h.v g hg).2 (h.v g hg).1⟩
end
/-- A Chain and a list of words of the law's own. -/
structure ChU (W w : World) (p q : Nat) (S : Nat → Prop) (s : RS) (l : List Int) (k : Nat) (v : Value) (zs : List Int) : Prop where
  r : Chn W w p q S s l k
  ow : OwnU W.heap.size w v zs
  dv : ∀ g, v.ownBlock = some g → ¬ S g
section
variable {W w w' : World} {p q : Nat} {S S' : Nat → Prop} {s s' : RS} {l l' : List Int} {k k' : Nat} {v v' : Value} {zs zs' : List Int}
theorem ChU.start (h : Chn W w p q S s l k) : ChU W w p q S s l k (.slice none 0 0) [] := ⟨h, World.ownsRow_nil _ _ _ _, by simp [Value.ownBlock]⟩
theorem ChU.step (h : ChU W w p q S s l k v zs) (hr : Chn W w' p q S' s' l' k') (kk : VKeep S S' w w') : ChU W w' p q S' s' l' k' v zs :=
  ⟨hr, OwnU.keep h.ow kk.1 h.dv, fun g hg x => by rcases kk.2 g x with y | y; exact h.dv g hg y; have := (OwnU.lt h.ow hg).2; omega⟩
theorem ChU.quiet (h : ChU W w p q S s l k v zs) (kk : Keep (fun _ => False) w w') : ChU W w' p q S s l k v zs := ⟨h.r.quiet kk, OwnU.keep h.ow kk (by simp), h.dv⟩
/-- The list is made anew, or goes on: what has turned is its own block alone, and new ones. -/
theorem ChU.anew (h : ChU W w p q S s l k v zs) {T : Nat → Prop} (o : OwnU W.heap.size w' v' zs') (kk : Keep T w w') (hT : ∀ g, T g → v.ownBlock = some g ∨ w.heap.size ≤ g) (hv : ∀ g, v'.ownBlock = some g → v.ownBlock = some g ∨ w.heap.size ≤ g) : ChU W w' p q S s l k v' zs' :=
  ⟨h.r.own kk (fun g hg => by
    rcases hT g hg with y | y
    · exact ⟨h.dv g y, (OwnU.lt h.ow y).1⟩
    · exact ⟨fun x => by have := h.r.lt g x; omega, Nat.le_trans h.r.b.size y⟩), o, fun g hg x => by
    rcases hv g hg with y | y
    · exact h.dv g y x
    · have := h.r.lt g x; omega⟩
theorem ChU.up (h : ChU W w p q S s l k v zs) {n : Nat} (hk : k ≤ n) : ChU W w p q S s l n v zs := ⟨h.r.up hk, h.ow, h.dv⟩
end
theorem Fill.same {s s' : RS} {n k : Nat} (h : Fill s n k) (e : s'.s = s.s) : Fill s' n k := ⟨by rw [e]; exact h.gv, by rw [e]; exact h.fr, by rw [e]; exact h.tg, fun j hj => by rw [e]; exact h.tk j hj, by rw [e]; exact h.ct⟩
end Go.Proofs.YtmfpjnlplimkeaaGreat
