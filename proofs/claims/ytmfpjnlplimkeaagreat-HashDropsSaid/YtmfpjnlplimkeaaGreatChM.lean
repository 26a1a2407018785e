/- Package chain, second part: New, Head, Links, Len, Push, Cut of any Chain over a Store and a word of an Arena; condition: 4095 links at most, the counts of accesses at most 2^61. -/
import Derived.Test.YtmfpjnlplimkeaaGreatChC
import Derived.Deep.QuietTactic
import Derived.BigQuiet
import Derived.StillTailTactics
import Derived.Deep.RegionHeld3
namespace Go.Proofs.YtmfpjnlplimkeaaGreat
open Go.ChangeShapes Go.WideShapes Go.ChangeAt Go.RowKit
set_option linter.unusedVariables false

/-- A Chain at block q: its Store, its Arena, and its word there. -/
structure ChAt (w : World) (q p pa at' : Nat) : Prop where
  c0 : w.cell? ⟨q, 0, none⟩ = some (.pointer (some ⟨p, 0, none⟩))
  c1 : w.cell? ⟨q, 1, none⟩ = some (.pointer (some ⟨pa, 0, none⟩))
  c2 : w.cell? ⟨q, 2, none⟩ = some (.int .i64 at')
theorem ChAt.keep {w w' : World} {q p pa at' : Nat} {T : Nat → Prop} (h : ChAt w q p pa at') (k : Keep T w w') (hq : ¬ T q) : ChAt w' q p pa at' := ⟨k.cell h.c0 hq, k.cell h.c1 hq, k.cell h.c2 hq⟩
/-- A Chain with what it stands on: a Store in state s, an Arena with the words zs, its count C at most. -/
structure CG (w : World) (p : Nat) (S : Nat → Prop) (s : RS) (pa qa : Nat) (zs : List Int) (C : Int) (q at' : Nat) : Prop where
  hv : VAt w p S s
  ok : ROk s
  ar : ∃ c, Ar w pa qa zs c ∧ 0 ≤ c ∧ c ≤ C
  ch : ChAt w q p pa at'
  lt : at' < zs.length
  n0 : ¬ S pa
  n1 : ¬ S qa
  n2 : ¬ S q
  n3 : q ≠ pa
  n4 : q ≠ qa
/-- The Store's blocks, the Arena's, and new ones have turned. -/
structure Turn (pa qa : Nat) (S S' : Nat → Prop) (w w' : World) : Prop where
  k : Keep (fun j => S j ∨ Two pa qa j) w w'
  g : ∀ k, S' k → S k ∨ w.heap.size ≤ k
section
variable {w w1 w' : World} {p pa qa q at' : Nat} {S S1 S' : Nat → Prop} {s s' : RS} {zs zs' : List Int} {C C' : Int}
theorem Turn.refl (pa qa : Nat) (S : Nat → Prop) (w : World) : Turn pa qa S S w w := ⟨Keep.refl _ _, fun k hk => .inl hk⟩
theorem Turn.trans (a : Turn pa qa S S1 w w1) (b : Turn pa qa S1 S' w1 w') : Turn pa qa S S' w w' :=
  ⟨⟨b.k.os.trans a.k.os, b.k.tape.trans a.k.tape, b.k.output.trans a.k.output, Nat.le_trans a.k.size b.k.size, fun k hk hn => (b.k.block k (Nat.lt_of_lt_of_le hk a.k.size) (fun x => by
      rcases x with x | x
      · rcases a.g k x with y | y
        · exact hn (.inl y)
        · omega
      · exact hn (.inr x))).trans (a.k.block k hk hn)⟩,
    fun k hk => by
      rcases b.g k hk with y | y
      · exact a.g k y
      · exact .inr (Nat.le_trans a.k.size y)⟩
theorem Turn.store (k : VKeep S S' w w') : Turn pa qa S S' w w' := ⟨k.1.mono (fun j hj => .inl hj), k.2⟩
theorem Turn.arena (k : Keep (Two pa qa) w w') : Turn pa qa S S w w' := ⟨k.mono (fun j hj => .inr hj), fun k hk => .inl hk⟩
theorem Turn.quiet (k : Keep (fun _ => False) w w') : Turn pa qa S S w w' := ⟨k.mono (by simp), fun k hk => .inl hk⟩
theorem CG.la (h : CG w p S s pa qa zs C q at') : pa < w.heap.size ∧ qa < w.heap.size ∧ q < w.heap.size := by
  obtain ⟨c, ha, _⟩ := h.ar
  exact ⟨ha.lt, ha.ws.lt, lt_of_cell (a := ⟨q, 0, none⟩) h.ch.c0⟩
theorem CG.keep (h : CG w p S s pa qa zs C q at') {T : Nat → Prop} (k : Keep T w w') (hS : ∀ g, S g → ¬ T g) (h0 : ¬ T pa) (h1 : ¬ T qa) (h2 : ¬ T q) : CG w' p S s pa qa zs C q at' := by
  obtain ⟨c, ha, c0, c1⟩ := h.ar
  exact ⟨h.hv.keep k hS, h.ok, ⟨c, ha.keep k h0 h1, c0, c1⟩, h.ch.keep k h2, h.lt, h.n0, h.n1, h.n2, h.n3, h.n4⟩
theorem CG.quiet (h : CG w p S s pa qa zs C q at') (k : Keep (fun _ => False) w w') : CG w' p S s pa qa zs C q at' := h.keep k (by simp) (by simp) (by simp) (by simp)
theorem CG.drew (h : CG w p S s pa qa zs C q at') : CG w.drew p S s pa qa zs C q at' := h.quiet (Keep.refl _ _).drew
/-- The Store has turned. -/
theorem CG.store (h : CG w p S s pa qa zs C q at') (hv : VAt w' p S' s') (ok : ROk s') (k : VKeep S S' w w') : CG w' p S' s' pa qa zs C q at' := by
  obtain ⟨l0, l1, l2⟩ := h.la
  obtain ⟨c, ha, c0, c1⟩ := h.ar
  have far : ∀ j, j < w.heap.size → ¬ S j → ¬ S' j := fun j hj hn x => by
    rcases k.2 j x with y | y
    · exact hn y
    · omega
  exact ⟨hv, ok, ⟨c, ha.keep k.1 h.n0 h.n1, c0, c1⟩, h.ch.keep k.1 h.n2, h.lt, far _ l0 h.n0, far _ l1 h.n1, far _ l2 h.n2, h.n3, h.n4⟩
/-- The Arena has turned. -/
theorem CG.arena (h : CG w p S s pa qa zs C q at') (ar : ∃ c, Ar w' pa qa zs' c ∧ 0 ≤ c ∧ c ≤ C') (hl : zs'.length = zs.length) (k : Keep (Two pa qa) w w') : CG w' p S s pa qa zs' C' q at' :=
  ⟨h.hv.keep k (fun g hg x => by rcases x with x | x; exact h.n0 (x ▸ hg); exact h.n1 (x ▸ hg)), h.ok, ar, h.ch.keep k (fun x => by rcases x with x | x; exact h.n3 x; exact h.n4 x), by rw [hl]; exact h.lt, h.n0, h.n1, h.n2, h.n3, h.n4⟩
theorem CG.up (h : CG w p S s pa qa zs C q at') (hC : C ≤ C') : CG w p S s pa qa zs C' q at' := by
  obtain ⟨c, ha, c0, c1⟩ := h.ar
  exact ⟨h.hv, h.ok, ⟨c, ha, c0, by omega⟩, h.ch, h.lt, h.n0, h.n1, h.n2, h.n3, h.n4⟩
theorem CG.more (h : CG w p S s pa qa zs C q at') (n : Nat) : CG w p S (s.more n) pa qa zs C q at' :=
  ⟨h.hv.up rfl rfl (by show s.c ≤ s.c + 64 * (n : Int); omega), h.ok.more n, h.ar, h.ch, h.lt, h.n0, h.n1, h.n2, h.n3, h.n4⟩
set_option maxRecDepth 100000 in
/-- The first link. -/
theorem chead (h : CG w p S s pa qa zs C q at') (hC : C ≤ 4611686018427387904) (x : Int) (hx : zs.getD at' 0 = x) :
    Calls Tryz.prog 12 #[.pointer (some ⟨q, 0, none⟩)] w fun e w' => e = .returned (.int .u64 x) ∧ CG w' p S s pa qa zs (C + 1) q at' ∧ Keep (Two pa qa) w w' := by
  have e1 := h.ch.c1
  have e2 := h.ch.c2
  have kd := (Keep.refl (fun _ => False) w).drew
  have hd := h.drew
  obtain ⟨c, ha, c0, c1⟩ := hd.ar
  have hl := load_to at' x (c + 1) ha h.lt c0 (by omega) hx rfl
  go_enter Tryz.func12, Tryz.ntmps12
  go_wp2_with fail
  go_still_tail 8, (by kernel_rfl)
  change wpList _ _ _ _ _ w.drew
  go_wp2_with fail
  refine hl.mono ?_
  rintro e w1 ⟨rfl, h1, k1⟩
  go_wp2
  go_ret
  exact ⟨rfl, hd.arena ⟨_, h1, by omega, by omega⟩ rfl k1, (kd.mono (by simp)).trans k1⟩
/-- All links. -/
theorem clinks (h : CG w p S s pa qa zs C q at') (hC : C ≤ 4611686018427387904) (hc : s.c ≤ 2305843009213693952) {l : List Int} (ln : Linked s l) (hl : l.length ≤ 4095) (hz : zs.getD at' 0 = l.headD 0) :
    Calls Tryz.prog 36 #[.pointer (some ⟨q, 0, none⟩)] w fun e w' => ∃ v S', e = .returned v ∧ OwnU w.heap.size w' v l ∧ (∀ g, v.ownBlock = some g → ¬ S' g) ∧ CG w' p S' (s.more (l.length + 1)) pa qa zs (C + 1) q at' ∧ Turn pa qa S S' w w' := by
  obtain ⟨x, ex⟩ : ∃ x, l.headD 0 = x := ⟨_, rfl⟩
  rw [ex] at hz
  have hh := chead h hC x hz
  clear hz
  go_enter Tryz.func36, Tryz.ntmps36
  go_wp2_with fail
  refine hh.mono ?_
  rintro e w1 ⟨rfl, h1, k1⟩
  have hf := cfrom_any h1.hv h1.ok hc ln hl h1.ch.c0 h1.n2 x ex
  clear hh ex
  go_wp2_with fail
  refine hf.mono ?_
  rintro e w2 ⟨v, S2, rfl, f⟩
  clear hf
  go_wp2
  go_ret
  exact ⟨v, S2, rfl, OwnU.lower f.ow k1.size, f.dv, h1.store f.h (h1.ok.more _) f.k, (Turn.arena k1).trans (Turn.store f.k)⟩
theorem clen (h : CG w p S s pa qa zs C q at') (hC : C ≤ 4611686018427387904) (hc : s.c ≤ 2305843009213693952) {l : List Int} (ln : Linked s l) (hl : l.length ≤ 4095) (hz : zs.getD at' 0 = l.headD 0) :
    Calls Tryz.prog 14 #[.pointer (some ⟨q, 0, none⟩)] w fun e w' => ∃ S', e = .returned (.int .i64 (l.length : Int)) ∧ CG w' p S' (s.more (l.length + 1)) pa qa zs (C + 1) q at' ∧ Turn pa qa S S' w w' := by
  have hh := clinks h hC hc ln hl hz
  clear hz
  go_enter Tryz.func14, Tryz.ntmps14
  go_wp2_with fail
  refine hh.mono ?_
  rintro e w1 ⟨v, S1, rfl, o, _, h1, k1⟩
  obtain ⟨A, c, rfl⟩ : ∃ A c, v = Value.slice A l.length c := by
    rcases OwnU.shape o with ⟨h1, h2⟩ | ⟨g, c, h1, _⟩
    · exact ⟨none, 0, by rw [h1, h2]; rfl⟩
    · exact ⟨_, c, h1⟩
  clear hh o
  go_wp2
  go_ret
  exact ⟨S1, rfl, h1, k1⟩
theorem cnew_no (x y : Option Addr) (i : Int) (w : World) (h : x = none ∨ y = none) : Calls Tryz.prog 44 #[.pointer x, .pointer y, .int .i64 i] w fun e w' => e = .returned (.tuple #[.pointer none, .int .i64 1]) ∧ w = w' := by
  cases x with
  | none =>
    go_enter Tryz.func44, Tryz.ntmps44
    go_wp2
    go_ret2
    exact ⟨rfl, rfl⟩
  | some x =>
    obtain rfl : y = none := by simpa using h
    go_enter Tryz.func44, Tryz.ntmps44
    go_wp2
    go_ret2
    exact ⟨rfl, rfl⟩
theorem cnew_ok (hv : VAt w p S s) (ok : ROk s) {c : Int} (ha : Ar w pa qa zs c) (c0 : 0 ≤ c) (c1 : c ≤ C) (hi : at' < zs.length) (n0 : ¬ S pa) (n1 : ¬ S qa) :
    Calls Tryz.prog 44 #[.pointer (some ⟨p, 0, none⟩), .pointer (some ⟨pa, 0, none⟩), .int .i64 at'] w fun e w' => ∃ q, e = .returned (.tuple #[.pointer (some ⟨q, 0, none⟩), .int .i64 0]) ∧ CG w' p S s pa qa zs C q at' ∧ w.heap.size ≤ q ∧ Keep (fun _ => False) w w' := by
  have hn := len_any pa qa zs c w ha
  have hl := ha.len
  go_enter Tryz.func44, Tryz.ntmps44
  go_wp2_with (go_at_call 60; refine (len_any pa qa zs c _ ha).mono ?_; rintro e w' ⟨rfl, rfl⟩)
  go_ret2
  have k := Keep.alloc (Keep.refl (fun _ => False) w) (.cells #[.pointer (some ⟨p, 0, none⟩), .pointer (some ⟨pa, 0, none⟩), .int .i64 at'] 92)
  have l0 := ha.lt
  have l1 := ha.ws.lt
  refine ⟨_, rfl, ⟨hv.keep k (by simp), ok, ⟨c, ha.keep k (by simp) (by simp), c0, c1⟩, ⟨by simp, by simp, by simp⟩, hi, n0, n1, fun x => ?_, by omega, by omega⟩, Nat.le_refl _, k⟩
  have := hv.lt _ x
  omega
end
end Go.Proofs.YtmfpjnlplimkeaaGreat
