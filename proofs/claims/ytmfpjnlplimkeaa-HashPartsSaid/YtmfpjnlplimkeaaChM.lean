/- Package chain, second part: New, Head, Links, Len, Push, Cut of any Chain over a Store and a word of an Arena; condition: 4095 links at most, the counts of accesses at most 2^61. -/
import Derived.Test.YtmfpjnlplimkeaaChC
import Derived.Deep.QuietTactic
import Derived.BigQuiet
import Derived.StillTailTactics
import Derived.Deep.RegionHeld3
namespace Go.Proofs.Ytmfpjnlplimkeaa
open Go.ChangeShapes Go.WideShapes Go.ChangeAt Go.RowKit
set_option linter.unusedVariables false

/-- A Chain at block q: its Store, its Arena, and its word there. -/
structure ChAt (w : World) (q p pa at' : Nat) : Prop where
  c0 : w.cell? ⟨q, 0, none⟩ = some (.pointer (some ⟨p, 0, none⟩))
  c1 : w.cell? ⟨q, 1, none⟩ = some (.pointer (some ⟨pa, 0, none⟩))
  c2 : w.cell? ⟨q, 2, none⟩ = some (.int .i64 at')
theorem ChAt.keep {w w' : World} {q p pa at' : Nat} {T : Nat → Prop} (h : ChAt w q p pa at') (k : Keep T w w') (hq : ¬ T q) : ChAt w' q p pa at' := ⟨k.cell h.c0 hq, k.cell h.c1 hq, k.cell h.c2 hq⟩
/-- A Chain with what it stands on: a Store in state s, an Arena with the words zs, its count C at most. -/
structure CG (w : World) (p : Nat) (S : Nat → Prop) (s : RS) (pa qa : Nat) (zs : List Int) (C : Int) (q at' : Nat) : Prop where
  hv : VAt w p S s
  ok : ROk s
  ar : ∃ c, Ar w pa qa zs c ∧ 0 ≤ c ∧ c ≤ C
  ch : ChAt w q p pa at'
  lt : at' < zs.length
  n0 : ¬ S pa
  n1 : ¬ S qa
  n2 : ¬ S q
  n3 : q ≠ pa
  n4 : q ≠ qa
/-- The Store's blocks, the Arena's, and new ones have turned. -/
structure Turn (pa qa : Nat) (S S' : Nat → Prop) (w w' : World) : Prop where
  k : Keep (fun j => S j ∨ Two pa qa j) w w'
  g : ∀ k, S' k → S k ∨ w.heap.size ≤ k
section
variable {w w1 w' : World} {p pa qa q at' : Nat} {S S1 S' : Nat → Prop} {s s' : RS} {zs zs' : List Int} {C C' : Int}
theorem Turn.refl (pa qa : Nat) (S : Nat → Prop) (w : World) : Turn pa qa S S w w := ⟨Keep.refl _ _, fun k hk => .inl hk⟩
theorem Turn.trans (a : Turn pa qa S S1 w w1) (b : Turn pa qa S1 S' w1 w') : Turn pa qa S S' w w' :=
  ⟨⟨b.k.os.trans a.k.os, b.k.tape.trans a.k.tape, b.k.output.trans a.k.output, Nat.le_trans a.k.size b.k.size, fun k hk hn => (b.k.block k (Nat.lt_of_lt_of_le hk a.k.size) (fun x => by
      rcases x with x | x
      · rcases a.g k x with y | y
        · exact hn (.inl y)
        · omega
      · exact hn (.inr x))).trans (a.k.block k hk hn)⟩,
    fun k hk => by
      rcases b.g k hk with y | y
      · exact a.g k y
      · exact .inr (Nat.le_trans a.k.size y)⟩
theorem Turn.store (k : VKeep S S' w w') : Turn pa qa S S' w w' := ⟨k.1.mono (fun j hj => .inl hj), k.2⟩
theorem Turn.arena (k : Keep (Two pa qa) w w') : Turn pa qa S S w w' := ⟨k.mono (fun j hj => .inr hj), fun k hk => .inl hk⟩
theorem Turn.quiet (k : Keep (fun _ => False) w w') : Turn pa qa S S w w' := ⟨k.mono (by simp), fun k hk => .inl hk⟩
theorem CG.la (h : CG w p S s pa qa zs C q at') : pa < w.heap.size ∧ qa < w.heap.size ∧ q < w.heap.size := by
  obtain ⟨c, ha, _⟩ := h.ar
  exact ⟨ha.lt, ha.ws.lt, lt_of_cell (a := ⟨q, 0, none⟩) h.ch.c0⟩
theorem CG.keep (h : CG w p S s pa qa zs C q at') {T : Nat → Prop} (k : Keep T w w') (hS : ∀ g, S g → ¬ T g) (h0 : ¬ T pa) (h1 : ¬ T qa) (h2 : ¬ T q) : CG w' p S s pa qa zs C q at' := by
  obtain ⟨c, ha, c0, c1⟩ := h.ar
  exact ⟨h.hv.keep k hS, h.ok, ⟨c, ha.keep k h0 h1, c0, c1⟩, h.ch.keep k h2, h.lt, h.n0, h.n1, h.n2, h.n3, h.n4⟩
theorem CG.quiet (h : CG w p S s pa qa zs C q at') (k : Keep (fun _ => False) w w') : CG w' p S s pa qa zs C q at' := h.keep k (by simp) (by simp) (by simp) (by simp)
theorem CG.drew (h : CG w p S s pa qa zs C q at') : CG w.drew p S s pa qa zs C q at' := h.quiet (Keep.refl _ _).drew
/-- The Store has turned. -/
theorem CG.store (h : CG w p S s pa qa zs C q at') (hv : VAt w' p S' s') (ok : ROk s') (k : VKeep S S' w w') : CG w' p S' s' pa qa zs C q at' := by
  obtain ⟨l0, l1, l2⟩ := h.la
  obtain ⟨c, ha, c0, c1⟩ := h.ar
  have far : ∀ j, j < w.heap.size → ¬ S j → ¬ S' j := fun j hj hn x => by
    rcases k.2 j x with y | y
    · exact hn y
    · omega
  exact ⟨hv, ok, ⟨c, ha.keep k.1 h.n0 h.n1, c0, c1⟩, h.ch.keep k.1 h.n2, h.lt, far _ l0 h.n0, far _ l1 h.n1, far _ l2 h.n2, h.n3, h.n4⟩
/-- The Arena has turned. -/
theorem CG.arena (h : CG w p S s pa qa zs C q at') (ar : ∃ c, Ar w' pa qa zs' c ∧ 0 ≤ c ∧ c ≤ C') (hl : zs'.length = zs.length) (k : Keep (Two pa qa) w w') : CG w' p S s pa qa zs' C' q at' :=
  ⟨h.hv.keep k (fun g hg x => by rcases x with x | x; exact h.n0 (x ▸ hg); exact h.n1 (x ▸ hg)), h.ok, ar, h.ch.keep k (fun x => by rcases x with x | x; exact h.n3 x; exact h.n4 x), by rw [hl]; exact h.lt, h.n0, h.n1, h.n2, h.n3, h.n4⟩
theorem CG.up (h : CG w p S s pa qa zs C q at') (hC : C ≤ C') : CG w p S s pa qa zs C' q at' := by
  obtain ⟨c, ha, c0, c1⟩ := h.ar
  exact ⟨h.hv, h.ok, ⟨c, ha, c0, by omega⟩, h.ch, h.lt, h.n0, h.n1, h.n2, h.n3, h.n4⟩
theorem CG.more (h : CG w p S s pa qa zs C q at') (n : Nat) : CG w p S (s.more n) pa qa zs C q at' :=
  ⟨h.hv.up rfl rfl (by show s.c ≤ s.c + 64 * (n : Int); omega), h.ok.more n, h.ar, h.ch, h.lt, h.n0, h.n1, h.n2, h.n3, h.n4⟩
theorem cnew_no (x y : Option Addr) (i : Int) (w : World) (h : x = none ∨ y = none) : Calls Try.prog 20 #[.pointer x, .pointer y, .int .i64 i] w fun e w' => e = .returned (.tuple #[.pointer none, .int .i64 1]) ∧ w = w' := by
  cases x with
  | none =>
    go_enter Try.func20, Try.ntmps20
    go_wp2
    go_ret2
    exact ⟨rfl, rfl⟩
  | some x =>
    obtain rfl : y = none := by simpa using h
    go_enter Try.func20, Try.ntmps20
    go_wp2
    go_ret2
    exact ⟨rfl, rfl⟩
theorem cnew_ok (hv : VAt w p S s) (ok : ROk s) {c : Int} (ha : Ar w pa qa zs c) (c0 : 0 ≤ c) (c1 : c ≤ C) (hi : at' < zs.length) (n0 : ¬ S pa) (n1 : ¬ S qa) :
    Calls Try.prog 20 #[.pointer (some ⟨p, 0, none⟩), .pointer (some ⟨pa, 0, none⟩), .int .i64 at'] w fun e w' => ∃ q, e = .returned (.tuple #[.pointer (some ⟨q, 0, none⟩), .int .i64 0]) ∧ CG w' p S s pa qa zs C q at' ∧ w.heap.size ≤ q ∧ Keep (fun _ => False) w w' := by
  have hn := len_any pa qa zs c w ha
  have hl := ha.len
  go_enter Try.func20, Try.ntmps20
  go_wp2_with (go_at_call 26; refine (len_any pa qa zs c _ ha).mono ?_; rintro e w' ⟨rfl, rfl⟩)
  go_ret2
  have k := Keep.alloc (Keep.refl (fun _ => False) w) (.cells #[.pointer (some ⟨p, 0, none⟩), .pointer (some ⟨pa, 0, none⟩), .int .i64 at'] 92)
  have l0 := ha.lt
  have l1 := ha.ws.lt
  refine ⟨_, rfl, ⟨hv.keep k (by simp), ok, ⟨c, ha.keep k (by simp) (by simp), c0, c1⟩, ⟨by simp, by simp, by simp⟩, hi, n0, n1, fun x => ?_, by omega, by omega⟩, Nat.le_refl _, k⟩
  have := hv.lt _ x
  omega
end
end Go.Proofs.Ytmfpjnlplimkeaa
