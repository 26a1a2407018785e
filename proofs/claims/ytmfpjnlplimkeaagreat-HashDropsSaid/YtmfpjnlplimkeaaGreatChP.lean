/- Package chain, third part: Push and Cut of any Chain over a Store and a word of an Arena; condition: 4095 links at most, the counts of accesses at most 2^61. -/
import Derived.Test.YtmfpjnlplimkeaaGreatChM
namespace Go.Proofs.YtmfpjnlplimkeaaGreat
open Go.ChangeShapes Go.WideShapes Go.ChangeAt Go.RowKit
set_option linter.unusedVariables false

section
variable {w w1 w' : World} {p pa qa q at' : Nat} {S S1 S' : Nat → Prop} {s s' : RS} {zs zs' : List Int} {C C' : Int} {l : List Int}
theorem ccas (h : CG w p S s pa qa zs C q at') (hC : C ≤ 4611686018427387904) (o x : Int) (hx : U64 x) (ho : zs.getD at' 0 = o) :
    Calls Tryz.prog 34 #[.pointer (some ⟨pa, 0, none⟩), .int .i64 at', .int .u64 o, .int .u64 x] w fun e w' => e = .returned (.bool true) ∧ CG w' p S s pa qa (zs.set at' x) (C + 1) q at' ∧ Keep (Two pa qa) w w' := by
  obtain ⟨c, ha, c0, c1⟩ := h.ar
  refine (cas_hit pa qa zs c at' o x w ha h.lt c0 (by omega) hx.1 hx.2 ho).mono ?_
  rintro e w1 ⟨rfl, h1, k1⟩
  exact ⟨rfl, h.arena ⟨_, h1, by omega, by omega⟩ (by simp) k1, k1⟩
theorem cnext (h : CG w p S s pa qa zs C q at') (hc : s.c ≤ 4611686018427387904) (x t : Int) (hx : U64 x) (ht : U64 t) (f : Int) (s' : RS) (hs : s.next x t = (f, s')) :
    Calls Tryz.prog 33 #[.pointer (some ⟨p, 0, none⟩), .int .u64 x, .int .u64 t] w fun e w' => e = .returned (.int .i64 f) ∧ ∃ S', CG w' p S' s' pa qa zs C q at' ∧ Turn pa qa S S' w w' := by
  have ok := rOk_next h.ok x t ht
  refine (vnext_any h.hv h.ok hc x t hx ht).mono ?_
  rw [hs] at ok ⊢
  rintro e w1 ⟨rfl, S1, h1, k1, g1⟩
  exact ⟨rfl, S1, h.store h1 ok ⟨k1, g1⟩, Turn.store ⟨k1, g1⟩⟩
theorem cfrom (h : CG w p S s pa qa zs C q at') (hc : s.c ≤ 2305843009213693952) (ln : Linked s l) (hl : l.length ≤ 4095) (x : Int) (hx : l.headD 0 = x) :
    Calls Tryz.prog 32 #[.pointer (some ⟨q, 0, none⟩), .int .u64 x] w fun e w' => ∃ v S', e = .returned v ∧ OwnU w.heap.size w' v l ∧ CG w' p S' (s.more (l.length + 1)) pa qa zs C q at' ∧ Turn pa qa S S' w w' := by
  refine (cfrom_any h.hv h.ok hc ln hl h.ch.c0 h.n2 x hx).mono ?_
  rintro e w1 ⟨v, S1, rfl, f⟩
  exact ⟨v, S1, rfl, f.ow, h.store f.h (h.ok.more _) f.k, Turn.store f.k⟩
theorem head_u64 (ln : Linked s l) (ok : ROk s) : U64 (l.headD 0) := by
  have := ln.u64 ok 0
  cases l <;> exact this
set_option maxRecDepth 100000 in
/-- What stands there is not put there. -/
theorem cpush_in (h : CG w p S s pa qa zs C q at') (hC : C ≤ 2305843009213693952) (hc : s.c ≤ 2305843009213693952) (ln : Linked s l) (hl : l.length ≤ 4095) (hz : zs.getD at' 0 = l.headD 0) (x : Int) (hx : x ∈ l) :
    Calls Tryz.prog 9 #[.pointer (some ⟨q, 0, none⟩), .int .u64 x] w fun e w' => e = .returned (.bool false) ∧ ∃ S', CG w' p S' (s.more (l.length + 1)) pa qa zs (C + 1) q at' ∧ Turn pa qa S S' w w' := by
  obtain ⟨y, ey⟩ : ∃ y, l.headD 0 = y := ⟨_, rfl⟩
  rw [ey] at hz
  have hh := chead h (by omega) y hz
  clear hz
  go_enter Tryz.func9, Tryz.ntmps9
  go_wp2
  go_loopw [5] (fun i wr => w = wr) (fun _ _ => 0)
  case atStart => exact rfl
  case round =>
    obtain rfl := hrel
    go_wp2_with fail
    refine hh.mono ?_
    rintro e w1 ⟨rfl, h1, k1⟩
    have hf := cfrom h1 hc ln hl y ey
    clear hh ey
    go_wp2_with fail
    refine hf.mono ?_
    rintro e w2 ⟨v, S2, rfl, o, h2, t2⟩
    clear hf
    go_wp2_with fail
    refine (contains_yes o (by omega) x hx).mono ?_
    rintro e w' ⟨rfl, rfl⟩
    clear o hx
    go_wp2
    go_ret
    exact ⟨rfl, S2, h2, (Turn.arena k1).trans t2⟩
set_option maxRecDepth 100000 in
/-- What does not live is not put there. -/
theorem cpush_dead (h : CG w p S s pa qa zs C q at') (hC : C ≤ 2305843009213693952) (hc : s.c ≤ 2305843009213693952) (ln : Linked s l) (hl : l.length ≤ 4095) (hz : zs.getD at' 0 = l.headD 0) (x : Int) (ux : U64 x) (hx : s.s.live x = false) :
    Calls Tryz.prog 9 #[.pointer (some ⟨q, 0, none⟩), .int .u64 x] w fun e w' => e = .returned (.bool false) ∧ ∃ S', CG w' p S' (s.more (l.length + 2)) pa qa zs (C + 1) q at' ∧ Turn pa qa S S' w w' := by
  have hn : x ∉ l := fun hm => by have := ln.live x hm; rw [hx] at this; cases this
  have uy := head_u64 ln h.ok
  obtain ⟨y, ey⟩ : ∃ y, l.headD 0 = y := ⟨_, rfl⟩
  rw [ey] at hz uy
  have hh := chead h (by omega) y hz
  clear hz
  go_enter Tryz.func9, Tryz.ntmps9
  go_wp2
  go_loopw [5] (fun i wr => w = wr) (fun _ _ => 0)
  case atStart => exact rfl
  case round =>
    obtain rfl := hrel
    go_wp2_with fail
    refine hh.mono ?_
    rintro e w1 ⟨rfl, h1, k1⟩
    have hf := cfrom h1 hc ln hl y ey
    clear hh ey
    go_wp2_with fail
    refine hf.mono ?_
    rintro e w2 ⟨v, S2, rfl, o, h2, t2⟩
    clear hf
    go_wp2_with fail
    refine (contains_no o (by omega) x hn).mono ?_
    rintro e w' ⟨rfl, rfl⟩
    have e0 := h2.ch.c0
    have hnx := cnext h2 (by show s.c + 64 * ((l.length + 1 : Nat) : Int) ≤ _; omega) x y ux uy 8 (s.more (l.length + 2)) (by rw [dead_next (by exact hx), RS.more_tick])
    clear o hn hx
    go_wp2_with fail
    refine hnx.mono ?_
    rintro e w3 ⟨rfl, S3, h3, t3⟩
    clear hnx e0
    go_wp2
    go_ret
    exact ⟨rfl, S3, h3, ((Turn.arena k1).trans t2).trans t3⟩
set_option maxRecDepth 100000 in
/-- A version that lives, and does not stand there, is put ahead of the others. -/
theorem cpush_ok (h : CG w p S s pa qa zs C q at') (hC : C ≤ 2305843009213693952) (hc : s.c ≤ 2305843009213693952) (ln : Linked s l) (hl : l.length ≤ 4095) (hz : zs.getD at' 0 = l.headD 0) (x : Int) (hx : s.s.live x = true) (hn : x ∉ l) :
    Calls Tryz.prog 9 #[.pointer (some ⟨q, 0, none⟩), .int .u64 x] w fun e w' => e = .returned (.bool true) ∧ ∃ S', CG w' p S' ((s.more (l.length + 1)).put (slotOf x) { s.ver (slotOf x) with n := l.headD 0 }) pa qa (zs.set at' x) (C + 2) q at' ∧ Turn pa qa S S' w w' := by
  have ux : U64 x := by
    obtain ⟨h1, _, h2⟩ := slot_live hx
    have := link_b h.ok.p _ h1
    rw [← h2] at this
    exact ⟨by omega, by omega⟩
  have uy := head_u64 ln h.ok
  obtain ⟨y, ey⟩ : ∃ y, l.headD 0 = y := ⟨_, rfl⟩
  rw [ey] at hz uy ⊢
  have hh := chead h (by omega) y hz
  go_enter Tryz.func9, Tryz.ntmps9
  go_wp2
  go_loopw [5] (fun i wr => w = wr) (fun _ _ => 0)
  case atStart => exact rfl
  case round =>
    obtain rfl := hrel
    go_wp2_with fail
    refine hh.mono ?_
    rintro e w1 ⟨rfl, h1, k1⟩
    have hf := cfrom h1 hc ln hl y ey
    clear hh ey
    go_wp2_with fail
    refine hf.mono ?_
    rintro e w2 ⟨v, S2, rfl, o, h2, t2⟩
    clear hf
    go_wp2_with fail
    refine (contains_no o (by omega) x hn).mono ?_
    rintro e w' ⟨rfl, rfl⟩
    have e0 := h2.ch.c0
    have hnx := cnext h2 (by show s.c + 64 * ((l.length + 1 : Nat) : Int) ≤ _; omega) x y ux uy 0 ((s.more (l.length + 1)).put (slotOf x) { s.ver (slotOf x) with n := y }) (by unfold RS.next; rw [if_pos (by exact hx)]; rfl)
    clear o hn hx
    go_wp2_with fail
    refine hnx.mono ?_
    rintro e w3 ⟨rfl, S3, h3, t3⟩
    clear hnx e0
    have e1 := h3.ch.c1
    have e2 := h3.ch.c2
    have kd := (Keep.refl (fun _ => False) w3).drew
    have hd := h3.drew
    have hcs := ccas hd (by omega) y x ux hz
    clear hz
    go_wp2_with fail
    go_still_tail 10, (by kernel_rfl)
    change wpList _ _ _ _ _ w3.drew
    go_wp2_with fail
    refine hcs.mono ?_
    rintro e w4 ⟨rfl, h4, k4⟩
    clear hcs
    go_wp2
    go_ret
    exact ⟨rfl, S3, h4.up (by omega), (((Turn.arena k1).trans t2).trans t3).trans ((Turn.quiet kd).trans (Turn.arena k4))⟩
end
end Go.Proofs.YtmfpjnlplimkeaaGreat
