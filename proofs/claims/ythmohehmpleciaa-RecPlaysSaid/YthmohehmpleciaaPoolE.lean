/- Contract of All of package pool: the links of the taken slots, in a slice of the call's own; condition: a state that calls can bring about. -/
import Derived.Test.YthmohehmpleciaaPoolA
import Derived.Test.YthmohehmpleciaaPush
namespace Go.Proofs.Ythmohehmpleciaa
open Go.ChangeShapes Go.WideShapes Go.ChangeAt Go.RowKit
set_option linter.unusedVariables false

section
variable {w : World} {p b1 : Nat} {d m : Int} {vf : Value} {u : Int} {s : St}
def AllP (zs : List Int) (w : World) (e : Ending) (w' : World) : Prop := ∃ v, e = .returned v ∧ OwnU w.heap.size w' v zs ∧ Below w.heap.size w w'
set_option maxHeartbeats 4000000 in
theorem qall (h : Core w p b1 d m vf u s) (ok : Ok s) (hu0 : 0 ≤ u) (hu1 : u ≤ 4096) : Calls Try.prog 36 #[.pointer (some ⟨p, 0, none⟩)] w (AllP (allTo s s.tags.length) w) := by
  have g0 := h.c0
  have g2 := h.c2
  have n1 := ok.n1
  have lb := h.lb
  have lp := h.lp
  obtain ⟨c, rfl⟩ := Int.eq_ofNat_of_zero_le hu0
  obtain ⟨i0, hi, hz0, hz1, hz2⟩ := info_parts info_push
  obtain ⟨n, en⟩ : ∃ n, s.tags.length = n := ⟨_, rfl⟩
  rw [en] at g0 n1 ⊢
  go_enter Try.func36, Try.ntmps36
  go_wp2_with (with_reducible refine wpList_make_own _ rfl (.const (.int .i64 0)) (.tmp 9) 27 rfl w.heap.size 22 i0 (.int .u64 0) 1 Try.underlying27 hi hz0 hz1 .i64 .i64 c c rfl rfl rfl (by rw [hz2]; omega) (by unfold maxLen; omega) (Nat.le_refl _) ?_)
  intro x1 o1 gr1
  have B1 := (Keep.mk gr1.os gr1.tape gr1.output gr1.size (fun k hk _ => gr1.block k hk (by simp)) : Keep (fun _ => False) w x1)
  have y0 := B1.cell g0 (by simp)
  have B1 := B1.below (Nat.le_refl _) (by simp)
  have o1 : OwnU w.heap.size x1 (.slice (some ⟨w.heap.size, 0, none⟩) 0 c) (allTo s 0) := o1
  clear gr1 g0 g2
  go_wp2
  go_loopw [3, 16] (fun v i wr => ∃ k : Nat, k ≤ n ∧ i = .int .i64 k ∧ OwnU w.heap.size wr v (allTo s k) ∧ Below w.heap.size w wr) (fun _ i _ => n - (intOf i).toNat)
  case atStart => exact ⟨0, Nat.zero_le _, rfl, o1, B1⟩
  case round =>
    obtain ⟨k, hk, rfl, ow, br⟩ := hrel
    clear o1 B1 y0
    by_cases hlt : k < n
    · have C := h.keep (Keep.of_below br (fun _ => False)) (by simp) (by simp)
      have yt := C.tg k (by omega)
      have yk := C.tk k (by omega)
      have lbr := C.lb
      obtain ⟨t, et⟩ : ∃ t, s.tag k = t := ⟨_, rfl⟩
      rw [et] at yt
      clear et
      cases tk : s.tk k with
      | false =>
        have E : allTo s (k + 1) = allTo s k := by simp [allTo, tk]
        have HE := Lib.hid E
        rw [tk] at yk
        clear tk E
        have ow1 := ow.keep (Keep.alloc (Keep.refl (fun _ => False) wr) (.cells #[.int .i64 t, .bool false] 100)) (by simp)
        have br1 := br.alloc (o := .cells #[.int .i64 t, .bool false] 100) br.size
        rw [← HE.out] at ow1
        go_wp2
        go_roundw
        case rel => exact ⟨k + 1, by omega, by go_num, ow1, br1⟩
        case measure => simp [intOf]; omega
      | true =>
        have E : allTo s (k + 1) = allTo s k ++ [s.link k] := by simp [allTo, tk]
        have HE := Lib.hid E
        rw [tk] at yk
        clear tk E
        have k1 := Keep.alloc (Keep.refl (fun _ => False) wr) (.cells #[.int .i64 t, .bool true] 100)
        have C1 := C.keep k1 (by simp) (by simp)
        have ow1 := ow.keep k1 (by simp)
        have br1 := br.trans (k1.below br.size (by simp))
        have L := qlink_b C1 k (by omega) (by omega) (tag_bp ok k)
        have lc := allTo_len s k
        go_wp2_with fail
        obtain ⟨x2, ex⟩ : ∃ x, wr.alloc (.cells #[.int .i64 t, .bool true] 100) = x := ⟨_, rfl⟩
        rw [ex] at L ow1 br1 ⊢
        clear ex C C1 k1 ow br yt yk
        refine L.mono ?_
        rintro e w' ⟨rfl, rfl⟩
        go_wp2_with (with_reducible refine wp_stop 28 rfl ?_)
        intro _
        refine wp_push rfl (.tmp 23) (.tmp 27) rfl w.heap.size br1.size u3 (allTo s k) rfl ow1 (s.link k) rfl (by omega) ?_
        intro g c' w3 o3 k3 hg
        have b3 := br1.trans (k3.below br1.size (fun x hx => (ow1.lt hx).1))
        rw [← HE.out] at o3
        have ll : (allTo s (k + 1)).length = (allTo s k).length + 1 := by rw [HE.out]; simp
        have LL := Lib.hid ll
        clear ll
        go_wp2
        go_roundw
        case rel => exact ⟨k + 1, by omega, by go_num, o3, b3⟩
        case measure => simp [intOf]; omega
    · obtain rfl : k = n := by omega
      go_wp2
      go_ret
      exact ⟨_, rfl, ow, br⟩
end
end Go.Proofs.Ythmohehmpleciaa
