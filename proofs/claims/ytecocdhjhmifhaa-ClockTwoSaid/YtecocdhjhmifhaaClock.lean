/- Contracts of package clock (New, Draw, Now, Limit) and the statement's helper awake: what each returns, what becomes of the Arena it stands on; conditions: the Arena is one that New made, each number fits its kind. -/
import Derived.Test.YtecocdhjhmifhaaMeth
import Derived.Deep.QuietTactic
import Derived.BigQuiet
import Derived.StillTailTactics
namespace Go.Proofs.Ytecocdhjhmifhaa
open Go.ChangeShapes Go.WideShapes Go.ChangeAt Go.RowKit
set_option linter.unusedVariables false

/-- A Clock at block r, on word at of the Arena at p, with its limit. -/
structure Ck (w : World) (r p at' : Nat) (lim : Int) : Prop where
  ws : w.cell? ⟨r, 0, none⟩ = some (.pointer (some ⟨p, 0, none⟩))
  pl : w.cell? ⟨r, 1, none⟩ = some (.int .i64 at')
  li : w.cell? ⟨r, 2, none⟩ = some (.int .u64 lim)
theorem Ck.keep {S : Nat → Prop} {w w' : World} {r p at' : Nat} {lim : Int} (h : Ck w r p at' lim) (k : Keep S w w') (hr : ¬ S r) : Ck w' r p at' lim :=
  ⟨k.cell h.ws hr, k.cell h.pl hr, k.cell h.li hr⟩
/-- An Arena of n words at p, q, whose word at is y, its count C at most. -/
def Wd (w : World) (p q n at' : Nat) (y C : Int) : Prop := ∃ (zs : List Int) (c : Int), Ar w p q zs c ∧ zs.length = n ∧ zs.getD at' 0 = y ∧ 0 ≤ c ∧ c ≤ C
theorem Wd.keep {S : Nat → Prop} {w w' : World} {p q n at' : Nat} {y C : Int} (h : Wd w p q n at' y C) (k : Keep S w w') (hp : ¬ S p) (hq : ¬ S q) : Wd w' p q n at' y C := by
  obtain ⟨zs, c, ha, h1, h2, h3, h4⟩ := h
  exact ⟨zs, c, ha.keep k hp hq, h1, h2, h3, h4⟩
theorem Wd.lt {w : World} {p q n at' : Nat} {y C : Int} (h : Wd w p q n at' y C) : p < w.heap.size ∧ q < w.heap.size := by
  obtain ⟨zs, c, ha, _⟩ := h
  exact ⟨ha.lt, ha.ws.lt⟩
theorem Wd.b {w : World} {p q n at' : Nat} {y C : Int} (h : Wd w p q n at' y C) : 0 ≤ y ∧ y ≤ 18446744073709551615 := by
  obtain ⟨zs, c, ha, _, rfl, _⟩ := h
  exact ha.all at'
def CkPost (p at' : Nat) (lim : Int) (w : World) (e : Ending) (w' : World) : Prop :=
  ∃ r, e = .returned (.tuple #[.pointer (some ⟨r, 0, none⟩), .int .i64 0]) ∧ Ck w' r p at' lim ∧ w.heap.size ≤ r ∧ Below w.heap.size w w'
theorem cknew_ok {p q n at0 : Nat} {y C : Int} (at' : Nat) (lim : Int) {w : World} (h : Wd w p q n at0 y C) (ha : at' < n) (l0 : 1 ≤ lim) (l1 : lim ≤ 1099511627776) :
    Calls Try.prog 7 #[.pointer (some ⟨p, 0, none⟩), .int .i64 at', .int .u64 lim] w (CkPost p at' lim w) := by
  obtain ⟨zs, c, har, rfl, _⟩ := h
  go_enter Try.func7, Try.ntmps7
  go_wp2_with (go_at_call 14; refine (len_any p q zs c _ har).mono ?_; rintro e w' ⟨rfl, rfl⟩)
  go_ret2
  refine ⟨_, rfl, ?_, Nat.le_refl _, ((Keep.refl (fun _ => False) w).alloc _).below (Nat.le_refl _) (by simp)⟩
  exact ⟨by simp, by simp, by simp⟩
theorem cknew_nil (at' lim : Int) (w : World) :
    Calls Try.prog 7 #[.pointer none, .int .i64 at', .int .u64 lim] w fun e w' => e = .returned (.tuple #[.pointer none, .int .i64 1]) ∧ w = w' := by
  go_enter Try.func7, Try.ntmps7
  go_wp2
  go_ret2
  exact ⟨rfl, rfl⟩
theorem cknew_no {p q n at0 : Nat} {y C : Int} (at' lim : Int) {w : World} (h : Wd w p q n at0 y C) (ha : at' < 0 ∨ (n : Int) ≤ at' ∨ lim < 1 ∨ 1099511627776 < lim) :
    Calls Try.prog 7 #[.pointer (some ⟨p, 0, none⟩), .int .i64 at', .int .u64 lim] w fun e w' => e = .returned (.tuple #[.pointer none, .int .i64 1]) ∧ w = w' := by
  obtain ⟨zs, c, har, rfl, _⟩ := h
  rcases (by omega : at' < 0 ∨ (0 ≤ at' ∧ (zs.length : Int) ≤ at') ∨ (0 ≤ at' ∧ at' < zs.length ∧ lim < 1) ∨ (0 ≤ at' ∧ at' < zs.length ∧ 1 ≤ lim ∧ 1099511627776 < lim)) with h | ⟨h, h2⟩ | ⟨h, h2, h3⟩ | ⟨h, h2, h3, h4⟩
  all_goals
    go_enter Try.func7, Try.ntmps7
    go_wp2_with (go_at_call 14; refine (len_any p q zs c _ har).mono ?_; rintro e w' ⟨rfl, rfl⟩)
    go_ret2
    exact ⟨rfl, rfl⟩
/-- The value v; the Arena's word at is now y, its count C at most; nothing else has turned. -/
def WPost (v : Value) (p q n at' : Nat) (y C : Int) (w : World) (e : Ending) (w' : World) : Prop :=
  e = .returned v ∧ Wd w' p q n at' y C ∧ Keep (Two p q) w w'
theorem wload {p q n at' : Nat} {y C : Int} {w : World} (h : Wd w p q n at' y C) (ha : at' < n) (hC : C < 9223372036854775807) (C2 : Int) (h2 : C + 1 = C2) :
    Calls Try.prog 12 #[.pointer (some ⟨p, 0, none⟩), .int .i64 at'] w (WPost (.int .u64 y) p q n at' y C2 w) := by
  obtain ⟨zs, c, har, rfl, rfl, c0, c1⟩ := h
  refine (load_in p q zs c at' w har ha c0 (by omega)).mono ?_
  rintro e w1 ⟨rfl, h1, k1⟩
  exact ⟨rfl, ⟨zs, _, h1, rfl, rfl, by omega, by omega⟩, k1⟩
theorem wstore {p q n at' : Nat} {y C : Int} {w : World} (x : Int) (h : Wd w p q n at' y C) (ha : at' < n) (hC : C < 9223372036854775807) (x0 : 0 ≤ x) (x1 : x ≤ 18446744073709551615) (C2 : Int) (h2 : C + 1 = C2) :
    Calls Try.prog 8 #[.pointer (some ⟨p, 0, none⟩), .int .i64 at', .int .u64 x] w (WPost (.tuple #[]) p q n at' x C2 w) := by
  obtain ⟨zs, c, har, rfl, rfl, c0, c1⟩ := h
  refine (store_in p q zs c at' x w har ha c0 (by omega) x0 x1).mono ?_
  rintro e w1 ⟨rfl, h1, k1⟩
  exact ⟨rfl, ⟨_, _, h1, by simp, by simp [List.getD_eq_getElem?_getD, ha], by omega, by omega⟩, k1⟩
theorem wcas {p q n at' : Nat} {y C : Int} {w : World} (x : Int) (h : Wd w p q n at' y C) (ha : at' < n) (hC : C < 9223372036854775807) (x0 : 0 ≤ x) (x1 : x ≤ 18446744073709551615) (C2 : Int) (h2 : C + 1 = C2) :
    Calls Try.prog 17 #[.pointer (some ⟨p, 0, none⟩), .int .i64 at', .int .u64 y, .int .u64 x] w (WPost (.bool true) p q n at' x C2 w) := by
  obtain ⟨zs, c, har, rfl, rfl, c0, c1⟩ := h
  refine (cas_hit p q zs c at' _ x w har ha c0 (by omega) x0 x1 rfl).mono ?_
  rintro e w1 ⟨rfl, h1, k1⟩
  exact ⟨rfl, ⟨_, _, h1, by simp, by simp [List.getD_eq_getElem?_getD, ha], by omega, by omega⟩, k1⟩
theorem cknow {r p q n at' : Nat} {lim y C : Int} {w : World} (h : Wd w p q n at' y C) (k : Ck w r p at' lim) (ha : at' < n) (hC : C < 9223372036854775807) (C2 : Int) (h2 : C + 1 = C2) :
    Calls Try.prog 10 #[.pointer (some ⟨r, 0, none⟩)] w (WPost (.int .u64 y) p q n at' y C2 w) := by
  have e1 := k.ws
  have e2 := k.pl
  go_enter Try.func10, Try.ntmps10
  have kd := (Keep.refl (fun _ => False) w).drew
  have hd := h.keep kd (by simp) (by simp)
  go_wp2_with fail
  go_still_tail 8, (by kernel_rfl)
  change wpList _ _ _ _ _ w.drew
  go_wp2_with fail
  refine (wload hd ha hC C2 h2).mono ?_
  rintro e w1 ⟨rfl, h1, k1⟩
  go_wp2
  go_ret
  exact ⟨rfl, h1, (kd.mono (by simp)).trans k1⟩
theorem cklimit {r p at' : Nat} {lim : Int} {w : World} (k : Ck w r p at' lim) :
    Calls Try.prog 13 #[.pointer (some ⟨r, 0, none⟩)] w fun e w' => e = .returned (.int .u64 lim) ∧ w = w' := by
  have e1 := k.li
  go_enter Try.func13, Try.ntmps13
  go_wp2
  go_ret
  exact ⟨rfl, rfl⟩
theorem ckdraw_ok {r p q n at' : Nat} {lim y C : Int} {w : World} (h : Wd w p q n at' y C) (k : Ck w r p at' lim) (hr : ¬ Two p q r) (ha : at' < n) (hC : C < 9223372036854775800) (hl : y < lim) (l1 : lim ≤ 1099511627776) (t C2 : Int) (ht : y + 1 = t) (h2 : C + 2 = C2) :
    Calls Try.prog 9 #[.pointer (some ⟨r, 0, none⟩)] w (WPost (.tuple #[.int .u64 t, .int .i64 0]) p q n at' t C2 w) := by
  have yb := h.b
  have wr1 : IntKind.u64.wrap (y + 1) = t := by rw [IntKind.wrap_u64]; omega
  have hn : ¬ lim ≤ y := by omega
  have HT := Lib.hid ht
  clear ht
  go_enter Try.func9, Try.ntmps9
  go_wp2
  go_loopw [3] (fun i wr => w = wr) (fun _ _ => 0)
  case atStart => exact rfl
  case round =>
    obtain rfl := hrel
    go_wp2_with fail
    refine (cknow h k ha (by omega) _ rfl).mono ?_
    rintro e w1 ⟨rfl, h1, k1⟩
    have c1 := k.keep k1 hr
    have e1 := c1.ws
    have e2 := c1.pl
    have e3 := c1.li
    have kd := (Keep.refl (fun _ => False) w1).drew
    have hd := h1.keep kd (by simp) (by simp)
    go_wp2_with fail
    go_still_tail 11, (by kernel_rfl)
    change wpList _ _ _ _ _ w1.drew
    go_wp2_with fail
    refine (wcas t hd ha (by omega) (by have := HT.out; omega) (by have := HT.out; omega) C2 (by omega)).mono ?_
    rintro e w2 ⟨rfl, h2, k2⟩
    go_wp2
    go_ret2
    exact ⟨rfl, h2, k1.trans ((kd.mono (by simp)).trans k2)⟩
theorem ckdraw_over {r p q n at' : Nat} {lim y C : Int} {w : World} (h : Wd w p q n at' y C) (k : Ck w r p at' lim) (hr : ¬ Two p q r) (ha : at' < n) (hC : C < 9223372036854775800) (hl : lim ≤ y) (C2 : Int) (h2 : C + 1 = C2) :
    Calls Try.prog 9 #[.pointer (some ⟨r, 0, none⟩)] w (WPost (.tuple #[.int .u64 0, .int .i64 16]) p q n at' y C2 w) := by
  have yb := h.b
  go_enter Try.func9, Try.ntmps9
  go_wp2
  go_loopw [3] (fun i wr => w = wr) (fun _ _ => 0)
  case atStart => exact rfl
  case round =>
    obtain rfl := hrel
    go_wp2_with fail
    refine (cknow h k ha (by omega) C2 h2).mono ?_
    rintro e w1 ⟨rfl, h1, k1⟩
    have c1 := k.keep k1 hr
    have e3 := c1.li
    go_wp2
    go_ret2
    exact ⟨rfl, h1, k1⟩
/-- An Arena that New has made, at any of its words. -/
theorem wd_new {w : World} {p q n : Nat} (at' : Nat) (h : Ar w p q (List.replicate n 0) 0) : Wd w p q n at' 0 0 :=
  ⟨_, _, h, by simp, getD_zero n at', Int.le_refl _, Int.le_refl _⟩
theorem Wd.at {w : World} {p q n at' : Nat} {y C : Int} (h : Wd w p q n at' y C) (at2 : Nat) : ∃ y2, Wd w p q n at2 y2 C := by
  obtain ⟨zs, c, h0, h1, h2, h3, h4⟩ := h
  exact ⟨_, zs, c, h0, h1, rfl, h3, h4⟩
theorem awake4_any (w : World) : Calls Try.prog 11 #[] w fun e w' => e = .returned (.bool true) ∧ Below w.heap.size w w' := by
  go_enter Try.func11, Try.ntmps11
  go_wp2_with fail
  refine (new_ok 3 _ (by omega) (by omega)).mono ?_
  rintro e w1 ⟨p, q, rfl, h1, hp, hq, b1⟩
  have h1 := wd_new 1 h1
  go_wp2_with fail
  refine (cknew_ok 1 1 h1 (by omega) (by omega) (by omega)).mono ?_
  rintro e w2 ⟨r, rfl, c2, hr, b2⟩
  have l1 := h1.lt
  have h2 := h1.keep (Keep.of_below b2 (fun _ => False)) (by simp) (by simp)
  have nr : ¬ Two p q r := by unfold Two; omega
  have b2 := b1.trans (b2.mono b1.size)
  go_wp2_with fail
  refine (ckdraw_ok h2 c2 nr (by omega) (by omega) (by omega) (by omega) 1 _ rfl rfl).mono ?_
  rintro e w3 ⟨rfl, h3, k3⟩
  have c3 := c2.keep k3 nr
  have b3 := b2.trans (k3.below b2.size (two_ge hp hq))
  go_wp2_with fail
  refine (ckdraw_over h3 c3 nr (by omega) (by omega) (by omega) _ rfl).mono ?_
  rintro e w4 ⟨rfl, h4, k4⟩
  have c4 := c3.keep k4 nr
  have b4 := b3.trans (k4.below b3.size (two_ge hp hq))
  go_wp2_with fail
  refine (wload h4 (by omega) (by omega) _ rfl).mono ?_
  rintro e w5 ⟨rfl, h5, k5⟩
  have c5 := c4.keep k5 nr
  have b5 := b4.trans (k5.below b4.size (two_ge hp hq))
  go_wp2_with fail
  refine (cklimit c5).mono ?_
  rintro e w6 ⟨rfl, rfl⟩
  go_wp2
  go_ret
  exact ⟨rfl, b5⟩
end Go.Proofs.Ytecocdhjhmifhaa
