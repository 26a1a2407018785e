/- Package tower: key, wordOf, placeOf, is, next, link; conditions: the level is 0 to 3, the place 0 to 64. -/
import Derived.Test.YtopnhkogapidhaaTwA
import Derived.Test.YtopnhkogapidhaaTwM
import Derived.StillTailTactics
namespace Go.Proofs.Ytopnhkogapidhaa
open Go.ChangeShapes Go.WideShapes Go.ChangeAt Go.RowKit
set_option linter.unusedVariables false

/-- A Tower at block t, its words zs at q, of the Arena at p. -/
structure TwAt (w : World) (t p q : Nat) (zs : List Int) : Prop where
  c0 : w.cell? ⟨t, 0, none⟩ = some (.pointer (some ⟨p, 0, none⟩))
  ar : ArX w p q zs
  n0 : t ≠ p
  n1 : t ≠ q
  len : zs.length = 260
section
variable {w w' : World} {t p q : Nat} {zs zs' : List Int}
theorem TwAt.keep {T : Nat → Prop} (h : TwAt w t p q zs) (k : Keep T w w') (ht : ¬ T t) (hp : ¬ T p) (hq : ¬ T q) : TwAt w' t p q zs := ⟨k.cell h.c0 ht, h.ar.keep k hp hq, h.n0, h.n1, h.len⟩
theorem TwAt.quiet (h : TwAt w t p q zs) (k : Keep (fun _ => False) w w') : TwAt w' t p q zs := h.keep k (by simp) (by simp) (by simp)
theorem TwAt.turn (h : TwAt w t p q zs) (ar : ArX w' p q zs') (hl : zs'.length = zs.length) (k : Keep (Two p q) w w') : TwAt w' t p q zs' :=
  ⟨k.cell h.c0 (fun x => by rcases x with x | x; exact h.n0 x; exact h.n1 x), ar, h.n0, h.n1, hl.trans h.len⟩
theorem TwAt.lt (h : TwAt w t p q zs) : t < w.heap.size ∧ p < w.heap.size ∧ q < w.heap.size := by
  obtain ⟨c, ha⟩ := h.ar
  exact ⟨lt_of_cell (a := ⟨t, 0, none⟩) h.c0, ha.lt, ha.ws.lt⟩
theorem key_any (n : Nat) (hn : n ≤ 64) (k : Int) (hk : (n : Int) - 1 = k) (w : World) : Calls Try.prog 28 #[.int .i64 n] w fun e w' => e = .returned (.int .i64 k) ∧ w = w' := by
  have ew : IntKind.i64.wrap ((n : Int) - 1) = k := by rw [IntWalk.i64_in _ (by omega)]; exact hk
  go_enter Try.func28, Try.ntmps28
  go_wp2
  go_ret
  exact ⟨rfl, rfl⟩
theorem word_at (l pl m : Nat) (hl : l < 4) (hp : pl ≤ 64) (hm : l * 65 + pl = m) (w : World) : Calls Try.prog 30 #[.int .i64 l, .int .i64 pl] w fun e w' => e = .returned (.int .i64 m) ∧ w = w' := by
  have e1 : IntKind.i64.wrap ((l : Int) * 65) = ((l * 65 : Nat) : Int) := by rw [IntWalk.i64_in _ (by omega)]; omega
  have e2 : IntKind.i64.wrap (((l * 65 : Nat) : Int) + pl) = m := by rw [IntWalk.i64_in _ (by omega)]; omega
  go_enter Try.func30, Try.ntmps30
  go_wp2
  go_ret
  have e3 : (l : Int) * 65 + pl = m := by omega
  exact ⟨by show Ending.returned (Value.int .i64 ((l : Int) * 65 + pl)) = _; rw [e3], rfl⟩
theorem place_any (key : Int) (k : Nat) (ek : key = k) (hk : k ≤ 63) (w : World) : Calls Try.prog 22 #[.int .i64 key] w fun e w' => e = .returned (.int .i64 ((k + 1 : Nat) : Int)) ∧ w = w' := by
  subst ek
  have ew : IntKind.i64.wrap ((k : Int) + 1) = ((k + 1 : Nat) : Int) := by rw [IntWalk.i64_in _ (by omega)]; omega
  go_enter Try.func22, Try.ntmps22
  go_wp2
  go_ret
  exact ⟨rfl, rfl⟩
theorem is_any (n : Nat) (hn : n ≤ 64) (key : Int) (r : Bool) (hr : decide (n ≠ 0 ∧ (n : Int) - 1 = key) = r) (w : World) : Calls Try.prog 20 #[.int .i64 n, .int .i64 key] w fun e w' => e = .returned (.bool r) ∧ w = w' := by
  subst hr
  by_cases h0 : n = 0
  · subst h0
    go_enter Try.func20, Try.ntmps20
    go_wp2
    go_ret
    exact ⟨by simp, rfl⟩
  · obtain ⟨k, ek⟩ : ∃ k, (n : Int) - 1 = k := ⟨_, rfl⟩
    have hk := key_any n hn k ek w
    have d1 : ((n : Int) != 0) = true := by simp; omega
    rw [show decide (n ≠ 0 ∧ (n : Int) - 1 = key) = (k == key) by rw [ek]; simp [h0]; rfl]
    clear ek
    go_enter Try.func20, Try.ntmps20
    go_wp2_with (go_at_call 28; refine hk.mono ?_; rintro e w' ⟨rfl, rfl⟩)
    go_ret
    exact ⟨rfl, rfl⟩
set_option maxRecDepth 100000 in
theorem next_at (h : TwAt w t p q zs) (l pl n : Nat) (hl : l < 4) (hp : pl ≤ 64) (hn : zs.getD (l * 65 + pl) 0 = (n : Int)) (h64 : n ≤ 64) :
    Calls Try.prog 24 #[.pointer (some ⟨t, 0, none⟩), .int .i64 l, .int .i64 pl] w fun e w' => e = .returned (.int .i64 n) ∧ TwAt w' t p q zs ∧ Keep (Two p q) w w' := by
  have c0 := h.c0
  have kd := (Keep.refl (fun _ => False) w).drew
  have hd := h.quiet kd
  obtain ⟨m, em⟩ : ∃ m, l * 65 + pl = m := ⟨_, rfl⟩
  rw [em] at hn
  have hL := load_x m (n : Int) hd.ar (by rw [h.len]; omega) hn
  have hW := word_at l pl m hl hp em
  have ec : IntKind.i64.wrap (n : Int) = (n : Int) := IntWalk.i64_in _ (by omega)
  clear hn em
  go_enter Try.func24, Try.ntmps24
  go_wp2_with fail
  go_still_tail 7, (by kernel_rfl)
  still_call ((hW _).mono (by rintro e w' ⟨rfl, rfl⟩; exact ⟨rfl, rfl⟩))
  repeat still_step
  try refine wpStill_nil ?_
  change wpList _ _ _ _ _ w.drew
  go_wp2_with fail
  refine hL.mono ?_
  rintro e w1 ⟨rfl, h1, k1⟩
  go_wp2
  go_ret
  exact ⟨rfl, hd.turn h1 rfl k1, (kd.mono (by simp)).trans k1⟩
set_option maxRecDepth 100000 in
theorem link_at (h : TwAt w t p q zs) (l pl n : Nat) (hl : l < 4) (hp : pl ≤ 64) (h64 : n ≤ 64) (zs2 : List Int) (hz : zs.set (l * 65 + pl) (n : Int) = zs2) :
    Calls Try.prog 21 #[.pointer (some ⟨t, 0, none⟩), .int .i64 l, .int .i64 pl, .int .i64 n] w fun e w' => e = .returned (.tuple #[]) ∧ TwAt w' t p q zs2 ∧ Keep (Two p q) w w' := by
  have c0 := h.c0
  have kd := (Keep.refl (fun _ => False) w).drew
  have hd := h.quiet kd
  obtain ⟨m, em⟩ : ∃ m, l * 65 + pl = m := ⟨_, rfl⟩
  rw [em] at hz
  have hL := store_x m (n : Int) zs2 hd.ar (by rw [h.len]; omega) (by omega) (by omega) hz
  have hW := word_at l pl m hl hp em
  have ec : IntKind.u64.wrap (n : Int) = (n : Int) := by rw [IntKind.wrap_u64]; omega
  have e2 : zs2.length = zs.length := by rw [← hz, List.length_set]
  clear hz em
  go_enter Try.func21, Try.ntmps21
  go_wp2_with fail
  go_still_tail 9, (by kernel_rfl)
  still_call ((hW _).mono (by rintro e w' ⟨rfl, rfl⟩; exact ⟨rfl, rfl⟩))
  repeat still_step
  try refine wpStill_nil ?_
  change wpList _ _ _ _ _ w.drew
  go_wp2_with fail
  refine hL.mono ?_
  rintro e w1 ⟨rfl, h1, k1⟩
  go_wp2
  go_end0
  exact ⟨rfl, hd.turn h1 e2 k1, (kd.mono (by simp)).trans k1⟩
end
end Go.Proofs.Ytopnhkogapidhaa
