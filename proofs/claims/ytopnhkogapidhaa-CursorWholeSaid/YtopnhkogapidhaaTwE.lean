/- Package tower: Level, Range, Len, Put, Drop, New of any Tower; conditions: 'Tow': its words lead from key to key. -/
import Derived.Test.YtopnhkogapidhaaTwC
import Derived.Deep.RegionHeld3
namespace Go.Proofs.Ytopnhkogapidhaa
open Go.ChangeShapes Go.WideShapes Go.ChangeAt Go.RowKit
set_option linter.unusedVariables false

theorem own_low {w : World} {B B' : Nat} {v : Value} {zs : List Int} (o : OwnN B' w v zs) (hB : B ≤ B') : OwnN B w v zs := by
  obtain ⟨h1, h2⟩ := id o
  refine ⟨h1, ?_⟩
  rcases h2 with h2 | ⟨g, c, cur, hv, hg, r⟩
  · exact .inl h2
  · exact .inr ⟨g, c, cur, hv, Nat.le_trans hB hg, r⟩
section
variable {w w' : World} {t p q : Nat} {th th' : Nat → Nat}
set_option maxRecDepth 100000 in
theorem tnew_any (w : World) : Calls Try.prog 7 #[] w fun y w' => ∃ t p q, y = .returned (.pointer (some ⟨t, 0, none⟩)) ∧ Tow w' t p q (fun _ => 0) ∧ w.heap.size ≤ t ∧ w.heap.size ≤ p ∧ w.heap.size ≤ q ∧ Keep (fun _ => False) w w' := by
  go_enter Try.func7, Try.ntmps7
  go_wp2_with fail
  refine (new_ok 260 _ (by omega) (by omega)).mono ?_
  rintro e w1 ⟨p, q, rfl, ha, gp, gq, bl⟩
  have k := Keep.alloc (Keep.refl (fun _ => False) w1) (.cells #[.pointer (some ⟨p, 0, none⟩)] 58)
  have l0 := ha.lt
  have l1 := ha.ws.lt
  go_wp2
  go_ret
  exact ⟨_, p, q, rfl, ⟨⟨List.replicate 260 0, ⟨by simp, ⟨0, ha.keep k (by simp) (by simp)⟩, by omega, by omega, List.length_replicate⟩, fun l hl => rowT_new l hl⟩, fun _ => Nat.zero_le _, fun _ _ => rfl⟩, bl.size, gp, gq, (Keep.of_below bl _).trans k⟩
def PRel (w : World) (t p q : Nat) (th th' : Nat → Nat) (b : Nat) (f g : Nat → Nat) (x : Nat) (m : Nat) (vi : Value) (wr : World) : Prop :=
  ∃ i : Nat, m + i = x ∧ vi = .int .i64 i ∧ GapsAt wr b f g ∧ Keep (Two p q) w wr ∧ ∃ zs, TwAt wr t p q zs ∧ ∀ l, l < 4 → (l < i → RowT th' l zs) ∧ (i ≤ l → RowT th l zs)
theorem put_bad (key height : Int) (hb : key < 0 ∨ 63 < key ∨ height < 1 ∨ 4 < height) : Calls Try.prog 8 #[.pointer (some ⟨t, 0, none⟩), .int .i64 key, .int .i64 height] w fun y w' => y = .returned (.tuple #[.bool false, .int .i64 1]) ∧ w = w' := by
  by_cases h1 : key < 0
  · have d1 : decide (key < 0) = true := decide_eq_true h1
    go_enter Try.func8, Try.ntmps8
    go_wp2
    go_ret2
    exact ⟨rfl, rfl⟩
  · have d1 : decide (key < 0) = false := decide_eq_false h1
    by_cases h2 : 63 < key
    · have d2 : decide (63 < key) = true := decide_eq_true h2
      go_enter Try.func8, Try.ntmps8
      go_wp2
      go_ret2
      exact ⟨rfl, rfl⟩
    · have d2 : decide (63 < key) = false := decide_eq_false h2
      by_cases h3 : height < 1
      · have d3 : decide (height < 1) = true := decide_eq_true h3
        go_enter Try.func8, Try.ntmps8
        go_wp2
        go_ret2
        exact ⟨rfl, rfl⟩
      · have d3 : decide (height < 1) = false := decide_eq_false h3
        have d4 : decide (4 < height) = true := decide_eq_true (by omega)
        go_enter Try.func8, Try.ntmps8
        go_wp2
        go_ret2
        exact ⟨rfl, rfl⟩
set_option maxRecDepth 100000 in
set_option maxHeartbeats 8000000 in
theorem put_old (h : Tow w t p q th) (k x : Nat) (hk : k ≤ 63) (x1 : 1 ≤ x) (x4 : x ≤ 4) (h0 : 0 < th k) :
    Calls Try.prog 8 #[.pointer (some ⟨t, 0, none⟩), .int .i64 k, .int .i64 x] w fun y w' => y = .returned (.tuple #[.bool false, .int .i64 0]) ∧ Tow w' t p q th ∧ Keep (Two p q) w w' := by
  have hL := look_any h (k : Int)
  have d1 : decide ((k : Int) < 0) = false := decide_eq_false (by omega)
  have d2 : decide (63 < (k : Int)) = false := decide_eq_false (by omega)
  have d3 : decide ((x : Int) < 1) = false := decide_eq_false (by omega)
  have d4 : decide (4 < (x : Int)) = false := decide_eq_false (by omega)
  go_enter Try.func8, Try.ntmps8
  go_wp2_with fail; refine hL.mono ?_; rintro e w1 ⟨f, g, kq, rfl, h1, h2, h3, h4⟩; dsimp only [gapsV]
  have KA := Keep.alloc (Keep.refl (fun _ => False) w1) (.cells #[.int .i64 (f 0), .int .i64 (g 0), .int .i64 (f 1), .int .i64 (g 1), .int .i64 (f 2), .int .i64 (g 2), .int .i64 (f 3), .int .i64 (g 3)] 62)
  have h3 := h3.quiet KA
  have h4 := h4.later KA (by simp)
  have G := h2 0 (by omega)
  have hI := is_any (g 0) G.le (k : Int) true (decide_eq_true ((G.is (by omega)).2 ⟨by omega, by omega, by rw [Int.toNat_natCast]; omega⟩))
  clear G h2 hL
  go_wp2_with (go_at_call 20; refine (hI _).mono ?_; rintro e w' ⟨rfl, rfl⟩)
  go_ret2
  exact ⟨rfl, h3, h4⟩
set_option maxRecDepth 100000 in
set_option maxHeartbeats 8000000 in
theorem put_new (h : Tow w t p q th) (k x : Nat) (hk : k ≤ 63) (x1 : 1 ≤ x) (x4 : x ≤ 4) (h0 : th k = 0) :
    Calls Try.prog 8 #[.pointer (some ⟨t, 0, none⟩), .int .i64 k, .int .i64 x] w fun y w' => y = .returned (.tuple #[.bool true, .int .i64 0]) ∧ Tow w' t p q (fun j => if j = k then x else th j) ∧ Keep (Two p q) w w' := by
  have hL := look_any h (k : Int)
  have lt0 := h.lt
  have d1 : decide ((k : Int) < 0) = false := decide_eq_false (by omega)
  have d2 : decide (63 < (k : Int)) = false := decide_eq_false (by omega)
  have d3 : decide ((x : Int) < 1) = false := decide_eq_false (by omega)
  have d4 : decide (4 < (x : Int)) = false := decide_eq_false (by omega)
  obtain ⟨th', et⟩ : ∃ th' : Nat → Nat, (fun j => if j = k then x else th j) = th' := ⟨_, rfl⟩
  have t1 : ∀ j, j ≠ k → th' j = th j := fun j hj => by rw [← et]; exact if_neg hj
  have t2 : th' k = x := by rw [← et]; exact if_pos rfl
  have t4 : ∀ j, th' j ≤ 4 := fun j => by
    by_cases e : j = k
    · subst e; omega
    · rw [t1 j e]; exact h.h4 j
  have tf : ∀ j, 64 ≤ j → th' j = 0 := fun j hj => by rw [t1 j (by omega)]; exact h.far j hj
  rw [et]
  clear et h
  go_enter Try.func8, Try.ntmps8
  go_wp2_with fail; refine hL.mono ?_; rintro e w1 ⟨f, g, kq, rfl, h1, h2, h3, h4⟩; dsimp only [gapsV]
  have KA := Keep.alloc (Keep.refl (fun _ => False) w1) (.cells #[.int .i64 (f 0), .int .i64 (g 0), .int .i64 (f 1), .int .i64 (g 1), .int .i64 (f 2), .int .i64 (g 2), .int .i64 (f 3), .int .i64 (g 3)] 62)
  have h3 := h3.quiet KA
  have b0 := h4.size
  have h4 := h4.later KA (by simp)
  have G := gaps_new w1 f g
  have G0 := h2 0 (by omega)
  have hI := is_any (g 0) G0.le (k : Int) false (decide_eq_false (fun y => by have := ((G0.is (by omega)).1 y).2.2; simp at this; omega))
  obtain ⟨zs, ha, hr⟩ := h3.at'
  clear G0 hL h3 KA
  go_wp2_with (first | (go_at_call 20; refine (hI _).mono ?_; rintro e w' ⟨rfl, rfl⟩))
  obtain ⟨b, eb⟩ : ∃ b, w1.heap.size = b := ⟨_, rfl⟩
  rw [eb] at G b0 ⊢
  clear eb hI
  go_loopg [37] x (fun m vi wr => PRel w t p q th th' b f g x m vi wr)
  case atStart => exact ⟨0, by omega, rfl, G, h4, zs, ha, fun l hl => ⟨fun y => by omega, fun _ => hr l hl⟩⟩
  case round =>
    clear G h4 ha hr
    obtain ⟨i, hm, rfl, G, K, zs, ha, hr⟩ := hrel
    have wi : IntKind.i64.wrap ((i : Int) + 1) = (i : Int) + 1 := IntWalk.i64_in _ (by omega)
    by_cases hlt : i < x
    · have q1 : (i : Int).toNat = i := by omega
      have q2 : (0 : Int) ≤ (i : Int) := by omega
      have q3 : (i : Int) < 4 := by omega
      have d5 : decide ((i : Int) < (x : Int)) = true := decide_eq_true (by omega)
      have i4 : i < 4 := by omega
      have cf := G.cf i i4
      have cg := G.cg i i4
      have Gi := h2 i i4
      have f64 := Gi.b64
      have g64 := Gi.le
      have R1 := ((hr i i4).2 (Nat.le_refl _)).put ha.len i4 (by omega) Gi h0 t1 (by omega)
      have R2 : ∀ l, l < 4 → l ≠ i → (l < i + 1 → RowT th' l ((zs.set (i * 65 + (k + 1)) (g i : Int)).set (i * 65 + f i) ((k + 1 : Nat) : Int))) ∧ (i + 1 ≤ l → RowT th l ((zs.set (i * 65 + (k + 1)) (g i : Int)).set (i * 65 + f i) ((k + 1 : Nat) : Int))) := fun l hl hne =>
        ⟨fun y => (((hr l hl).1 (by omega)).far hl (Ne.symm hne) (by omega) _).far hl (Ne.symm hne) f64 _, fun y => (((hr l hl).2 (by omega)).far hl (Ne.symm hne) (by omega) _).far hl (Ne.symm hne) f64 _⟩
      have RR : ∀ l, l < 4 → (l < i + 1 → RowT th' l ((zs.set (i * 65 + (k + 1)) (g i : Int)).set (i * 65 + f i) ((k + 1 : Nat) : Int))) ∧ (i + 1 ≤ l → RowT th l ((zs.set (i * 65 + (k + 1)) (g i : Int)).set (i * 65 + f i) ((k + 1 : Nat) : Int))) := fun l hl => by
        by_cases e : l = i
        · subst e; exact ⟨fun _ => R1, fun y => by omega⟩
        · exact R2 l hl e
      obtain ⟨z1, e1⟩ : ∃ z1, zs.set (i * 65 + (k + 1)) (g i : Int) = z1 := ⟨_, rfl⟩
      obtain ⟨z2, e2⟩ : ∃ z2, z1.set (i * 65 + f i) ((k + 1 : Nat) : Int) = z2 := ⟨_, rfl⟩
      rw [e1, e2] at RR
      have kd := (Keep.refl (fun _ => False) wr).drew
      have hA := link_at (ha.quiet kd) i (k + 1) (g i) i4 (by omega) g64 z1 e1
      have hP := place_any (k : Int) k rfl hk
      obtain ⟨n, en⟩ : ∃ n, g i = n := ⟨_, rfl⟩
      obtain ⟨n', en'⟩ : ∃ n, f i = n := ⟨_, rfl⟩
      rw [en] at hA cg
      rw [en'] at cf e2 f64
      have EN := Lib.hid en'
      clear R1 R2 e1 hr Gi en en'
      go_wp2_with fail
      go_still_tail 8, (by kernel_rfl)
      still_call ((hP _).mono (by rintro e w' ⟨rfl, rfl⟩; exact ⟨rfl, rfl⟩))
      repeat still_step
      try refine wpStill_nil ?_
      change wpList _ _ _ _ _ wr.drew
      go_wp2_with fail
      refine hA.mono ?_
      rintro e w3 ⟨rfl, ha3, k3⟩
      have KW := kd.mono (T := Two p q) (by simp) |>.trans k3
      have G3 := G.keep KW (fun y => by rcases y with y | y <;> omega)
      have K3 := K.trans KW
      have kd3 := (Keep.refl (fun _ => False) w3).drew
      have hB := link_at (ha3.quiet kd3) i n' (k + 1) i4 f64 (by omega) z2 e2
      have cf3 := G3.cf i i4
      rw [EN.out] at cf3
      have hG3 := Lib.hid G3
      clear hA ha k3 KW G K e2 G3 cf cg
      go_wp2_with fail
      go_still_tail 8, (by kernel_rfl)
      still_call ((hP _).mono (by rintro e w' ⟨rfl, rfl⟩; exact ⟨rfl, rfl⟩))
      repeat still_step
      try refine wpStill_nil ?_
      change wpList _ _ _ _ _ w3.drew
      go_wp2_with fail
      refine hB.mono ?_
      rintro e w4 ⟨rfl, ha4, k4⟩
      have KW := kd3.mono (T := Two p q) (by simp) |>.trans k4
      have G4 := hG3.out.keep KW (fun y => by rcases y with y | y <;> omega)
      have K4 := K3.trans KW
      clear hB ha3 k4 KW K3 cf3 hG3
      go_wp2
      go_roundg (x - (i + 1))
      case measure => omega
      case rel => exact ⟨i + 1, by omega, by go_num, G4, K4, z2, ha4, RR⟩
    · obtain rfl : i = x := by omega
      clear h2
      go_wp2
      go_ret2
      exact ⟨rfl, ⟨⟨zs, ha, fun l hl => by
        by_cases y : l < i
        · exact (hr l hl).1 y
        · exact ((hr l hl).2 (by omega)).same t1 (by omega) (by omega)⟩, t4, tf⟩, K⟩
def DRel (w : World) (t p q : Nat) (th th' : Nat → Nat) (b : Nat) (f g : Nat → Nat) (m : Nat) (vl : Value) (wr : World) : Prop :=
  ∃ i : Nat, m = i ∧ i ≤ 4 ∧ vl = .int .i64 ((i : Int) - 1) ∧ GapsAt wr b f g ∧ Keep (Two p q) w wr ∧ ∃ zs, TwAt wr t p q zs ∧ ∀ l, l < 4 → (l < i → RowT th l zs) ∧ (i ≤ l → RowT th' l zs)
set_option maxRecDepth 100000 in
set_option maxHeartbeats 8000000 in
theorem drop_any (h : Tow w t p q th) (key : Int) (r : Bool) (th' : Nat → Nat) (hs : dropT th key = (r, th')) :
    Calls Try.prog 10 #[.pointer (some ⟨t, 0, none⟩), .int .i64 key] w fun y w' => y = .returned (.bool r) ∧ Tow w' t p q th' ∧ Keep (Two p q) w w' := by
  have hL := look_any h key
  have lt0 := h.lt
  have isr : ∀ {f g : Nat → Nat}, (∀ l, l < 4 → Gap th key (l + 1) (f l) (g l)) → ∀ l, l < 4 → ((g l ≠ 0 ∧ (g l : Int) - 1 = key) ↔ (l : Int) < hgtT th key) := fun hg l hl => hgt_is h hg l hl
  have er : r = decide (0 < hgtT th key) := by unfold dropT at hs; split at hs <;> (cases hs; simp; omega)
  have t5 : ∀ l : Nat, l < 4 → ¬ ((l : Int) < hgtT th key) → ∀ zs, RowT th l zs → RowT th' l zs := fun l hl hn zs hr => by
    unfold dropT at hs
    split at hs
    · cases hs
      have : hgtT th key = (th key.toNat : Int) := by unfold hgtT at *; split at * <;> omega
      refine hr.same (k := key.toNat) (fun j hj => if_neg hj) (by omega) (by rw [if_pos rfl]; omega)
    · cases hs; exact hr
  have t6 : 0 < hgtT th key → ∃ k : Nat, key = k ∧ k ≤ 63 ∧ hgtT th key = th k ∧ (∀ j, j ≠ k → th' j = th j) ∧ th' k = 0 := fun hp => by
    have hp0 := hp
    unfold dropT at hs
    rw [if_pos hp] at hs
    cases hs
    unfold hgtT at hp
    split at hp
    · omega
    · refine ⟨key.toNat, by omega, by omega, ?_, fun j hj => if_neg hj, if_pos rfl⟩
      unfold hgtT
      rw [if_neg (by omega)]
  have t4 : ∀ j, th' j ≤ 4 ∧ (64 ≤ j → th' j = 0) := fun j => by
    have a := h.h4 j
    have b := h.far j
    unfold dropT at hs
    split at hs
    · cases hs
      by_cases e : j = key.toNat
      · exact ⟨by dsimp only; rw [if_pos e]; exact Nat.zero_le _, fun _ => if_pos e⟩
      · exact ⟨by dsimp only; rw [if_neg e]; exact a, fun y => (if_neg e).trans (b y)⟩
    · cases hs; exact ⟨a, b⟩
  obtain ⟨H, eH⟩ : ∃ H, hgtT th key = H := ⟨_, rfl⟩
  rw [eH] at er t5 t6
  simp only [eH] at isr
  subst er
  clear hs h eH
  go_enter Try.func10, Try.ntmps10
  go_wp2_with fail; refine hL.mono ?_; rintro e w1 ⟨f, g, kq, rfl, h1, h2, h3, h4⟩; dsimp only [gapsV]
  have KA := Keep.alloc (Keep.refl (fun _ => False) w1) (.cells #[.int .i64 (f 0), .int .i64 (g 0), .int .i64 (f 1), .int .i64 (g 1), .int .i64 (f 2), .int .i64 (g 2), .int .i64 (f 3), .int .i64 (g 3)] 62)
  have isr := isr h2
  have h3 := h3.quiet KA
  have b0 := h4.size
  have h4 := h4.later KA (by simp)
  have G := gaps_new w1 f g
  obtain ⟨zs, ha, hr⟩ := h3.at'
  clear hL h3 KA
  go_wp2_with fail
  obtain ⟨b, eb⟩ : ∃ b, w1.heap.size = b := ⟨_, rfl⟩
  rw [eb] at G b0 ⊢
  clear eb
  go_loopg [7] 4 (fun m vl wr => DRel w t p q th th' b f g m vl wr)
  case atStart => exact ⟨4, rfl, Nat.le_refl _, rfl, G, h4, zs, ha, fun l hl => ⟨fun _ => hr l hl, fun y => by omega⟩⟩
  case round =>
    clear G h4 ha hr
    obtain ⟨i, hm, hi, rfl, G, K, zs, ha, hr⟩ := hrel
    rcases (by cases i; exact .inl rfl; exact .inr ⟨_, rfl⟩ : i = 0 ∨ ∃ l, i = l + 1) with rfl | ⟨l, rfl⟩
    · have cg : wr.cell? ⟨b, 1, none⟩ = some (.int .i64 (g 0)) := G.cg 0 (by omega)
      have hI := is_any (g 0) (h2 0 (by omega)).le key (decide (0 < H)) (by
        have := isr 0 (by omega)
        simp only [this]
        rfl)
      clear h2 isr
      go_wp2_with (go_at_call 20; refine (hI _).mono ?_; rintro e w' ⟨rfl, rfl⟩)
      go_ret
      exact ⟨rfl, ⟨⟨zs, ha, fun l hl => (hr l hl).2 (Nat.zero_le _)⟩, fun j => (t4 j).1, fun j => (t4 j).2⟩, K⟩
    · have el : ((l + 1 : Nat) : Int) - 1 = (l : Int) := by omega
      rw [el]
      have hl : l < 4 := by omega
      have wl : IntKind.i64.wrap ((l : Int) - 1) = (l : Int) - 1 := IntWalk.i64_in _ (by omega)
      have q1 : (l : Int).toNat = l := by omega
      have q2 : (0 : Int) ≤ (l : Int) := by omega
      have q3 : (l : Int) < 4 := by omega
      have cf := G.cf l hl
      have cg := G.cg l hl
      have Gl := h2 l hl
      have g64 := Gl.le
      have f64 := Gl.b64
      have ii := isr l hl
      by_cases hlt : (l : Int) < H
      · obtain ⟨k, ek, hk, hth, tn, t0⟩ := t6 (by omega)
        have hI := is_any (g l) g64 key true (decide_eq_true (ii.2 hlt))
        have eg : g l = k + 1 := by have := ii.2 hlt; omega
        rw [eg] at Gl
        rw [ek] at Gl
        have R0 := (hr l hl).1 (by omega)
        obtain ⟨n, en, nx⟩ := R0 (k + 1) (by omega) (.inr (by rw [Nat.add_sub_cancel]; omega))
        have R1 := R0.drop ha.len hl (by omega) Gl nx tn t0
        have RR : ∀ j, j < 4 → (j < l → RowT th j (zs.set (l * 65 + f l) (n : Int))) ∧ (l ≤ j → RowT th' j (zs.set (l * 65 + f l) (n : Int))) := fun j hj => by
          by_cases e : j = l
          · subst e; exact ⟨fun y => by omega, fun _ => R1⟩
          · exact ⟨fun y => ((hr j hj).1 (by omega)).far hj (Ne.symm e) f64 _, fun y => ((hr j hj).2 (by omega)).far hj (Ne.symm e) f64 _⟩
        obtain ⟨z1, e1⟩ : ∃ z1, zs.set (l * 65 + f l) (n : Int) = z1 := ⟨_, rfl⟩
        rw [e1] at RR
        have kd := (Keep.refl (fun _ => False) wr).drew
        have n64 := nx.le
        have hN := next_at (ha.quiet kd) l (k + 1) n hl (by omega) en n64
        have hP := place_any key k ek hk
        obtain ⟨n1, en1⟩ : ∃ n, g l = n := ⟨_, rfl⟩
        obtain ⟨n2, en2⟩ : ∃ n, f l = n := ⟨_, rfl⟩
        rw [en1] at hI cg
        rw [en2] at cf e1 f64
        clear R1 R0 hr Gl en en1 en2 ii isr h2 eg t5 t6 el ek hth tn t0 nx
        go_wp2_with (go_at_call 20; refine (hI _).mono ?_; rintro e w' ⟨rfl, rfl⟩)
        have KE := K
        refine wp_region_held_drew (S := fun w' => w'.cell? ⟨b, l * 2, none⟩ = some (.int .i64 n2)) (by kernel_rfl) cf (fun hHeld => ?_)
        refine wpAnyH_take (i := 0) (v := ?qvu0) rfl (by kernel_rfl) (by kernel_rfl) (by kernel_rfl) (fun _ _ _ h => h) (Or.inl ⟨by rfl, ?qyu0⟩) (by assumption) ?qru0; case qyu0 => ((intro w hSw; (try dsimp only at hSw); go_simp); try (with_reducible rfl))
        ((try simp only [List.getElem_toArray]); (try simp only [List.getElem_cons_succ]); (try simp only [List.getElem_cons_zero]); (try simp only [Act.put]); (try simp only [List.setIfInBounds_toArray]); (try simp only [List.set_cons_succ]); (try simp only [List.set_cons_zero]))
        refine wpAnyH_take (i := 1) (v := ?qvu1) rfl (by kernel_rfl) (by kernel_rfl) (by kernel_rfl) (fun _ _ _ h => h) (Or.inl ⟨by rfl, ?qyu1⟩) (by assumption) ?qru1; case qyu1 => ((intro w hSw; (try dsimp only at hSw); go_simp); try (with_reducible rfl))
        ((try simp only [List.getElem_toArray]); (try simp only [List.getElem_cons_succ]); (try simp only [List.getElem_cons_zero]); (try simp only [Act.put]); (try simp only [List.setIfInBounds_toArray]); (try simp only [List.set_cons_succ]); (try simp only [List.set_cons_zero]))
        refine wpAnyH_take (i := 2) (v := ?qvu2) rfl (by kernel_rfl) (by kernel_rfl) (by kernel_rfl) (fun _ _ _ h => h) (Or.inl ⟨by rfl, ?qyu2⟩) (by assumption) ?qru2; case qyu2 => ((intro w hSw; (try dsimp only at hSw); go_simp); try (with_reducible rfl))
        ((try simp only [List.getElem_toArray]); (try simp only [List.getElem_cons_succ]); (try simp only [List.getElem_cons_zero]); (try simp only [Act.put]); (try simp only [List.setIfInBounds_toArray]); (try simp only [List.set_cons_succ]); (try simp only [List.set_cons_zero]))
        refine wpAnyH_take (i := 3) (v := ?qvu3) rfl (by kernel_rfl) (by kernel_rfl) (by kernel_rfl) (fun _ _ _ h => h) (Or.inl ⟨by rfl, ?qyu3⟩) (by assumption) ?qru3; case qyu3 => ((intro w hSw; (try dsimp only at hSw); go_simp); try (with_reducible rfl))
        ((try simp only [List.getElem_toArray]); (try simp only [List.getElem_cons_succ]); (try simp only [List.getElem_cons_zero]); (try simp only [Act.put]); (try simp only [List.setIfInBounds_toArray]); (try simp only [List.set_cons_succ]); (try simp only [List.set_cons_zero]))
        refine wpAnyH_take (i := 4) (v := ?qvu4) rfl (by kernel_rfl) (by kernel_rfl) (by kernel_rfl) (fun _ _ _ h => h) (Or.inl ⟨by rfl, ?qyu4⟩) (by assumption) ?qru4; case qyu4 => ((intro w hSw; (try dsimp only at hSw); go_simp); try (with_reducible rfl))
        ((try simp only [List.getElem_toArray]); (try simp only [List.getElem_cons_succ]); (try simp only [List.getElem_cons_zero]); (try simp only [Act.put]); (try simp only [List.setIfInBounds_toArray]); (try simp only [List.set_cons_succ]); (try simp only [List.set_cons_zero]))
        refine wpAnyH_take (i := 5) (v := ?qvu5) rfl (by kernel_rfl) (by kernel_rfl) (by kernel_rfl) (fun _ _ _ h => h) (Or.inl ⟨by rfl, ?qyu5⟩) (by assumption) ?qru5; case qyu5 => ((intro w hSw; (try dsimp only at hSw); go_simp); try (with_reducible rfl))
        ((try simp only [List.getElem_toArray]); (try simp only [List.getElem_cons_succ]); (try simp only [List.getElem_cons_zero]); (try simp only [Act.put]); (try simp only [List.setIfInBounds_toArray]); (try simp only [List.set_cons_succ]); (try simp only [List.set_cons_zero]))
        refine wpAnyH_take (i := 6) (v := ?qvu6) rfl (by kernel_rfl) (by kernel_rfl) (by kernel_rfl) (fun _ _ _ h => h) (Or.inl ⟨by rfl, ?qyu6⟩) (by assumption) ?qru6; case qyu6 => ((intro w hSw; (try dsimp only at hSw); go_simp); try (with_reducible rfl))
        ((try simp only [List.getElem_toArray]); (try simp only [List.getElem_cons_succ]); (try simp only [List.getElem_cons_zero]); (try simp only [Act.put]); (try simp only [List.setIfInBounds_toArray]); (try simp only [List.set_cons_succ]); (try simp only [List.set_cons_zero]))
        refine wpAnyH_take (i := 7) (v := ?qvu7) rfl (by kernel_rfl) (by kernel_rfl) (by kernel_rfl) (fun _ _ _ h => h) (Or.inl ⟨by rfl, ?qyu7⟩) (by assumption) ?qru7; case qyu7 => ((intro w hSw; (try dsimp only at hSw); go_simp); try (with_reducible rfl))
        ((try simp only [List.getElem_toArray]); (try simp only [List.getElem_cons_succ]); (try simp only [List.getElem_cons_zero]); (try simp only [Act.put]); (try simp only [List.setIfInBounds_toArray]); (try simp only [List.set_cons_succ]); (try simp only [List.set_cons_zero]))
        refine wpAnyH_take (i := 8) (v := ?qvu8) rfl (by kernel_rfl) (by kernel_rfl) (by kernel_rfl) (fun _ _ _ h => h) (Or.inl ⟨by rfl, ?qyu8⟩) (by assumption) ?qru8; case qyu8 => ((intro w hSw; (try dsimp only at hSw); go_simp); try (with_reducible rfl))
        ((try simp only [List.getElem_toArray]); (try simp only [List.getElem_cons_succ]); (try simp only [List.getElem_cons_zero]); (try simp only [Act.put]); (try simp only [List.setIfInBounds_toArray]); (try simp only [List.set_cons_succ]); (try simp only [List.set_cons_zero]))
        refine wpAnyH_ready (rs := [9]) (by kernel_rfl) (by simp) ?_
        refine AllReadyH.cons rfl (fun K hK => ?_) AllReadyH.nil
        go_simp
        refine (hP _).mono ?_
        rintro e w' ⟨rfl, rfl⟩
        refine hK.out _ _ hHeld (fun hHeld => ?_)
        clear hK K
        ((try simp only [List.getElem_toArray]); (try simp only [List.getElem_cons_succ]); (try simp only [List.getElem_cons_zero]); (try simp only [Act.put]); (try simp only [List.setIfInBounds_toArray]); (try simp only [List.set_cons_succ]); (try simp only [List.set_cons_zero]))
        refine wpAnyH_ready (rs := [10]) (by kernel_rfl) (by simp) ?_
        refine AllReadyH.cons rfl (fun K hK => ?_) AllReadyH.nil
        go_simp
        refine hN.mono ?_
        rintro e w3 ⟨rfl, ha3, k3⟩
        have hB := link_at ha3 l n2 n hl f64 n64 z1 e1
        refine hK.out _ _ (k3.cell hHeld (fun y => by have y : b = p ∨ b = q := y; omega)) (fun hHeld => ?_)
        clear hK K
        ((try simp only [List.getElem_toArray]); (try simp only [List.getElem_cons_succ]); (try simp only [List.getElem_cons_zero]); (try simp only [Act.put]); (try simp only [List.setIfInBounds_toArray]); (try simp only [List.set_cons_succ]); (try simp only [List.set_cons_zero]))
        refine wpAnyH_ready (rs := [11]) (by kernel_rfl) (by simp) ?_
        refine AllReadyH.cons rfl (fun K hK => ?_) AllReadyH.nil
        go_simp
        refine hB.mono ?_
        rintro e w4 ⟨rfl, ha4, k4⟩
        have KW := (kd.mono (T := Two p q) (by simp)).trans (k3.trans k4)
        have G4 := G.keep KW (fun y => by rcases y with y | y <;> omega)
        have K4 := KE.trans KW
        refine hK.out _ _ (k4.cell hHeld (fun y => by have y : b = p ∨ b = q := y; omega)) (fun hHeld => ?_)
        clear hK K
        ((try simp only [List.getElem_toArray]); (try simp only [List.getElem_cons_succ]); (try simp only [List.getElem_cons_zero]); (try simp only [Act.put]); (try simp only [List.setIfInBounds_toArray]); (try simp only [List.set_cons_succ]); (try simp only [List.set_cons_zero]))
        refine wpAnyH_done (by kernel_rfl) ?_ _
        go_wp2
        go_roundg l
        case measure => omega
        case rel => exact ⟨l, rfl, by omega, rfl, G4, K4, z1, ha4, RR⟩
      · have hI := is_any (g l) g64 key false (decide_eq_false (fun y => hlt (ii.1 y)))
        obtain ⟨n1, en1⟩ : ∃ n, g l = n := ⟨_, rfl⟩
        have RR : ∀ j, j < 4 → (j < l → RowT th j zs) ∧ (l ≤ j → RowT th' j zs) := fun j hj => by
          by_cases e : j = l
          · subst e; exact ⟨fun y => by omega, fun _ => t5 j hl (by omega) zs ((hr j hl).1 (by omega))⟩
          · exact ⟨fun y => (hr j hj).1 (by omega), fun y => (hr j hj).2 (by omega)⟩
        rw [en1] at hI cg
        clear hr Gl en1 ii isr h2 t5 t6 el
        go_wp2_with (go_at_call 20; refine (hI _).mono ?_; rintro e w' ⟨rfl, rfl⟩)
        go_roundg l
        case measure => omega
        case rel => exact ⟨l, rfl, by omega, rfl, G, K, zs, ha, RR⟩
end
end Go.Proofs.Ytopnhkogapidhaa
