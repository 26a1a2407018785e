/- Package tower: New, Put, Drop, Has, Height, Level, From, Range, Steps, Len of any Tower; conditions: 'Tow': its words lead from key to key. -/
import Derived.Test.YteaanaggcenloaaTwS1
import Derived.Test.YteaanaggcenloaaPushN
import Derived.Test.YteaanaggcenloaaSameN
namespace Go.Proofs.Yteaanaggcenloaa
open Go.ChangeShapes Go.WideShapes Go.ChangeAt Go.RowKit
set_option linter.unusedVariables false

/-- A Tower at block t, of the Arena at p, q, that holds keys of these heights. -/
structure Tow (w : World) (t p q : Nat) (th : Nat → Nat) : Prop where
  at' : ∃ zs, TwAt w t p q zs ∧ ∀ l, l < 4 → RowT th l zs
  h4 : ∀ j, th j ≤ 4
  far : ∀ j, 64 ≤ j → th j = 0
section
variable {w w' : World} {t p q : Nat} {th th' : Nat → Nat}
theorem Tow.keep {T : Nat → Prop} (h : Tow w t p q th) (k : Keep T w w') (ht : ¬ T t) (hp : ¬ T p) (hq : ¬ T q) : Tow w' t p q th := by
  obtain ⟨zs, ha, hr⟩ := h.at'
  exact ⟨⟨zs, ha.keep k ht hp hq, hr⟩, h.h4, h.far⟩
theorem Tow.quiet (h : Tow w t p q th) (k : Keep (fun _ => False) w w') : Tow w' t p q th := h.keep k (by simp) (by simp) (by simp)
theorem Tow.lt (h : Tow w t p q th) : t < w.heap.size ∧ p < w.heap.size ∧ q < w.heap.size := by
  obtain ⟨zs, ha, hr⟩ := h.at'
  exact ha.lt
theorem look_any (h : Tow w t p q th) (key : Int) :
    Calls Try.prog 25 #[.pointer (some ⟨t, 0, none⟩), .int .i64 key] w fun e w' => ∃ f g k, e = .returned (.tuple #[gapsV f g, .int .i64 k]) ∧ stepsT th key = k ∧ (∀ l, l < 4 → Gap th key (l + 1) (f l) (g l)) ∧ Tow w' t p q th ∧ Keep (Two p q) w w' := by
  obtain ⟨zs, ha, hr⟩ := h.at'
  refine (search_any ha hr key).mono ?_
  rintro e w1 ⟨f, g, k, rfl, h1, h2, h3, h4⟩
  exact ⟨f, g, k, rfl, h1, h2, ⟨⟨zs, h3, hr⟩, h.h4, h.far⟩, h4⟩
theorem hgt_b (h : Tow w t p q th) (key : Int) : 0 ≤ hgtT th key ∧ hgtT th key ≤ 4 := by
  have := h.h4 key.toNat
  unfold hgtT
  split <;> omega
theorem hgt_is (h : Tow w t p q th) {key : Int} {f g : Nat → Nat} (hg : ∀ l, l < 4 → Gap th key (l + 1) (f l) (g l)) (l : Nat) (hl : l < 4) : (g l ≠ 0 ∧ (g l : Int) - 1 = key) ↔ (l : Int) < hgtT th key := by
  rw [(hg l hl).is (Nat.succ_pos l)]
  unfold hgtT
  split <;> omega
theorem steps_any (h : Tow w t p q th) (key r : Int) (hs : stepsT th key = r) :
    Calls Try.prog 18 #[.pointer (some ⟨t, 0, none⟩), .int .i64 key] w fun y w' => y = .returned (.int .i64 r) ∧ Tow w' t p q th ∧ Keep (Two p q) w w' := by
  have hL := look_any h key
  go_enter Try.func18, Try.ntmps18
  go_wp2_with fail; refine hL.mono ?_; rintro e w1 ⟨f, g, k, rfl, h1, h2, h3, h4⟩; dsimp only [gapsV]
  have KA := Keep.alloc (Keep.refl (fun _ => False) w1) (.cells #[.int .i64 (f 0), .int .i64 (g 0), .int .i64 (f 1), .int .i64 (g 1), .int .i64 (f 2), .int .i64 (g 2), .int .i64 (f 3), .int .i64 (g 3)] 60)
  have h3 := h3.quiet KA
  have h4 := h4.later KA (by simp)
  obtain rfl : k = r := h1.symm.trans hs
  go_wp2
  go_ret
  exact ⟨rfl, h3, h4⟩
theorem from_yes (h : Tow w t p q th) (key : Int) (j : Nat) (hj : NextT th key j) :
    Calls Try.prog 11 #[.pointer (some ⟨t, 0, none⟩), .int .i64 key] w fun y w' => y = .returned (.tuple #[.int .i64 j, .bool true]) ∧ Tow w' t p q th ∧ Keep (Two p q) w w' := by
  have hL := look_any h key
  go_enter Try.func11, Try.ntmps11
  go_wp2_with fail; refine hL.mono ?_; rintro e w1 ⟨f, g, k, rfl, h1, h2, h3, h4⟩; dsimp only [gapsV]
  have KA := Keep.alloc (Keep.refl (fun _ => False) w1) (.cells #[.int .i64 (f 0), .int .i64 (g 0), .int .i64 (f 1), .int .i64 (g 1), .int .i64 (f 2), .int .i64 (g 2), .int .i64 (f 3), .int .i64 (g 3)] 60)
  have h3 := h3.quiet KA
  have h4 := h4.later KA (by simp)
  have G := h2 0 (by omega)
  have e : g 0 = j + 1 := by
    have gm := G.mem
    have gs := G.stop
    have j1 := hj.lt
    have j2 := hj.here
    have j3 := hj.le
    have g0 : g 0 ≠ 0 := fun e => by have := (e ▸ G.nx).none j (by omega) j1; omega
    obtain ⟨q1, q2, q3, q4⟩ := G.nx.step g0
    rcases (by omega : g 0 - 1 < j ∨ g 0 - 1 = j ∨ j < g 0 - 1) with x | x | x
    · have := hj.no (g 0 - 1) x (by omega); omega
    · omega
    · have := q4 j (by omega) x; omega
  have j64 := hj.lt
  have hK := key_any (j + 1) (by omega) (j : Int) (by omega)
  have d1 : (((j + 1 : Nat) : Int) == 0) = false := by simp; omega
  clear G h2 hL
  rw [e] at h3 h4 ⊢
  clear e
  go_wp2_with (go_at_call 30; refine (hK _).mono ?_; rintro e w' ⟨rfl, rfl⟩)
  go_ret2
  exact ⟨rfl, h3, h4⟩
theorem from_no (h : Tow w t p q th) (key : Int) (hj : ∀ j : Nat, j < 64 → key ≤ j → th j = 0) :
    Calls Try.prog 11 #[.pointer (some ⟨t, 0, none⟩), .int .i64 key] w fun y w' => y = .returned (.tuple #[.int .i64 0, .bool false]) ∧ Tow w' t p q th ∧ Keep (Two p q) w w' := by
  have hL := look_any h key
  go_enter Try.func11, Try.ntmps11
  go_wp2_with fail; refine hL.mono ?_; rintro e w1 ⟨f, g, k, rfl, h1, h2, h3, h4⟩; dsimp only [gapsV]
  have KA := Keep.alloc (Keep.refl (fun _ => False) w1) (.cells #[.int .i64 (f 0), .int .i64 (g 0), .int .i64 (f 1), .int .i64 (g 1), .int .i64 (f 2), .int .i64 (g 2), .int .i64 (f 3), .int .i64 (g 3)] 60)
  have h3 := h3.quiet KA
  have h4 := h4.later KA (by simp)
  have G := h2 0 (by omega)
  have e : g 0 = 0 := by
    have gs := G.stop
    rcases Nat.eq_zero_or_pos (g 0) with x | x
    · exact x
    · obtain ⟨q1, q2, q3, q4⟩ := G.nx.step (by omega)
      have := hj (g 0 - 1) (by omega) (by omega)
      omega
  clear G h2 hL
  rw [e] at h3 h4 ⊢
  clear e
  go_wp2
  go_ret2
  exact ⟨rfl, h3, h4⟩
def HRel (w : World) (t p q : Nat) (th : Nat → Nat) (b : Nat) (f g : Nat → Nat) (r : Int) (m : Nat) (vh : Value) (wr : World) : Prop :=
  ∃ i : Nat, m + i = 4 ∧ (i : Int) ≤ r ∧ vh = .int .i64 i ∧ Tow wr t p q th ∧ GapsAt wr b f g ∧ Keep (Two p q) w wr
set_option maxRecDepth 100000 in
theorem height_any (h : Tow w t p q th) (key r : Int) (hs : hgtT th key = r) :
    Calls Try.prog 13 #[.pointer (some ⟨t, 0, none⟩), .int .i64 key] w fun y w' => y = .returned (.int .i64 r) ∧ Tow w' t p q th ∧ Keep (Two p q) w w' := by
  have hL := look_any h key
  have rb := hgt_b h key
  have isr : ∀ {f g : Nat → Nat}, (∀ l, l < 4 → Gap th key (l + 1) (f l) (g l)) → ∀ l, l < 4 → ((g l ≠ 0 ∧ (g l : Int) - 1 = key) ↔ (l : Int) < r) := fun hg l hl => by rw [hgt_is h hg l hl, hs]
  rw [hs] at rb
  clear hs
  go_enter Try.func13, Try.ntmps13
  go_wp2_with fail; refine hL.mono ?_; rintro e w1 ⟨f, g, k, rfl, h1, h2, h3, h4⟩; dsimp only [gapsV]
  have isr := isr h2
  have KA := Keep.alloc (Keep.refl (fun _ => False) w1) (.cells #[.int .i64 (f 0), .int .i64 (g 0), .int .i64 (f 1), .int .i64 (g 1), .int .i64 (f 2), .int .i64 (g 2), .int .i64 (f 3), .int .i64 (g 3)] 60)
  have h3 := h3.quiet KA
  have h4 := h4.later KA (by simp)
  have G := gaps_new w1 f g
  go_wp2_with fail
  obtain ⟨b, eb⟩ : ∃ b, w1.heap.size = b := ⟨_, rfl⟩
  rw [eb] at G ⊢
  go_loopg [7] 4 (fun m vh wr => HRel w t p q th b f g r m vh wr)
  case atStart => exact ⟨0, rfl, by omega, rfl, h3, G, h4⟩
  case round =>
    clear KA h3 h4 G hL eb
    obtain ⟨i, hm, hi, rfl, h3, G, h4⟩ := hrel
    have wi : IntKind.i64.wrap ((i : Int) + 1) = (i : Int) + 1 := IntWalk.i64_in _ (by omega)
    by_cases i4 : i < 4
    · have q1 : (i : Int).toNat = i := by omega
      have q2 : (0 : Int) ≤ (i : Int) := by omega
      have q3 : (i : Int) < 4 := by omega
      have cg := G.cg i i4
      have g64 := (h2 i i4).le
      obtain ⟨n, en⟩ : ∃ n, g i = n := ⟨_, rfl⟩
      have ii := isr i i4
      rw [en] at cg g64 ii
      by_cases hlt : (i : Int) < r
      · have hI := is_any n g64 key true (decide_eq_true (ii.2 hlt))
        clear ii en isr h2
        go_wp2_with (go_at_call 26; refine (hI _).mono ?_; rintro e w' ⟨rfl, rfl⟩)
        go_roundg (3 - i)
        case measure => omega
        case rel => exact ⟨i + 1, by omega, by omega, by go_num, h3, G, h4⟩
      · have hI := is_any n g64 key false (decide_eq_false (fun x => hlt (ii.1 x)))
        obtain rfl : r = (i : Int) := by omega
        clear ii en isr h2
        go_wp2_with (go_at_call 26; refine (hI _).mono ?_; rintro e w' ⟨rfl, rfl⟩)
        go_ret
        exact ⟨rfl, h3, h4⟩
    · obtain rfl : i = 4 := by omega
      obtain rfl : r = 4 := by omega
      clear isr h2
      go_wp2
      go_ret
      exact ⟨rfl, h3, h4⟩
theorem has_any (h : Tow w t p q th) (key : Int) (r : Bool) (hs : decide (0 < hgtT th key) = r) :
    Calls Try.prog 17 #[.pointer (some ⟨t, 0, none⟩), .int .i64 key] w fun y w' => y = .returned (.bool r) ∧ Tow w' t p q th ∧ Keep (Two p q) w w' := by
  obtain ⟨x, ex⟩ : ∃ x, hgtT th key = x := ⟨_, rfl⟩
  have hL := height_any h key x ex
  rw [ex] at hs
  clear ex
  go_enter Try.func17, Try.ntmps17
  go_wp2_with fail
  refine hL.mono ?_
  rintro e w1 ⟨rfl, h3, h4⟩
  go_wp2
  go_ret
  exact ⟨rfl, h3, h4⟩
def LRel (w : World) (t p q : Nat) (th : Nat → Nat) (l : Nat) (lo hi : Int) (m : Nat) (v vp : Value) (wr : World) : Prop :=
  ∃ i n : Nat, m + i = 64 ∧ vp = .int .i64 n ∧ OwnN w.heap.size wr v (segT th (l + 1) lo hi i) ∧ IsNx th (l + 1) i n ∧ (n = 0 ∨ lo ≤ (n : Int) - 1) ∧ Tow wr t p q th ∧ Keep (Two p q) w wr
set_option maxRecDepth 100000 in
theorem list_any (h : Tow w t p q th) (l i0 n0 : Nat) (lo hi : Int) (hl : l < 4) (h0 : i0 ≤ 64) (nx0 : IsNx th (l + 1) i0 n0) (s0 : n0 = 0 ∨ lo ≤ (n0 : Int) - 1) (b0 : i0 = 0 ∨ (i0 : Int) - 1 < lo) (zs : List Int) (hz : segT th (l + 1) lo hi 64 = zs) :
    Calls Try.prog 31 #[.pointer (some ⟨t, 0, none⟩), .int .i64 l, .int .i64 n0, .int .i64 hi] w fun y w' => ∃ v, y = .returned v ∧ OwnN w.heap.size w' v zs ∧ Tow w' t p q th ∧ Keep (Two p q) w w' := by
  have lt0 := h.lt
  go_enter Try.func31, Try.ntmps31
  go_wp2
  go_loopg [9, 10] (64 - i0) (fun m v vp wr => LRel w t p q th l lo hi m v vp wr)
  case atStart => exact ⟨i0, n0, by omega, rfl, by rcases b0 with rfl | b0; exact World.ownsRow_nil _ _ _ _; rw [seg_low i0 b0]; exact World.ownsRow_nil _ _ _ _, nx0, s0, h, Keep.refl _ _⟩
  case round =>
    clear nx0 s0 b0 h
    obtain ⟨i, n, hm, rfl, o, nx, st, h, K⟩ := hrel
    have n64 := nx.le
    by_cases hn : n = 0
    · subst hn
      have e := seg_end (lo := lo) (hi := hi) (by omega) nx (.inl rfl)
      rw [hz] at e
      have E := Lib.hid e
      clear e hz
      go_wp2
      go_ret
      exact ⟨_, rfl, by rw [E.out]; exact o, h, K⟩
    · obtain ⟨k3, ek⟩ : ∃ k3, (n : Int) - 1 = k3 := ⟨_, rfl⟩
      have hK := key_any n n64 k3 ek
      have d0 : ((n : Int) != 0) = true := by simp; omega
      by_cases hle : k3 ≤ hi
      · have d2 : decide (k3 ≤ hi) = true := decide_eq_true hle
        obtain ⟨q1, q2, q3, q4⟩ := nx.step hn
        have on := seg_on (lo := lo) (hi := hi) nx hn (by omega) (by omega)
        rw [ek] at on
        have ON := Lib.hid on
        obtain ⟨zs0, ha, hr⟩ := h.at'
        obtain ⟨n3, en3, nx3⟩ := hr l hl n n64 (.inr q3)
        have st3 : n3 = 0 ∨ lo ≤ (n3 : Int) - 1 := by
          by_cases x : n3 = 0
          · exact .inl x
          · have := nx3.step x; omega
        have sl := seg_len (th := th) (l + 1) lo hi i
        obtain ⟨zi, ezi⟩ : ∃ zi, segT th (l + 1) lo hi i = zi := ⟨_, rfl⟩
        rw [ezi] at o sl ON
        obtain ⟨A, c, ev, _, _⟩ := OwnN.shapeN o
        subst ev
        have EK := Lib.hid ek
        clear ek on q4 hz ezi ha
        go_wp2_with (first | (go_at_call 30; refine (hK _).mono ?_; rintro e w' ⟨rfl, rfl⟩) | (with_reducible refine wp_stop 28 rfl ?_))
        intro _
        refine wp_pushN rfl (.tmp 24) (.tmp 27) rfl w.heap.size K.size (.slice A zi.length c) zi rfl o k3 rfl (by omega) ?_
        intro g3 c3 y3 o3 k3' hg3
        have hG : ∀ j, (Value.slice A zi.length c).ownBlock = some j → w.heap.size ≤ j := fun j hj => (OwnN.lt o hj).1
        have h3 := h.keep k3' (fun x => by have := hG _ x; omega) (fun x => by have := hG _ x; omega) (fun x => by have := hG _ x; omega)
        have K3 := K.later k3' hG
        have g3b : w.heap.size ≤ g3 := by
          rcases hg3 with x | x
          · exact hG _ x
          · exact Nat.le_trans K.size x
        obtain ⟨zs1, ha1, hr1⟩ := h3.at'
        obtain ⟨n4, en4, nx4⟩ := hr1 l hl n n64 (.inr q3)
        have hN := next_at ha1 l n n4 hl n64 en4 nx4.le
        have st4 : n4 = 0 ∨ lo ≤ (n4 : Int) - 1 := by
          by_cases x : n4 = 0
          · exact .inl x
          · have := nx4.step x; omega
        rw [← ON.out] at o3
        clear k3' hg3 h K o hG en3 nx3 st3 en4
        go_wp2_with fail
        refine hN.mono ?_
        rintro e w3 ⟨rfl, ha2, K2⟩
        have nb : ∀ x, (Value.slice (some ⟨g3, 0, none⟩) (zi.length + 1) c3).ownBlock = some x → ¬ Two p q x := by
          intro x hx y
          have hx' : g3 = x := by simpa [Value.ownBlock] using hx
          rcases y with y | y <;> omega
        have o3 : OwnN w.heap.size y3 (.slice (some ⟨g3, 0, none⟩) (zi.length + 1) c3) (segT th (l + 1) lo hi n) := o3
        have o4 := OwnN.keep o3 K2 nb
        have K4 := K3.trans K2
        have h4 : Tow w3 t p q th := ⟨⟨zs1, ha2, hr1⟩, h3.h4, h3.far⟩
        clear o3 K2 K3 h3 ha1 ha2 hN
        have LE : (segT th (l + 1) lo hi n).length = zi.length + 1 := by rw [ON.out]; simp
        have LE := Lib.hid LE
        go_wp2
        go_roundg (64 - n)
        case measure => omega
        case rel => exact ⟨n, n4, by omega, rfl, by rw [← LE.out] at o4 ⊢; exact o4, nx4, st4, h4, K4⟩
      · have d2 : decide (k3 ≤ hi) = false := decide_eq_false hle
        have e := seg_end (lo := lo) (hi := hi) (by omega) nx (.inr (by omega))
        rw [hz] at e
        have E := Lib.hid e
        clear e hz
        go_wp2_with (go_at_call 30; refine (hK _).mono ?_; rintro e w' ⟨rfl, rfl⟩)
        go_ret
        exact ⟨_, rfl, by rw [E.out]; exact o, h, K⟩
end
end Go.Proofs.Yteaanaggcenloaa
