/- Package tower: New, Put, Drop, Has, Height, Level, From, Range, Steps, Len of any Tower; conditions: 'Tow': its words lead from key to key. -/
import Derived.Test.YtopnhkogapidhaaTwS1
import Derived.Test.YtopnhkogapidhaaPushN
import Derived.Test.YtopnhkogapidhaaSameN
namespace Go.Proofs.Ytopnhkogapidhaa
open Go.ChangeShapes Go.WideShapes Go.ChangeAt Go.RowKit
set_option linter.unusedVariables false

/-- A Tower at block t, of the Arena at p, q, that holds keys of these heights. -/
structure Tow (w : World) (t p q : Nat) (th : Nat → Nat) : Prop where
  at' : ∃ zs, TwAt w t p q zs ∧ ∀ l, l < 4 → RowT th l zs
  h4 : ∀ j, th j ≤ 4
  far : ∀ j, 64 ≤ j → th j = 0
section
variable {w w' : World} {t p q : Nat} {th th' : Nat → Nat}
theorem Tow.keep {T : Nat → Prop} (h : Tow w t p q th) (k : Keep T w w') (ht : ¬ T t) (hp : ¬ T p) (hq : ¬ T q) : Tow w' t p q th := by
  obtain ⟨zs, ha, hr⟩ := h.at'
  exact ⟨⟨zs, ha.keep k ht hp hq, hr⟩, h.h4, h.far⟩
theorem Tow.quiet (h : Tow w t p q th) (k : Keep (fun _ => False) w w') : Tow w' t p q th := h.keep k (by simp) (by simp) (by simp)
theorem Tow.lt (h : Tow w t p q th) : t < w.heap.size ∧ p < w.heap.size ∧ q < w.heap.size := by
  obtain ⟨zs, ha, hr⟩ := h.at'
  exact ha.lt
theorem look_any (h : Tow w t p q th) (key : Int) :
    Calls Try.prog 19 #[.pointer (some ⟨t, 0, none⟩), .int .i64 key] w fun e w' => ∃ f g k, e = .returned (.tuple #[gapsV f g, .int .i64 k]) ∧ stepsT th key = k ∧ (∀ l, l < 4 → Gap th key (l + 1) (f l) (g l)) ∧ Tow w' t p q th ∧ Keep (Two p q) w w' := by
  obtain ⟨zs, ha, hr⟩ := h.at'
  refine (search_any ha hr key).mono ?_
  rintro e w1 ⟨f, g, k, rfl, h1, h2, h3, h4⟩
  exact ⟨f, g, k, rfl, h1, h2, ⟨⟨zs, h3, hr⟩, h.h4, h.far⟩, h4⟩
theorem hgt_b (h : Tow w t p q th) (key : Int) : 0 ≤ hgtT th key ∧ hgtT th key ≤ 4 := by
  have := h.h4 key.toNat
  unfold hgtT
  split <;> omega
theorem hgt_is (h : Tow w t p q th) {key : Int} {f g : Nat → Nat} (hg : ∀ l, l < 4 → Gap th key (l + 1) (f l) (g l)) (l : Nat) (hl : l < 4) : (g l ≠ 0 ∧ (g l : Int) - 1 = key) ↔ (l : Int) < hgtT th key := by
  rw [(hg l hl).is (Nat.succ_pos l)]
  unfold hgtT
  split <;> omega
theorem from_yes (h : Tow w t p q th) (key : Int) (j : Nat) (hj : NextT th key j) :
    Calls Try.prog 32 #[.pointer (some ⟨t, 0, none⟩), .int .i64 key] w fun y w' => y = .returned (.tuple #[.int .i64 j, .bool true]) ∧ Tow w' t p q th ∧ Keep (Two p q) w w' := by
  have hL := look_any h key
  go_enter Try.func32, Try.ntmps32
  go_wp2_with fail; refine hL.mono ?_; rintro e w1 ⟨f, g, k, rfl, h1, h2, h3, h4⟩; dsimp only [gapsV]
  have KA := Keep.alloc (Keep.refl (fun _ => False) w1) (.cells #[.int .i64 (f 0), .int .i64 (g 0), .int .i64 (f 1), .int .i64 (g 1), .int .i64 (f 2), .int .i64 (g 2), .int .i64 (f 3), .int .i64 (g 3)] 62)
  have h3 := h3.quiet KA
  have h4 := h4.later KA (by simp)
  have G := h2 0 (by omega)
  have e : g 0 = j + 1 := by
    have gm := G.mem
    have gs := G.stop
    have j1 := hj.lt
    have j2 := hj.here
    have j3 := hj.le
    have g0 : g 0 ≠ 0 := fun e => by have := (e ▸ G.nx).none j (by omega) j1; omega
    obtain ⟨q1, q2, q3, q4⟩ := G.nx.step g0
    rcases (by omega : g 0 - 1 < j ∨ g 0 - 1 = j ∨ j < g 0 - 1) with x | x | x
    · have := hj.no (g 0 - 1) x (by omega); omega
    · omega
    · have := q4 j (by omega) x; omega
  have j64 := hj.lt
  have hK := key_any (j + 1) (by omega) (j : Int) (by omega)
  have d1 : (((j + 1 : Nat) : Int) == 0) = false := by simp; omega
  clear G h2 hL
  rw [e] at h3 h4 ⊢
  clear e
  go_wp2_with (go_at_call 28; refine (hK _).mono ?_; rintro e w' ⟨rfl, rfl⟩)
  go_ret2
  exact ⟨rfl, h3, h4⟩
theorem from_no (h : Tow w t p q th) (key : Int) (hj : ∀ j : Nat, j < 64 → key ≤ j → th j = 0) :
    Calls Try.prog 32 #[.pointer (some ⟨t, 0, none⟩), .int .i64 key] w fun y w' => y = .returned (.tuple #[.int .i64 0, .bool false]) ∧ Tow w' t p q th ∧ Keep (Two p q) w w' := by
  have hL := look_any h key
  go_enter Try.func32, Try.ntmps32
  go_wp2_with fail; refine hL.mono ?_; rintro e w1 ⟨f, g, k, rfl, h1, h2, h3, h4⟩; dsimp only [gapsV]
  have KA := Keep.alloc (Keep.refl (fun _ => False) w1) (.cells #[.int .i64 (f 0), .int .i64 (g 0), .int .i64 (f 1), .int .i64 (g 1), .int .i64 (f 2), .int .i64 (g 2), .int .i64 (f 3), .int .i64 (g 3)] 62)
  have h3 := h3.quiet KA
  have h4 := h4.later KA (by simp)
  have G := h2 0 (by omega)
  have e : g 0 = 0 := by
    have gs := G.stop
    rcases Nat.eq_zero_or_pos (g 0) with x | x
    · exact x
    · obtain ⟨q1, q2, q3, q4⟩ := G.nx.step (by omega)
      have := hj (g 0 - 1) (by omega) (by omega)
      omega
  clear G h2 hL
  rw [e] at h3 h4 ⊢
  clear e
  go_wp2
  go_ret2
  exact ⟨rfl, h3, h4⟩
def HRel (w : World) (t p q : Nat) (th : Nat → Nat) (b : Nat) (f g : Nat → Nat) (r : Int) (m : Nat) (vh : Value) (wr : World) : Prop :=
  ∃ i : Nat, m + i = 4 ∧ (i : Int) ≤ r ∧ vh = .int .i64 i ∧ Tow wr t p q th ∧ GapsAt wr b f g ∧ Keep (Two p q) w wr
def LRel (w : World) (t p q : Nat) (th : Nat → Nat) (l : Nat) (lo hi : Int) (m : Nat) (v vp : Value) (wr : World) : Prop :=
  ∃ i n : Nat, m + i = 64 ∧ vp = .int .i64 n ∧ OwnN w.heap.size wr v (segT th (l + 1) lo hi i) ∧ IsNx th (l + 1) i n ∧ (n = 0 ∨ lo ≤ (n : Int) - 1) ∧ Tow wr t p q th ∧ Keep (Two p q) w wr
end
end Go.Proofs.Ytopnhkogapidhaa
