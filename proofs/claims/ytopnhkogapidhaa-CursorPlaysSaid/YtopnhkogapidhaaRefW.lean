/- Contracts of vinculumref3's Tower: a block of 64 heights; conditions: what comes in fits its kind. -/
import Derived.Test.YtopnhkogapidhaaTwI
import Derived.Test.YtopnhkogapidhaaGrid
import Derived.Test.YtopnhkogapidhaaPushN
import Derived.LoopTactic
namespace Go.Proofs.Ytopnhkogapidhaa
open Go.ChangeShapes Go.WideShapes Go.ChangeAt Go.RowKit
set_option linter.unusedVariables false

/-- The document's own Tower in block b. -/
structure RTw (w : World) (b : Nat) (th : Nat → Nat) : Prop where
  t : Ints64 w b (fun j => (th j : Int))
  h4 : ∀ j, th j ≤ 4
theorem RTw.keep {S : Nat → Prop} {w w' : World} {b : Nat} {th : Nat → Nat} (h : RTw w b th) (k : Keep S w w') (hn : ¬ S b) : RTw w' b th := ⟨h.t.keep k hn, h.h4⟩
theorem RTw.set {w : World} {b : Nat} {th : Nat → Nat} (h : RTw w b th) (i : Nat) (hi : i < 64) (x : Nat) (hx : x ≤ 4) : RTw (w.setCell ⟨b, i, none⟩ (.int .i64 x)) b (fun j => if j = i then x else th j) := by
  have := h.t.set i hi (x : Int)
  refine ⟨?_, fun j => by show (if j = i then x else th j) ≤ 4; split; exact hx; exact h.h4 j⟩
  have e : (fun j => if j = i then (x : Int) else (th j : Int)) = fun j => ((if j = i then x else th j : Nat) : Int) := funext fun j => by split <;> rfl
  rw [e] at this
  exact this
section
variable {w : World} {b : Nat} {th : Nat → Nat}
set_option maxHeartbeats 1000000 in
theorem rt_put (h : RTw w b th) (key height : Int) (r : Bool) (e : Int) (th' : Nat → Nat) (hs : putT th key height = (r, e, th')) :
    Calls Try.prog 15 #[.pointer (some ⟨b, 0, none⟩), .int .i64 key, .int .i64 height] w fun y w' => y = .returned (.tuple #[.bool r, .int .i64 e]) ∧ RTw w' b th' ∧ Keep (fun j => j = b) w w' := by
  unfold putT at hs
  rcases (by omega : key < 0 ∨ (0 ≤ key ∧ 63 < key) ∨ (0 ≤ key ∧ key ≤ 63 ∧ height < 1) ∨ (0 ≤ key ∧ key ≤ 63 ∧ 1 ≤ height ∧ 4 < height) ∨ (0 ≤ key ∧ key ≤ 63 ∧ 1 ≤ height ∧ height ≤ 4)) with h1 | ⟨h1, h2⟩ | ⟨h1, h2, h3⟩ | ⟨h1, h2, h3, h4⟩ | ⟨h1, h2, h3, h4⟩
  · rw [if_pos (by omega)] at hs
    cases hs
    have d1 : decide (key < 0) = true := decide_eq_true h1
    go_enter Try.func15, Try.ntmps15
    go_wp2
    go_ret2
    exact ⟨rfl, h, Keep.refl _ _⟩
  · rw [if_pos (by omega)] at hs
    cases hs
    have d1 : decide (key < 0) = false := decide_eq_false (by omega)
    have d2 : decide (63 < key) = true := decide_eq_true h2
    go_enter Try.func15, Try.ntmps15
    go_wp2
    go_ret2
    exact ⟨rfl, h, Keep.refl _ _⟩
  · rw [if_pos (by omega)] at hs
    cases hs
    have d1 : decide (key < 0) = false := decide_eq_false (by omega)
    have d2 : decide (63 < key) = false := decide_eq_false (by omega)
    have d3 : decide (height < 1) = true := decide_eq_true h3
    go_enter Try.func15, Try.ntmps15
    go_wp2
    go_ret2
    exact ⟨rfl, h, Keep.refl _ _⟩
  · rw [if_pos (by omega)] at hs
    cases hs
    have d1 : decide (key < 0) = false := decide_eq_false (by omega)
    have d2 : decide (63 < key) = false := decide_eq_false (by omega)
    have d3 : decide (height < 1) = false := decide_eq_false (by omega)
    have d4 : decide (4 < height) = true := decide_eq_true h4
    go_enter Try.func15, Try.ntmps15
    go_wp2
    go_ret2
    exact ⟨rfl, h, Keep.refl _ _⟩
  · obtain ⟨j, rfl⟩ : ∃ j : Nat, key = j := ⟨key.toNat, by omega⟩
    obtain ⟨x, rfl⟩ : ∃ x : Nat, height = x := ⟨height.toNat, by omega⟩
    have q3 : (j : Int).toNat = j := by omega
    have q4 : (x : Int).toNat = x := by omega
    have q5 : (0 : Int) ≤ (j : Int) := by omega
    have q6 : (j : Int) < 64 := by omega
    have q7 : j < 64 := by omega
    rw [if_neg (by omega), q3, q4] at hs
    have d1 : decide ((j : Int) < 0) = false := decide_eq_false (by omega)
    have d2 : decide (63 < (j : Int)) = false := decide_eq_false (by omega)
    have d3 : decide ((x : Int) < 1) = false := decide_eq_false (by omega)
    have d4 : decide (4 < (x : Int)) = false := decide_eq_false (by omega)
    have cj := h.t.cell j q7
    have zj := h.t.free j
    obtain ⟨v, ev⟩ : ∃ v, th j = v := ⟨_, rfl⟩
    rw [ev] at hs cj
    by_cases hv : 0 < v
    · rw [if_pos hv] at hs
      cases hs
      have d5 : decide ((0 : Int) < (v : Int)) = true := decide_eq_true (by omega)
      clear ev
      go_enter Try.func15, Try.ntmps15
      go_wp2
      go_ret2
      exact ⟨rfl, h, Keep.refl _ _⟩
    · rw [if_neg hv] at hs
      cases hs
      have d5 : decide ((0 : Int) < (v : Int)) = false := decide_eq_false (by omega)
      have H := h.set j q7 x (by omega)
      clear ev
      go_enter Try.func15, Try.ntmps15
      go_wp2
      go_ret2
      exact ⟨rfl, H, keep_one w ⟨b, j, none⟩ (.int .i64 x)⟩
set_option maxHeartbeats 1000000 in
theorem rt_range (h : RTw w b th) (lo hi : Int) :
    Calls Try.prog 16 #[.pointer (some ⟨b, 0, none⟩), .int .i64 lo, .int .i64 hi] w fun y w' => ∃ v, y = .returned v ∧ OwnN w.heap.size w' v (rngT th lo hi 64) ∧ Below w.heap.size w w' := by
  go_enter Try.func16, Try.ntmps16
  go_wp2
  go_loopw [7, 8] (fun v i wr => ∃ m : Nat, m ≤ 64 ∧ i = .int .i64 m ∧ OwnN w.heap.size wr v (rngT th lo hi m) ∧ Below w.heap.size w wr) (fun _ i _ => 64 - (intOf i).toNat)
  case atStart => exact ⟨0, Nat.zero_le _, rfl, World.ownsRow_nil _ _ _ _, Below.refl _ _⟩
  case round =>
    obtain ⟨m, m64, rfl, o, bl⟩ := hrel
    have wk : IntKind.i64.wrap ((m : Int) + 1) = (m : Int) + 1 := IntWalk.i64_in _ (by omega)
    by_cases hlt : m < 64
    · have H := h.keep (Keep.of_below bl (fun _ => False)) (by simp)
      have cj := H.t.cell m hlt
      have q3 : (m : Int).toNat = m := by omega
      have q5 : (0 : Int) ≤ (m : Int) := by omega
      have q6 : (m : Int) < 64 := by omega
      have ll := rng_len (th := th) lo hi m
      have e1 : rngT th lo hi (m + 1) = if 0 < th m ∧ lo ≤ m ∧ (m : Int) ≤ hi then rngT th lo hi m ++ [(m : Int)] else rngT th lo hi m := rfl
      obtain ⟨v0, ev⟩ : ∃ v, th m = v := ⟨_, rfl⟩
      rw [ev] at cj e1
      by_cases c1 : 0 < v0
      · have d1 : decide ((0 : Int) < (v0 : Int)) = true := decide_eq_true (by omega)
        by_cases c2 : lo ≤ m
        · have d2 : decide (lo ≤ (m : Int)) = true := decide_eq_true c2
          by_cases c3 : (m : Int) ≤ hi
          · have d3 : decide ((m : Int) ≤ hi) = true := decide_eq_true c3
            rw [if_pos ⟨c1, c2, c3⟩] at e1
            have E1 := Lib.hid e1
            clear e1 ev H c2 c3
            obtain ⟨A2, k2, ev2, _, _⟩ := OwnN.shapeN o
            subst ev2
            go_wp2_with (with_reducible refine wp_stop 33 rfl ?_)
            intro _
            refine wp_pushN rfl (.tmp 30) (.tmp 32) rfl w.heap.size bl.size (.slice A2 (rngT th lo hi m).length k2) (rngT th lo hi m) rfl o (m : Int) rfl (by omega) ?_
            intro g3 c3 y3 o3 k3 hg3
            have b3 := bl.trans (k3.below bl.size (fun g hg => (OwnN.lt o hg).1))
            clear k3 hg3
            go_wp2
            first | exact ⟨⟨m + 1, by omega, by go_num, by rw [E1.out]; exact o3, b3⟩, by simp [intOf]; omega⟩ | (refine ⟨?rel2, ?meas2⟩; (case meas2 => (simp [intOf]; omega)); (case rel2 => ((repeat apply Exists.intro); exact ⟨⟨m + 1, by omega, by go_num, by rw [E1.out]; exact o3, b3⟩, rfl⟩)))
          · have d3 : decide ((m : Int) ≤ hi) = false := decide_eq_false c3
            rw [if_neg (fun h' => c3 h'.2.2)] at e1
            have E1 := Lib.hid e1
            clear e1 ev H c2 c3
            go_wp2
            first | exact ⟨⟨m + 1, by omega, by go_num, by rw [E1.out]; exact o, bl⟩, by simp [intOf]; omega⟩ | (refine ⟨?rel2, ?meas2⟩; (case meas2 => (simp [intOf]; omega)); (case rel2 => ((repeat apply Exists.intro); exact ⟨⟨m + 1, by omega, by go_num, by rw [E1.out]; exact o, bl⟩, rfl⟩)))
        · have d2 : decide (lo ≤ (m : Int)) = false := decide_eq_false c2
          rw [if_neg (fun h' => c2 h'.2.1)] at e1
          have E1 := Lib.hid e1
          clear e1 ev H c2
          go_wp2
          first | exact ⟨⟨m + 1, by omega, by go_num, by rw [E1.out]; exact o, bl⟩, by simp [intOf]; omega⟩ | (refine ⟨?rel2, ?meas2⟩; (case meas2 => (simp [intOf]; omega)); (case rel2 => ((repeat apply Exists.intro); exact ⟨⟨m + 1, by omega, by go_num, by rw [E1.out]; exact o, bl⟩, rfl⟩)))
      · rw [if_neg (fun h' => c1 h'.1)] at e1
        have E1 := Lib.hid e1
        obtain rfl : v0 = 0 := by omega
        clear e1 ev H c1
        go_wp2
        first | exact ⟨⟨m + 1, by omega, by go_num, by rw [E1.out]; exact o, bl⟩, by simp [intOf]; omega⟩ | (refine ⟨?rel2, ?meas2⟩; (case meas2 => (simp [intOf]; omega)); (case rel2 => ((repeat apply Exists.intro); exact ⟨⟨m + 1, by omega, by go_num, by rw [E1.out]; exact o, bl⟩, rfl⟩)))
    · obtain rfl : m = 64 := by omega
      go_wp2
      go_ret
      exact ⟨_, rfl, o, bl⟩
theorem stpK_b (th : Nat → Nat) (key h : Int) (s : Int × Int) (c : Int) (s0 : 0 ≤ s.1) (s1 : s.1 ≤ c) (l0 : -1 ≤ s.2) (l1 : s.2 ≤ 63) : ∀ m : Nat, m ≤ 64 → 0 ≤ (stpK th key h s m).1 ∧ (stpK th key h s m).1 ≤ c + m ∧ -1 ≤ (stpK th key h s m).2 ∧ (stpK th key h s m).2 ≤ 63
  | 0, _ => ⟨s0, by show s.1 ≤ c + ((0 : Nat) : Int); omega, l0, l1⟩
  | m + 1, hm => by
    obtain ⟨a, b, d, e⟩ := stpK_b th key h s c s0 s1 l0 l1 m (by omega)
    unfold stpK
    split
    · exact ⟨by show 0 ≤ _ + 1; omega, by show _ + 1 ≤ _; omega, by show -1 ≤ (m : Int); omega, by show (m : Int) ≤ 63; omega⟩
    · exact ⟨a, by omega, d, e⟩
theorem stpH_b (th : Nat → Nat) (key : Int) : ∀ i : Nat, 0 ≤ (stpH th key i).1 ∧ (stpH th key i).1 ≤ 64 * i ∧ -1 ≤ (stpH th key i).2 ∧ (stpH th key i).2 ≤ 63
  | 0 => ⟨Int.le_refl _, by show (0 : Int) ≤ _; omega, Int.le_refl _, by show (-1 : Int) ≤ 63; omega⟩
  | i + 1 => by
    obtain ⟨a, b, c, d⟩ := stpH_b th key i
    obtain ⟨a', b', c', d'⟩ := stpK_b th key (4 - (i : Int)) (stpH th key i) (64 * i) a b c d 64 (Nat.le_refl _)
    exact ⟨a', by show (stpK th key (4 - (i : Int)) (stpH th key i) 64).1 ≤ _; omega, c', d'⟩
def RS1 (th : Nat → Nat) (key : Int) (w : World) (i : Nat) (nv lv hv : Value) (wr : World) : Prop := i ≤ 4 ∧ hv = .int .i64 (4 - (i : Int)) ∧ nv = .int .i64 (stpH th key i).1 ∧ lv = .int .i64 (stpH th key i).2 ∧ w = wr
def RS2 (th : Nat → Nat) (key h : Int) (s : Int × Int) (w : World) (m : Nat) (nv lv kv : Value) (wr : World) : Prop := m ≤ 64 ∧ kv = .int .i64 (m : Int) ∧ nv = .int .i64 (stpK th key h s m).1 ∧ lv = .int .i64 (stpK th key h s m).2 ∧ w = wr
end
end Go.Proofs.Ytopnhkogapidhaa
