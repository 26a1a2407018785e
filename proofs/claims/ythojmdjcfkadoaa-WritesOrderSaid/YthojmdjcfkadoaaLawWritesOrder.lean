/- Proved here: vinculumlaw14.WritesOrder returns true and leaves its arguments as they were, for any two 64-bit words; no further condition. -/
import Derived.Test.YthojmdjcfkadoaaWrP
import Derived.Test.YthojmdjcfkadoaaMask
import Derived.ChangeOld
import Derived.Deep.LoopGhost
import Derived.Deep.CutRange
import Derived.Deep.CutBlock
import Derived.Deep.RegionHeld3
import Derived.StillTailTactics
namespace Go.Proofs.Ythojmdjcfkadoaa.writesOrder
open Go.ChangeShapes Go.WideShapes Go.ChangeAt Go.RowKit
set_option linter.unusedVariables false

/-- What is written of a key. -/
def wOf (G : Nat) (k : Nat) : WrI := if G.testBit k then ⟨k, 0, true⟩ else ⟨k, (k : Int) + 100, false⟩
theorem wOf_k (G k : Nat) : (wOf G k).k = k := by unfold wOf; split <;> rfl
def hOf (K G k : Nat) : Option WrI := if K.testBit k then some (wOf G k) else none
/-- The writes of the first i keys, forwards and backwards. -/
def wa (K G i : Nat) : List WrI := (List.range i).filterMap (hOf K G)
def wb (K G i : Nat) : List WrI := ((List.range i).map (63 - ·)).filterMap (hOf K G)
theorem wa_succ (K G i : Nat) : wa K G (i + 1) = if K.testBit i then wa K G i ++ [wOf G i] else wa K G i := by
  unfold wa
  rw [List.range_succ, List.filterMap_append]
  unfold hOf
  split <;> simp [*]
theorem wb_succ (K G i : Nat) : wb K G (i + 1) = if K.testBit (63 - i) then wb K G i ++ [wOf G (63 - i)] else wb K G i := by
  unfold wb
  rw [List.range_succ, List.map_append, List.filterMap_append]
  unfold hOf
  split <;> simp [*]
theorem wa_lt {K G i : Nat} {x : WrI} (h : x ∈ wa K G i) : ∃ j, j < i ∧ x.k = (j : Int) := by
  unfold wa at h
  obtain ⟨j, hj, e⟩ := List.mem_filterMap.1 h
  unfold hOf at e
  split at e
  · cases e; exact ⟨j, by simpa using hj, wOf_k G j⟩
  · cases e
theorem wb_ge {K G i : Nat} {x : WrI} (h : x ∈ wb K G i) : ∃ j, j < i ∧ x.k = ((63 - j : Nat) : Int) := by
  unfold wb at h
  obtain ⟨m, hm, e⟩ := List.mem_filterMap.1 h
  obtain ⟨j, hj, rfl⟩ := List.mem_map.1 hm
  unfold hOf at e
  split at e
  · cases e; exact ⟨j, by simpa using hj, wOf_k G _⟩
  · cases e
theorem wa_new (K G i : Nat) (x : WrI) (hx : x.k = i) : setW (wa K G i) x = wa K G i ++ [x] := setW_new fun y hy => by
  obtain ⟨j, hj, e⟩ := wa_lt hy
  rw [e, hx]
  omega
theorem wb_new (K G i : Nat) (hi : i < 64) (x : WrI) (hx : x.k = ((63 - i : Nat) : Int)) : setW (wb K G i) x = wb K G i ++ [x] := setW_new fun y hy => by
  obtain ⟨j, hj, e⟩ := wb_ge hy
  rw [e, hx]
  omega
theorem wb_rev (K G : Nat) : wb K G 64 = (wa K G 64).reverse := by
  unfold wb wa
  rw [show (List.range 64).map (63 - ·) = (List.range 64).reverse by decide, List.filterMap_reverse]
theorem wa_unlike (K G : Nat) : ∀ i, (wa K G i).Pairwise (fun a b => a.k ≠ b.k)
  | 0 => List.Pairwise.nil
  | i + 1 => by
    rw [wa_succ]
    split
    · rw [List.pairwise_append]
      refine ⟨wa_unlike K G i, by simp, fun a ha b hb => ?_⟩
      simp at hb
      subst hb
      obtain ⟨j, hj, e⟩ := wa_lt ha
      rw [e, wOf_k]
      omega
    · exact wa_unlike K G i
theorem wa_len (K G : Nat) : ∀ i, (wa K G i).length ≤ i
  | 0 => Nat.le_refl _
  | i + 1 => by
    have := wa_len K G i
    rw [wa_succ]
    split
    · simp; omega
    · omega
/-- What a key's write asks, and leaves. -/
theorem ask {s : List WrI} {G k : Nat} (hk : k < 64) (hn : ∀ x : WrI, x.k = k → setW s x = s ++ [x]) :
    (G.testBit k = true → dropI s (k : Int) = (0, s ++ [wOf G k])) ∧ (G.testBit k = false → putI s (k : Int) ((k : Int) + 100) = (0, s ++ [wOf G k])) := by
  refine ⟨fun h => ?_, fun h => ?_⟩
  · unfold dropI
    rw [if_neg (by omega), hn _ rfl]
    unfold wOf
    rw [if_pos h]
  · unfold putI
    rw [if_neg (by omega), hn _ rfl]
    unfold wOf
    rw [if_neg (by simp [h])]
/-- The row of two that a round goes through. -/
structure Pr2 (w : World) (B g a b : Nat) (i : Nat) (Sa Sb : Nat → Prop) : Prop where
  c0 : w.cell? ⟨g, 0, none⟩ = some (.pointer (some ⟨a, 0, none⟩))
  c1 : w.cell? ⟨g, 1, none⟩ = some (.int .i64 i)
  c2 : w.cell? ⟨g, 2, none⟩ = some (.pointer (some ⟨b, 0, none⟩))
  c3 : w.cell? ⟨g, 3, none⟩ = some (.int .i64 ((63 - i : Nat) : Int))
  na : ¬ Sa g
  nb : ¬ Sb g
theorem Pr2.keep {w w' : World} {B g a b i : Nat} {Sa Sb T : Nat → Prop} (h : Pr2 w B g a b i Sa Sb) (k : Keep T w w') (hn : ¬ T g) : Pr2 w' B g a b i Sa Sb := ⟨k.cell h.c0 hn, k.cell h.c1 hn, k.cell h.c2 hn, k.cell h.c3 hn, h.na, h.nb⟩
theorem Pr2.stepA {w w' : World} {B g a b i : Nat} {Sa Sb Sa' : Nat → Prop} (h : Pr2 w B g a b i Sa Sb) (hg : g < w.heap.size) (k : VKeep Sa Sa' w w') : Pr2 w' B g a b i Sa' Sb :=
  ⟨k.1.cell h.c0 h.na, k.1.cell h.c1 h.na, k.1.cell h.c2 h.na, k.1.cell h.c3 h.na, fun x => by rcases k.2 g x with y | y; exact h.na y; omega, h.nb⟩
theorem Pr2.stepB {w w' : World} {B g a b i : Nat} {Sa Sb Sb' : Nat → Prop} (h : Pr2 w B g a b i Sa Sb) (hg : g < w.heap.size) (k : VKeep Sb Sb' w w') : Pr2 w' B g a b i Sa Sb' :=
  ⟨k.1.cell h.c0 h.nb, k.1.cell h.c1 h.nb, k.1.cell h.c2 h.nb, k.1.cell h.c3 h.nb, h.na, fun x => by rcases k.2 g x with y | y; exact h.nb y; omega⟩
def lvA (K G i j : Nat) : List WrI := wa K G (if 1 ≤ j then i + 1 else i)
def lvB (K G i j : Nat) : List WrI := wb K G (if 2 ≤ j then i + 1 else i)
def R1 (w : World) (a b K G : Nat) (nv iv : Value) (wr : World) : Prop := ∃ (i : Nat) (Sa Sb : Nat → Prop), i ≤ 64 ∧ iv = .int .i64 i ∧ nv = .int .i64 ((wa K G i).length : Int) ∧ W2 w wr a Sa (wa K G i) b Sb (wb K G i)
def R2 (w : World) (a b K G i g B : Nat) (jv : Value) (wr : World) : Prop := ∃ (j : Nat) (Sa Sb : Nat → Prop), j ≤ 2 ∧ jv = .int .i64 j ∧ W2 w wr a Sa (lvA K G i j) b Sb (lvB K G i j) ∧ Pr2 wr B g a b i Sa Sb ∧ g < wr.heap.size
def R3 (y : World) (n : Nat) (iv : Value) (wr : World) : Prop := ∃ (i d : Nat), i ≤ n ∧ iv = .int .i64 i ∧ wr = y.drewN d
set_option maxRecDepth 100000 in
set_option maxHeartbeats 16000000 in
theorem walk (a0 a1 : Int) (w : World) (w0 : (Lit.int .u64 a0).wf = true) (w1 : (Lit.int .u64 a1).wf = true) :
    Calls Try.prog 3 #[.int .u64 a0, .int .u64 a1] w fun e w' => e = .returned (.bool true) ∧ Below w.heap.size w w' := by
  obtain ⟨K, rfl⟩ : ∃ n : Nat, a0 = (n : Int) := ⟨a0.toNat, by have := bounds_u64 w0; omega⟩
  obtain ⟨G, rfl⟩ : ∃ n : Nat, a1 = (n : Int) := ⟨a1.toNat, by have := bounds_u64 w1; omega⟩
  have hK : K ≤ 18446744073709551615 := by have := bounds_u64 w0; omega
  have hG : G ≤ 18446744073709551615 := by have := bounds_u64 w1; omega
  clear w0 w1
  go_enter Try.func3, Try.ntmps3
  go_wp2_with fail
  refine (wr_new (Below.refl _ _)).mono ?_
  rintro e y1 ⟨a, Sa, rfl, Ca, _, _⟩
  go_wp2_with fail
  refine (wr_new Ca.b).mono ?_
  rintro e y2 ⟨b, Sb, rfl, Cb, kb, gb⟩
  have D : W2 w y2 a Sa [] b Sb [] := ⟨Ca.quiet kb, Cb, fun g h1 h2 => by have := Ca.lt g h1; have := gb g h2; omega⟩
  clear Ca Cb kb gb
  go_wp2
  go_loopw [7, 8] (fun nv iv wr => R1 w a b K G nv iv wr) (fun _ iv _ => 64 - (intOf iv).toNat)
  case atStart => exact ⟨0, Sa, Sb, Nat.zero_le _, rfl, rfl, D⟩
  case round =>
    clear D
    obtain ⟨i, Sa, Sb, i64, rfl, rfl, D⟩ := hrel
    have wi : IntKind.i64.wrap ((i : Int) + 1) = (i : Int) + 1 := IntWalk.i64_in _ (by omega)
    have wl := wa_len K G i
    by_cases hlt : i < 64
    · have wm : IntKind.i64.wrap (63 - (i : Int)) = ((63 - i : Nat) : Int) := (IntWalk.i64_in _ (by omega)).trans (by omega)
      obtain ⟨m, em⟩ : ∃ m, 63 - i = m := ⟨_, rfl⟩
      have hltI : (i : Int) < 64 := by omega
      have kL := Keep.alloc (Keep.refl (fun _ => False) wr) (.cells #[.pointer (some ⟨a, 0, none⟩), .int .i64 i, .pointer (some ⟨b, 0, none⟩), .int .i64 m] 25)
      have D1 := D.quiet kL
      have P1 : Pr2 (wr.alloc (.cells #[.pointer (some ⟨a, 0, none⟩), .int .i64 i, .pointer (some ⟨b, 0, none⟩), .int .i64 m] 25)) 0 wr.heap.size a b i Sa Sb :=
        ⟨by simp, by simp, by simp, by rw [em]; simp, fun x => by have := D.ra.lt _ x; omega, fun x => by have := D.rb.lt _ x; omega⟩
      have G1 : wr.heap.size < (wr.alloc (.cells #[.pointer (some ⟨a, 0, none⟩), .int .i64 i, .pointer (some ⟨b, 0, none⟩), .int .i64 m] 25)).heap.size := by simp
      rw [em] at wm
      have m64 : m < 64 := by omega
      have EM := Lib.hid em
      obtain ⟨g, eg⟩ : ∃ g, wr.heap.size = g := ⟨_, rfl⟩
      rw [eg] at P1 G1
      have HLT := Lib.hid hlt
      clear D kL em
      go_wp2
      clear hlt
      go_loopw [36] (fun jv wx => R2 w a b K G i g 0 jv wx) (fun jv _ => 2 - (intOf jv).toNat)
      case atStart => exact ⟨0, Sa, Sb, by omega, rfl, D1, P1, G1⟩
      case round =>
        clear D1 P1 G1 eg
        obtain ⟨j, Sa, Sb, j2, rfl, D, hp, hg⟩ := hrel
        have em := EM.out
        have hlt := HLT.out
        rcases (by omega : j = 0 ∨ j = 1 ∨ j = 2) with rfl | rfl | rfl
        · have bS := D.below.size
          have kA := Keep.alloc (Keep.refl (fun _ => False) wr) (.cells #[.pointer (some ⟨a, 0, none⟩), .int .i64 (i : Int)] 25)
          have D := D.quiet kA
          have hp0 := hp.c0
          have hp1 := hp.c1
          have hp := hp.keep kA (by simp)
          have hg2 : g < (wr.alloc (.cells #[.pointer (some ⟨a, 0, none⟩), .int .i64 (i : Int)] 25)).heap.size := by simp; omega
          cases hbt : K.testBit i with
          | false =>
            have ba := bit_false hK hbt
            have e1 : lvA K G i 1 = lvA K G i 0 := by show wa K G (i + 1) = wa K G i; rw [wa_succ]; skip; rw [if_neg (by simp [hbt])]
            have e2 : lvB K G i 1 = lvB K G i 0 := rfl
            rw [← e1, ← e2] at D
            clear hbt e1 e2 hlt em
            go_wp2
            exact ⟨⟨1, Sa, Sb, by omega, by go_num, D, hp, hg2⟩, by simp [intOf]⟩
          | true =>
            have ba := bit_true hK hbt
            have e1 : lvA K G i 1 = lvA K G i 0 ++ [wOf G i] := by show wa K G (i + 1) = wa K G i ++ [wOf G i]; rw [wa_succ]; skip; rw [if_pos hbt]
            have e2 : lvB K G i 1 = lvB K G i 0 := rfl
            have hask := ask (s := lvA K G i 0) (G := G) (k := i) (by omega) (fun x hx => wa_new K G i x hx)
            rw [← e1] at hask
            rw [← e2] at D
            clear e1 e2 hbt
            cases hgt : G.testBit i with
            | true =>
              have bg := bit_true hG hgt
              have hs := hask.1 hgt
              clear hask hgt hlt em
              go_wp2_with fail
              refine (wr_drop D.ra _ _ _ hs).mono ?_
              rintro e y3 ⟨rfl, S3, C3, k3⟩
              have D := D.stepA C3 k3
              have hp := hp.stepA hg2 k3
              have hg3 := Nat.lt_of_lt_of_le hg2 k3.1.size
              clear C3 k3 hs
              go_wp2
              first | exact ⟨⟨1, S3, Sb, by omega, by go_num, D, hp, hg3⟩, by simp [intOf]⟩ | (refine ⟨?rel2, ?meas2⟩; (case meas2 => (simp [intOf])); (case rel2 => ((repeat apply Exists.intro); exact ⟨⟨1, S3, Sb, by omega, by go_num, D, hp, hg3⟩, rfl⟩)))
            | false =>
              have bg := bit_false hG hgt
              have hs := hask.2 hgt
              have w100 : IntKind.i64.wrap ((i : Int) + 100) = (i : Int) + 100 := IntWalk.i64_in _ (by omega)
              clear hask hgt hlt em
              go_wp2_with fail
              refine (wr_put D.ra _ _ _ _ hs).mono ?_
              rintro e y3 ⟨rfl, S3, C3, k3⟩
              have D := D.stepA C3 k3
              have hp := hp.stepA hg2 k3
              have hg3 := Nat.lt_of_lt_of_le hg2 k3.1.size
              clear C3 k3 hs
              go_wp2
              first | exact ⟨⟨1, S3, Sb, by omega, by go_num, D, hp, hg3⟩, by simp [intOf]⟩ | (refine ⟨?rel2, ?meas2⟩; (case meas2 => (simp [intOf])); (case rel2 => ((repeat apply Exists.intro); exact ⟨⟨1, S3, Sb, by omega, by go_num, D, hp, hg3⟩, rfl⟩)))
        · have bS := D.below.size
          have kA := Keep.alloc (Keep.refl (fun _ => False) wr) (.cells #[.pointer (some ⟨b, 0, none⟩), .int .i64 (m : Int)] 25)
          have D := D.quiet kA
          have hp0 := hp.c2
          have hp1 := hp.c3
          rw [em] at hp1
          have hp := hp.keep kA (by simp)
          have hg2 : g < (wr.alloc (.cells #[.pointer (some ⟨b, 0, none⟩), .int .i64 (m : Int)] 25)).heap.size := by simp; omega
          cases hbt : K.testBit m with
          | false =>
            have ba := bit_false hK hbt
            have e1 : lvB K G i 2 = lvB K G i 1 := by show wb K G (i + 1) = wb K G i; rw [wb_succ]; rw [em]; rw [if_neg (by simp [hbt])]
            have e2 : lvA K G i 2 = lvA K G i 1 := rfl
            rw [← e1, ← e2] at D
            clear hbt e1 e2 hlt em
            go_wp2
            exact ⟨⟨2, Sa, Sb, by omega, by go_num, D, hp, hg2⟩, by simp [intOf]⟩
          | true =>
            have ba := bit_true hK hbt
            have e1 : lvB K G i 2 = lvB K G i 1 ++ [wOf G m] := by show wb K G (i + 1) = wb K G i ++ [wOf G m]; rw [wb_succ]; rw [em]; rw [if_pos hbt]
            have e2 : lvA K G i 2 = lvA K G i 1 := rfl
            have hask := ask (s := lvB K G i 1) (G := G) (k := m) (by omega) (fun x hx => wb_new K G i hlt x (by rw [em]; exact hx))
            rw [← e1] at hask
            rw [← e2] at D
            clear e1 e2 hbt
            cases hgt : G.testBit m with
            | true =>
              have bg := bit_true hG hgt
              have hs := hask.1 hgt
              clear hask hgt hlt em
              go_wp2_with fail
              refine (wr_drop D.rb _ _ _ hs).mono ?_
              rintro e y3 ⟨rfl, S3, C3, k3⟩
              have D := (D.swap.stepA C3 k3).swap
              have hp := hp.stepB hg2 k3
              have hg3 := Nat.lt_of_lt_of_le hg2 k3.1.size
              clear C3 k3 hs
              go_wp2
              first | exact ⟨⟨2, Sa, S3, by omega, by go_num, D, hp, hg3⟩, by simp [intOf]⟩ | (refine ⟨?rel2, ?meas2⟩; (case meas2 => (simp [intOf])); (case rel2 => ((repeat apply Exists.intro); exact ⟨⟨2, Sa, S3, by omega, by go_num, D, hp, hg3⟩, rfl⟩)))
            | false =>
              have bg := bit_false hG hgt
              have hs := hask.2 hgt
              have w100 : IntKind.i64.wrap ((m : Int) + 100) = (m : Int) + 100 := IntWalk.i64_in _ (by omega)
              clear hask hgt hlt em
              go_wp2_with fail
              refine (wr_put D.rb _ _ _ _ hs).mono ?_
              rintro e y3 ⟨rfl, S3, C3, k3⟩
              have D := (D.swap.stepA C3 k3).swap
              have hp := hp.stepB hg2 k3
              have hg3 := Nat.lt_of_lt_of_le hg2 k3.1.size
              clear C3 k3 hs
              go_wp2
              first | exact ⟨⟨2, Sa, S3, by omega, by go_num, D, hp, hg3⟩, by simp [intOf]⟩ | (refine ⟨?rel2, ?meas2⟩; (case meas2 => (simp [intOf])); (case rel2 => ((repeat apply Exists.intro); exact ⟨⟨2, Sa, S3, by omega, by go_num, D, hp, hg3⟩, rfl⟩)))
        · have e1 : lvA K G i 2 = wa K G (i + 1) := rfl
          have e2 : lvB K G i 2 = wb K G (i + 1) := rfl
          rw [e1, e2] at D
          clear e1 e2 em hlt
          cases hbt : K.testBit i with
          | true =>
            have ba := bit_true hK hbt
            have el : ((wa K G (i + 1)).length : Int) = ((wa K G i).length : Int) + 1 := by rw [wa_succ, if_pos hbt]; simp
            have EL := Lib.hid el
            have wn : IntKind.i64.wrap (((wa K G i).length : Int) + 1) = ((wa K G i).length : Int) + 1 := IntWalk.i64_in _ (by omega)
            have w1 : IntKind.i64.wrap 1 = 1 := by decide
            clear el hbt
            go_wp2
            first | exact ⟨⟨i + 1, Sa, Sb, by omega, by go_num, by rw [EL.out], D⟩, by simp [intOf]; omega⟩ | (refine ⟨?rel2, ?meas2⟩; (case meas2 => (simp [intOf]; omega)); (case rel2 => ((repeat apply Exists.intro); exact ⟨⟨i + 1, Sa, Sb, by omega, by go_num, by rw [EL.out], D⟩, rfl⟩)))
          | false =>
            have ba := bit_false hK hbt
            have el : (wa K G (i + 1)).length = (wa K G i).length := by rw [wa_succ, if_neg (by simp [hbt])]
            have EL := Lib.hid el
            have wn : IntKind.i64.wrap ((wa K G i).length : Int) = ((wa K G i).length : Int) := IntWalk.i64_in _ (by omega)
            have w1 : IntKind.i64.wrap 0 = 0 := by decide
            clear el hbt
            go_wp2
            first | exact ⟨⟨i + 1, Sa, Sb, by omega, by go_num, by rw [EL.out], D⟩, by simp [intOf]; omega⟩ | (refine ⟨?rel2, ?meas2⟩; (case meas2 => (simp [intOf]; omega)); (case rel2 => ((repeat apply Exists.intro); exact ⟨⟨i + 1, Sa, Sb, by omega, by go_num, by rw [EL.out], D⟩, rfl⟩)))
    · obtain rfl : i = 64 := by omega
      have hun := wa_unlike K G 64
      rw [wb_rev] at D
      obtain ⟨L, eL⟩ : ∃ L, wa K G 64 = L := ⟨_, rfl⟩
      rw [eL] at D hun wl
      have wn1 : IntKind.i64.wrap ((L.length : Int) - 1) = (L.length : Int) - 1 := IntWalk.i64_in _ (by omega)
      have kL := Keep.alloc (Keep.refl (fun _ => False) wr) (.cells #[.int .i64 0, .int .i64 1, .int .i64 31, .int .i64 2, .int .i64 63, .int .i64 3] 31)
      have D1 := D.quiet kL
      have LP : LiesP (wr.alloc (.cells #[.int .i64 0, .int .i64 1, .int .i64 31, .int .i64 2, .int .i64 63, .int .i64 3] 31)) (.slice (some ⟨wr.heap.size, 0, none⟩) 3 3) [⟨0, 1⟩, ⟨31, 2⟩, ⟨63, 3⟩] := by
        refine ⟨_, 3, rfl, Nat.le_refl _, fun e => (by cases e), fun _ => ⟨wr.heap.size, 0, rfl, by simp, fun j p hp => ?_⟩⟩
        match j, hp with
        | 0, hp => simp at hp; subst hp; simp
        | 1, hp => simp at hp; subst hp; simp
        | 2, hp => simp at hp; subst hp; simp
      have na : ¬ Sa wr.heap.size := fun x => by have := D.ra.lt _ x; omega
      have nb : ¬ Sb wr.heap.size := fun x => by have := D.rb.lt _ x; omega
      have gl : wr.heap.size < (wr.alloc (.cells #[.int .i64 0, .int .i64 1, .int .i64 31, .int .i64 2, .int .i64 63, .int .i64 3] 31)).heap.size := by simp
      have hrl : Rising [⟨0, 1⟩, ⟨31, 2⟩, ⟨63, 3⟩] := ⟨by simp, by simp, by simp, trivial⟩
      rw [eL]
      obtain ⟨g, eg⟩ : ∃ g, wr.heap.size = g := ⟨_, rfl⟩
      rw [eg] at LP na nb gl
      clear eL D kL wi hlt i64
      go_wp2_with fail
      refine (wr_all D1.ra).mono ?_
      rintro e y3 ⟨p, S3, rfl, op, dp, C3, k3⟩
      have LP := LP.keepAt k3.1 (fun b off c e => by cases e; exact na)
      have na : ¬ S3 g := fun x => by rcases k3.2 g x with y | y; exact na y; omega
      have gl := Nat.lt_of_lt_of_le gl k3.1.size
      have dpb : ∀ x, p.ownBlock = some x → ¬ Sb x := fun x hx h => by have := D1.rb.lt x h; have := (OwnW.lt op hx).1; omega
      have D2 := (D1.stepA C3 k3).swap
      clear D1 C3 k3
      go_wp2_with fail
      refine (wr_all D2.ra).mono ?_
      rintro e y4 ⟨q, S4, rfl, oq, dq, C4, k4⟩
      have LP := LP.keepAt k4.1 (fun b off c e => by cases e; exact nb)
      have nb : ¬ S4 g := fun x => by rcases k4.2 g x with y | y; exact nb y; omega
      have gl := Nat.lt_of_lt_of_le gl k4.1.size
      have plt : ∀ x, p.ownBlock = some x → x < y3.heap.size := fun x hx => (OwnW.lt op hx).2
      have op := OwnW.keep op k4.1 dpb
      have dpb : ∀ x, p.ownBlock = some x → ¬ S4 x := fun x hx h => by rcases k4.2 x h with y | y; exact dpb x hx y; have := plt x hx; omega
      have dqa : ∀ x, q.ownBlock = some x → ¬ S3 x := fun x hx h => by have := D2.rb.lt x h; have := (OwnW.lt oq hx).1; omega
      have D3 := (D2.stepA C4 k4).swap
      clear D2 C4 k4 plt
      obtain ⟨Ap, cp, rfl, hp0, hp1⟩ := OwnW.shape op
      obtain ⟨Aq, cq, rfl, hq0, hq1⟩ := OwnW.shape oq
      rw [List.length_reverse]
      go_wp2_with fail
      refine (wr_over D3.ra _ _ LP (by simp) 0 63).mono ?_
      rintro e y5 ⟨u1, r1, S5, rfl, o1, d1, ho, _, C5, k5⟩
      have i1 := ho hrl
      have LP := LP.keepAt k5.1 (fun b off c e => by cases e; exact na)
      have op := OwnW.keep op k5.1 dp
      have oq := OwnW.keep oq k5.1 dqa
      have d1b : ∀ x, u1.ownBlock = some x → ¬ S4 x := fun x hx h => by have := D3.rb.lt x h; have := (OwnP.lt o1 hx).1; omega
      have D4 := (D3.stepA C5 k5).swap
      clear D3 C5 k5 ho
      go_wp2_with fail
      refine (wr_over D4.ra _ _ LP (by simp) 0 63).mono ?_
      rintro e y6 ⟨u2, r2, S6, rfl, o2, d2, ho, _, C6, k6⟩
      obtain rfl : r2 = r1 := (ho hrl).eq i1 fun key => over_rev hun _ _ _ _
      have op := OwnW.keep op k6.1 dpb
      have oq := OwnW.keep oq k6.1 dq
      have o1 := OwnP.keep o1 k6.1 d1b
      have D5 := D4.stepA C6 k6
      have l1 := i1.len
      clear D4 C6 k6 ho LP dp dpb dq dqa d1 d2 d1b
      go_wp2_with fail
      refine (sameP_lies o1.lies o2.lies (by simp at l1; omega)).mono ?_
      rintro e y7 ⟨rfl, dd, rfl⟩
      have hbl := D5.below
      clear o1 o2 D5 i1 l1 na nb gl hrl
      go_wp2
      go_loopw [14] (fun iv wx => R3 y6 L.length iv wx) (fun iv _ => L.length - (intOf iv).toNat)
      case atStart => exact ⟨0, dd, Nat.zero_le _, rfl, rfl⟩
      case round =>
        obtain ⟨i, d, hi, rfl, rfl⟩ := hrel
        have wi : IntKind.i64.wrap ((i : Int) + 1) = (i : Int) + 1 := IntWalk.i64_in _ (by omega)
        by_cases hlt : i < L.length
        · cases Ap with
          | none => rw [hp0 rfl] at hlt; simp at hlt
          | some ap =>
            cases Aq with
            | none => have := congrArg List.length (hq0 rfl); simp at this; subst this; simp at hlt
            | some aq =>
              obtain ⟨gp, rfl⟩ := hp1 _ rfl
              obtain ⟨gq, rfl⟩ := hq1 _ rfl
              obtain ⟨x, hx⟩ : ∃ x, L[i]? = some x := ⟨_, List.getElem?_eq_getElem hlt⟩
              obtain ⟨m, em⟩ : ∃ m, L.length - 1 - i = m := ⟨_, rfl⟩
              have hy : L.reverse[m]? = some x := by rw [List.getElem?_reverse (by omega), show L.length - 1 - m = i by omega]; exact hx
              obtain ⟨p0, p1, p2⟩ := OwnW.cells op i x hx
              obtain ⟨q0, q1, q2⟩ := OwnW.cells oq m x hy
              have hm : m < L.length := by omega
              have w2 : IntKind.i64.wrap ((L.length : Int) - 1 - (i : Int)) = (m : Int) := (IntWalk.i64_in _ (by omega)).trans (by omega)
              obtain ⟨xk, xv, xg⟩ := x
              clear hx hy em op oq hp0 hp1 hq0 hq1
              go_wp2_with fail
              go_quiet (fail)
              go_wp2
              first | exact ⟨⟨i + 1, _, by omega, by go_num, rfl⟩, by simp [intOf]; omega⟩ | (refine ⟨?rel2, ?meas2⟩; (case meas2 => (simp [intOf]; omega)); (case rel2 => ((repeat apply Exists.intro); exact ⟨⟨i + 1, _, by omega, by go_num, rfl⟩, rfl⟩)))
        · obtain rfl : i = L.length := by omega
          clear op oq hp0 hp1 hq0 hq1
          go_wp2_with fail
          refine (awake14_any _).mono ?_
          rintro e y9 ⟨rfl, b9⟩
          go_wp2
          go_ret
          exact ⟨rfl, (hbl.trans ((drewN_keep (fun _ => False) y6 d).below hbl.size (by simp))).trans (b9.mono hbl.size)⟩
theorem own : ownKnob Try.prog.godebug = none := by kernel_rfl
theorem laidOut : laidOutB Try.prog = true := by kernel_rfl
set_option maxRecDepth 100000 in
theorem lifted (os : Os) (started : os.Started) (H : Type) (enc : TypeId × Value → H) :
    ReturnsInHanded {} Try.checked os 3 .any (Rows.writesOrderSpec.pre6 enc Try.prog Try.f3 Rows.writesOrderRow.domain false) (Rows.writesOrderSpec.post enc Try.prog Try.f3 false true false false) := by
  refine returnsInHanded_of_change (C := Try.checked) own started (by kernel_rfl) Try.func3
    (ChangeSpec.witness6 (enc := enc) (C := Try.checked) false ⟨#[], #[.int .u64 0, .int .u64 0], []⟩ 8 (by kernel_rfl) (by kernel_rfl) (by kernel_rfl) (by kernel_rfl)) ?_
  intro W base args ds gs before hval0 hW hcnd _
  have hval : ∀ (j : Nat) t v, Try.f3.params[j]? = some t → args[j]? = some v → Value.okWide Try.prog W .any base t v := hval0
  have hW' := hW
  obtain ⟨p, q, hA0, hV, rfl, hfz, hnd⟩ := hW
  have hA : DataW.TrodAll enc Try.prog W 0 (fun _ => true) true Try.f3.params.toList args.toList ds p := hA0
  rw [Try.params3] at hA hval
  obtain ⟨v0, vs0, d0, ds0, p0, q0, hargs, rfl, rfl, h0, r0⟩ := trodAll_cons hA
  obtain ⟨v1, vs1, d1, ds1, p1, q1, rfl, rfl, rfl, h1, r1⟩ := trodAll_cons r0
  obtain ⟨rfl, rfl, rfl⟩ := trodAll_nil r1
  obtain rfl : args = #[v0, v1] := by cases args; simp_all
  obtain ⟨rfl, rfl⟩ := trodVars_none hV
  obtain ⟨a0, rfl, rfl, rfl, w0⟩ := open_int Try.underlying22 (hval 0 22 v0 rfl rfl) h0
  obtain ⟨a1, rfl, rfl, rfl, w1⟩ := open_int Try.underlying22 (hval 1 22 v1 rfl rfl) h1
  clear hA0 hval0
  refine (walk a0 a1 W w0 w1).mono fun e W' ⟨he, bel⟩ => ?_
  subst he
  exact ⟨_, rfl, _, _, _, [], _, [], hW', trodAll_mk1 (shut_bool Try.underlying4 _), (trodAll_cons_mk (shut_int Try.underlying22 w0) (trodAll_cons_mk (shut_int Try.underlying22 w1) trodAll_mk0)), rfl, bel.frame _, fun h => by cases h⟩
theorem over : Rows.writesOrderRow.holds Try.pinned (OpenSpec.ofChange Rows.writesOrderSpec) :=
  OpenClaim.holds_of_wide 3 Try.f3 rfl rfl rfl rfl rfl rfl rfl ⟨rfl, rfl, rfl, rfl, rfl⟩ rfl rfl rfl rfl rfl (by kernel_rfl) Try.func3 (by kernel_rfl)
    (of_decide_eq_true (by kernel_rfl)) (by unfold Func.isWrapper; first | (rw [if_pos (by decide +kernel)]; kernel_rfl) | (rw [if_neg (by decide +kernel)]; exact ⟨rfl, rfl⟩))
    (fun os started H enc _ => lifted os started H enc)
theorem proved : Rows.WritesOrderSaid := over
end Go.Proofs.Ythojmdjcfkadoaa.writesOrder
