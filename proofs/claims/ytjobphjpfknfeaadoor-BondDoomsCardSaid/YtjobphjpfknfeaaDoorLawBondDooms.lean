/- Proved here: the tied card of vinculumlaw16.BondDooms: it returns true and leaves its arguments as they were, for any two ints and any two slices of ints; the table of math/bits is the program's own. -/
import Derived.Test.YtjobphjpfknfeaaDoorBdW
import Derived.Test.YtjobphjpfknfeaaDoorPushN
import Derived.Deep.LoopGhost
import Derived.Deep.CutRange
import Derived.Deep.CutBlock
import Derived.BigQuiet
namespace Go.Proofs.YtjobphjpfknfeaaDoor.bondDooms
open Go.ChangeShapes Go.WideShapes Go.ChangeAt Go.RowKit
set_option linter.unusedVariables false
open Classical

def Rel (W : World) (p N k : Nat) (iv : Value) (wr : World) : Prop := ∃ S, k ≤ N ∧ iv = .int .i64 ((k : Int) + 1) ∧ Bd W wr p S (upTo k (chF 0) (chE 0))
/-- In the midst of binding. -/
def Mid (W : World) (p N B : Nat) (wr : World) : Prop := ∃ S E, Less N E ∧ Bd W wr p S (upTo N (chF 0) E) ∧ Need wr B E ∧ ¬ S B ∧ W.heap.size ≤ B
def Rel2 (W : World) (p N B k : Nat) (iv : Value) (wr : World) : Prop := k ≤ 100 ∧ iv = .int .i64 k ∧ Mid W p N B wr
def HitP (E : List (Int × Int)) (N b : Nat) (x : Int) : Prop := (b : Int) < x ∧ Hit E N b x
/-- In the midst of the outer look. -/
def Rel3 (W : World) (p N b B1 B2 B0 : Nat) (S : Nat → Prop) (E : List (Int × Int)) (m : Nat) (u iv : Value) (wr : World) : Prop :=
  b ≤ m ∧ m ≤ N ∧ iv = .int .i64 ((m : Int) + 1) ∧ Bd W wr p S (upTo N (chF 0) E) ∧ Need wr B1 E ∧ BitsN 32 wr B2 (fun j => yes (j ≤ m ∧ Hit E N b j)) ∧ OwnN B0 wr u (among (HitP E N b) m)
/-- What the inner look has found of m + 1. -/
def Found (E : List (Int × Int)) (N b m t : Nat) : Prop := ∃ c : Nat, 1 ≤ c ∧ c ≤ t ∧ (((m : Int) + 1), (c : Int)) ∈ E ∧ Hit E N b c
noncomputable def fnd (E : List (Int × Int)) (N b m t j : Nat) : Bool := if j = m + 1 then yes (Found E N b m t) else yes (j ≤ m ∧ Hit E N b j)
def Rel4 (W : World) (p N b B1 B2 B0 : Nat) (S : Nat → Prop) (E : List (Int × Int)) (m t : Nat) (u iv : Value) (wr : World) : Prop :=
  t ≤ m ∧ iv = .int .i64 ((t : Int) + 1) ∧ Bd W wr p S (upTo N (chF 0) E) ∧ Need wr B1 E ∧ BitsN 32 wr B2 (fnd E N b m t) ∧ OwnN B0 wr u (among (HitP E N b) m)
section
variable {E : List (Int × Int)} {N b m t j : Nat}
theorem start4 (ls : Less N E) (hb : b ≤ m) : fnd E N b m 0 j = yes (j ≤ m ∧ Hit E N b j) := by
  unfold fnd
  by_cases e : j = m + 1
  · subst e
    rw [if_pos rfl, yes_not (fun q => by obtain ⟨c, c1, c2, _⟩ := q; omega), yes_not (fun q => by omega)]
  · rw [if_neg e]
theorem found_next : Found E N b m (t + 1) ↔ Found E N b m t ∨ ((((m : Int) + 1), ((t + 1 : Nat) : Int)) ∈ E ∧ Hit E N b ((t + 1 : Nat) : Int)) := by
  constructor
  · rintro ⟨c, c1, c2, c3, c4⟩
    by_cases e : c = t + 1
    · subst e; exact .inr ⟨c3, c4⟩
    · exact .inl ⟨c, c1, by omega, c3, c4⟩
  · rintro (⟨c, c1, c2, c3, c4⟩ | ⟨c3, c4⟩)
    · exact ⟨c, c1, by omega, c3, c4⟩
    · exact ⟨t + 1, by omega, by omega, c3, c4⟩
theorem found_all (ls : Less N E) (hb : b ≤ m) : Found E N b m m ↔ Hit E N b ((m : Int) + 1) := by
  rw [hit_next ls (by omega)]
  constructor
  · rintro ⟨c, c1, c2, c3, c4⟩
    exact ⟨c, c3, c4⟩
  · rintro ⟨c, c3, c4⟩
    have := ls _ c3
    exact ⟨c.toNat, by omega, by omega, by rw [Int.toNat_of_nonneg (by omega)]; exact c3, by rw [Int.toNat_of_nonneg (by omega)]; exact c4⟩
theorem end4 (ls : Less N E) (hb : b ≤ m) : yes (j ≤ m + 1 ∧ Hit E N b j) = fnd E N b m m j := by
  unfold fnd
  by_cases e : j = m + 1
  · subst e
    rw [if_pos rfl]
    exact yes_congr ((and_iff_right (Nat.le_refl _)).trans (found_all ls hb).symm)
  · rw [if_neg e]
    exact yes_congr ⟨fun q => ⟨by omega, q.2⟩, fun q => ⟨by omega, q.2⟩⟩
theorem val4 (h : t + 1 ≤ m) : yes (Found E N b m (t + 1)) = (yes (Found E N b m t) || (yes ((((m : Int) + 1), ((t + 1 : Nat) : Int)) ∈ E) && yes (t + 1 ≤ m ∧ Hit E N b ((t + 1 : Nat) : Int)))) := by
  rw [Bool.eq_iff_iff, Bool.or_eq_true, Bool.and_eq_true, yes_iff, yes_iff, yes_iff, yes_iff, found_next]
  exact ⟨fun q => q.imp_right fun q => ⟨q.1, h, q.2⟩, fun q => q.imp_right fun q => ⟨q.1, q.2.2⟩⟩
theorem set4 (x : Bool) (hx : x = yes (Found E N b m (t + 1))) : fnd E N b m (t + 1) j = if j = m + 1 then x else fnd E N b m t j := by
  unfold fnd
  by_cases e : j = m + 1
  · rw [if_pos e, if_pos e, hx]
  · rw [if_neg e, if_neg e, if_neg e]
end
theorem among_len {P : Int → Prop} {n : Nat} : (among P n).length ≤ n := by
  unfold among
  refine Nat.le_trans (List.length_filter_le _ _) ?_
  simp
def Rel5 (W : World) (p N b B2 : Nat) (S : Nat → Prop) (E : List (Int × Int)) (n : Nat) (iv : Value) (wr : World) : Prop :=
  n ≤ N ∧ iv = .int .i64 ((n : Int) + 1) ∧ Bd W wr p S (upTo N (fun x => if x = b then 4 else if Hit E N b x then 2 else 1) E) ∧ BitsN 32 wr B2 (fun j => yes (j ≤ N ∧ Hit E N b j))
theorem z28 : Tryd.zeroCells28 = Array.replicate 1024 (.bool false) := by kernel_rfl
theorem open_up {n : Nat} (h : n < 2000) : (upTo n (chF 0) (chE 0)).open ((n : Int) + 1) = (0, upTo (n + 1) (chF 0) (chE 0)) := upTo_open h (by unfold chF; rw [if_neg (by omega)])
set_option maxRecDepth 100000 in
set_option maxHeartbeats 8000000 in
theorem walk (a0 : Int) (a1 : Option Addr) (len1 cap1 : Nat) (z1 : List Int) (a2 : Option Addr) (len2 cap2 : Nat) (z2 : List Int) (a3 : Int) (w : World) (hw0 : (Lit.int .i64 a0).wf = true) (hw1 : IsRow .i64 w a1 len1 cap1 z1) (hw2 : IsRow .i64 w a2 len2 cap2 z2) (hw3 : (Lit.int .i64 a3).wf = true) (hTab : TabW w) : Calls Tryd.prog 4 #[.int .i64 a0, .slice a1 len1 cap1, .slice a2 len2 cap2, .int .i64 a3] w fun e w' => e = .returned (.bool true) ∧ Below w.heap.size w w' := by
  clear hw0 hw3
  obtain ⟨q0, m0, h0, e0, f0, l0, -, -, w0, -, w02⟩ := mask_mod a0 29 (by decide)
  have e0 : q0.tmod 29 = (m0 : Int) := e0
  have f0 : q0 % 29 = (m0 : Int) := f0
  obtain ⟨N, eN⟩ : ∃ N, m0 + 2 = N := ⟨_, rfl⟩
  rw [eN] at w02
  obtain ⟨q3, m3, h3, e3, f3, l3, -, -, w3, w31, -⟩ := mask_mod a3 N (by omega)
  obtain ⟨b, eb⟩ : ∃ b, m3 + 1 = b := ⟨_, rfl⟩
  rw [eb] at w31
  have n0 : ¬ (N : Int) = 0 := by omega
  have rb : 1 ≤ b ∧ b ≤ N := by omega
  have N30 : N ≤ 30 ∧ 2 ≤ N := by omega
  clear eb eN l0 l3
  go_enter Tryd.func4, Tryd.ntmps4
  go_wp2_with fail
  refine (bd_new hTab (Below.refl _ w)).mono ?_
  rintro e x1 ⟨p, S1, rfl, D, _, _⟩
  have D : Bd w x1 p S1 (upTo 0 (chF 0) (chE 0)) := D
  go_wp2
  go_loopg [10] N (fun mm i wr => ∃ k : Nat, mm + k = N ∧ Rel w p N k i wr)
  case atStart => exact ⟨0, by omega, S1, by omega, rfl, D⟩
  case round =>
    obtain ⟨k, hgk, S, kN, rfl, B⟩ := hrel
    clear D
    by_cases hlt : k < N
    · have wk : IntKind.i64.wrap ((k : Int) + 1 + 1) = (k : Int) + 1 + 1 := IntWalk.i64_in _ (by omega)
      go_wp2_with fail
      refine (bd_open B (id := (k : Int) + 1) (by unfold I64; omega) (open_up (by omega))).mono ?_
      clear B
      rintro e x2 ⟨rfl, S2, D, _⟩
      go_wp2_with fail
      go_roundg (N - (k + 1))
      case measure => omega
      case rel => exact ⟨k + 1, by omega, S2, by omega, rfl, D⟩
    · obtain rfl : k = N := by omega
      clear kN hgk hlt
      go_upto_block 2 with fail
      have nd := need_new wr 28
      rw [← z28] at nd
      have kA := (Keep.refl (fun _ => False) wr).alloc (.cells Tryd.zeroCells28 28)
      have sB : ¬ S wr.heap.size := fun h => by have := B.lt _ h; omega
      have gB := B.below.size
      have B := B.later kA
      obtain ⟨x2, ex2⟩ : ∃ x2, wr.alloc (.cells Tryd.zeroCells28 28) = x2 := ⟨_, rfl⟩
      obtain ⟨B1, eB1⟩ : ∃ B1, wr.heap.size = B1 := ⟨_, rfl⟩
      rw [ex2] at nd B ⊢
      rw [eB1] at nd sB gB ⊢
      clear ex2 eB1 kA
      go_cut [12, 13, 14] from 44 to 87 (fun i x y wx => Mid w p k B1 wx)
      case first =>
        go_wp2
        go_loopg [12, 13, 14] 100 (fun mm i x y wr => ∃ j : Nat, mm + j = 100 ∧ Rel2 w p k B1 j i wr)
        case atStart => exact ⟨0, by omega, by omega, rfl, S, chE 0, (fun p hp => by cases hp), B, nd, sB, gB⟩
        case round =>
          clear B nd sB gB
          obtain ⟨j, hgj, hj, rfl, S, E, ls, B, nd, sB, gB⟩ := hrel
          by_cases c1 : j < len1
          · by_cases c2 : j < len2
            · by_cases c3 : j < 100
              · have wj : IntKind.i64.wrap ((j : Int) + 1) = (j : Int) + 1 := IntWalk.i64_in _ (by omega)
                obtain ⟨g1, o1, rfl, -, hd1⟩ := (hw1.on B.below).cell (by omega)
                obtain ⟨g2, o2, rfl, -, hd2⟩ := (hw2.on B.below).cell (by omega)
                have hc1 := hd1 j c1
                have hc2 := hd2 j c2
                clear hd1 hd2
                obtain ⟨v1, ev1⟩ : ∃ v, z1.getD j 0 = v := ⟨_, rfl⟩
                obtain ⟨v2, ev2⟩ : ∃ v, z2.getD j 0 = v := ⟨_, rfl⟩
                rw [ev1] at hc1
                rw [ev2] at hc2
                obtain ⟨q5, m5, h5, e5, f5, l5, -, -, w5, w51, -⟩ := mask_mod v1 k (by omega)
                obtain ⟨q6, m6, h6, e6, f6, l6, -, -, w6, w61, -⟩ := mask_mod v2 k (by omega)
                obtain ⟨X, eX⟩ : ∃ X, m5 + 1 = X := ⟨_, rfl⟩
                obtain ⟨Y, eY⟩ : ∃ Y, m6 + 1 = Y := ⟨_, rfl⟩
                rw [eX] at w51
                rw [eY] at w61
                have rX : 1 ≤ X ∧ X ≤ k := by omega
                have rY : 1 ≤ Y ∧ Y ≤ k := by omega
                clear eX eY l5 l6 ev1 ev2
                go_wp2_with fail
                go_quiet (fail)
                have B := B.later (drewN_keep _ _ nq)
                have nd : Need (wr.drewN nq) B1 E := BitsN.keep nd (drewN_keep (fun _ => False) _ nq) (fun q => q)
                obtain ⟨x5, ex5⟩ : ∃ x5, wr.drewN nq = x5 := ⟨_, rfl⟩
                rw [ex5] at B nd ⊢
                clear hc1 hc2 ex5
                by_cases hxy : X ≤ Y
                · go_wp2_with fail
                  go_roundg (100 - (j + 1))
                  case measure => omega
                  case rel => exact ⟨j + 1, by omega, by omega, by go_num, S, E, ls, B, nd, sB, gB⟩
                · obtain ⟨E2, hs, ls2, hE⟩ := less_bind ls (a := X) (b := Y) (by omega) (by omega) (by omega)
                  go_wp2_with fail
                  refine (bd_bind_in B (id := X) (tt := Y) (by unfold I64; omega) (by unfold I64; omega) hs).mono ?_
                  rintro e x6 ⟨rfl, B6, k6⟩
                  have nd6 : Need x6 B1 E := BitsN.keep nd k6 sB
                  have hc := nd6.cell (x := X) (y := Y) (by omega) (by omega)
                  have fr := BitsN.free nd6 (X * 32 + Y)
                  have iX : X < 32 := by omega
                  have iY : Y < 32 := by omega
                  clear B nd k6 hs
                  go_wp2_with fail
                  have nd7 := nd6.set iX iY hE
                  have B7 := B6.keep (keep_set x6 B1 (X * 32 + Y) (.bool true)) (fun g hg e => sB (e ▸ hg)) (fun g e => e ▸ gB)
                  go_roundg (100 - (j + 1))
                  case measure => omega
                  case rel => exact ⟨j + 1, by omega, by omega, by go_num, S, E2, ls2, B7, nd7, sB, gB⟩
              · have M : Mid w p k B1 wr := ⟨S, E, ls, B, nd, sB, gB⟩; clear hw1 hw2 ls B nd sB gB; go_wp2_with fail; go_meet; exact M
            · have M : Mid w p k B1 wr := ⟨S, E, ls, B, nd, sB, gB⟩; clear hw1 hw2 ls B nd sB gB; go_wp2_with fail; go_meet; exact M
          · have M : Mid w p k B1 wr := ⟨S, E, ls, B, nd, sB, gB⟩; clear hw1 hw2 ls B nd sB gB; go_wp2_with fail; go_meet; exact M
      case rest =>
        clear B nd sB gB
        obtain ⟨S, E, ls, B, nd, sB, gB⟩ := hcut
        clear hw1 hw2
        have ih : b < 32 := by omega
        go_upto_region 21 with fail
        obtain ⟨B2, eB2⟩ : ∃ B2, wc.heap.size = B2 := ⟨_, rfl⟩
        have ht := bitsN_new 32 wc 27 (g := fun _ => false) (fun _ _ => rfl)
        have kA := (Keep.refl (fun _ => False) wc).alloc (.cells (Array.replicate 32 (.bool false)) 27)
        generalize hW : wc.alloc (.cells _ _) = x8
        have hW' : wc.alloc (.cells (Array.replicate 32 (.bool false)) 27) = x8 := hW
        rw [hW'] at ht kA
        have sB2 : ∀ g, S g → g < B2 := fun g hg => eB2 ▸ B.lt g hg
        have lB := nd.lt
        have g2 := B.below.size
        rw [eB2] at ht lB g2 ⊢
        have B := B.later kA
        have nd : Need x8 B1 E := BitsN.keep nd kA (fun q => q)
        clear hW hW' kA eB2
        have hc := ht.cell b ih
        have fr := ht.free b
        go_upto_block 4 with fail
        have ht : BitsN 32 (x8.setCell ⟨B2, b, none⟩ (.bool true)) B2 (fun j => yes (j ≤ b ∧ Hit E k b j)) := ht.set b ih true fun j hj => by
          by_cases e : j = b
          · subst e; rw [if_pos rfl]; exact yes_of ⟨Nat.le_refl _, .inl rfl⟩
          · rw [if_neg e]; exact yes_not fun q => hit_low ls (by omega) q.2
        have kS := keep_set x8 B2 b (.bool true)
        have B := B.keep kS (fun g hg e => by have := sB2 g hg; omega) (fun g e => e ▸ g2)
        have nd : Need _ B1 E := BitsN.keep nd kS (fun q => by have q : B1 = B2 := q; omega)
        obtain ⟨x9, ex9⟩ : ∃ x9, x8.setCell ⟨B2, b, none⟩ (.bool true) = x9 := ⟨_, rfl⟩
        rw [ex9] at ht B nd ⊢
        clear kS hc fr ex9
        have h0 : among (HitP E k b) b = [] := by
          rw [List.eq_nil_iff_forall_not_mem]
          intro x hx
          have := mem_among.1 hx
          have h2 := this.2.2.1
          omega
        go_wp2
        go_loopg [16, 17, 18] (k - b) (fun mm u i kk wr => ∃ m : Nat, mm + m = k ∧ Rel3 w p k b B1 B2 (B2 + 1) S E m u i wr)
        case atStart => exact ⟨b, by omega, by omega, by omega, by go_num, B, nd, ht, by rw [h0]; exact World.ownsRow_nil _ _ _ _⟩
        case round =>
          clear B nd ht h0
          obtain ⟨m, hgm, bm, mk, rfl, B, nd, ht, ow⟩ := hrel
          by_cases hlt : m < k
          · have wm : IntKind.i64.wrap ((m : Int) + 1 + 1) = (m : Int) + 1 + 1 := IntWalk.i64_in _ (by omega)
            obtain ⟨i, ei⟩ : ∃ i, m + 1 = i := ⟨_, rfl⟩
            have ei2 : (m : Int) + 1 = (i : Int) := by omega
            have i31 : i < 32 := by omega
            rw [ei2] at wm ⊢
            go_wp2
            go_loopg [18] m (fun mm kk wr => ∃ t : Nat, mm + t = m ∧ Rel4 w p k b B1 B2 (B2 + 1) S E m t u16 kk wr)
            case atStart => exact ⟨0, by omega, by omega, rfl, B, nd, ht.as fun j hj => start4 ls bm, ow⟩
            case round =>
              clear B nd ht ow
              obtain ⟨t, hgt, tm, rfl, B, nd, ht, ow⟩ := hrel
              by_cases hlt : t < m
              · obtain ⟨s, es⟩ : ∃ s, t + 1 = s := ⟨_, rfl⟩
                have es2 : (t : Int) + 1 = (s : Int) := by omega
                have s31 : s < 32 := by omega
                have ws : IntKind.i64.wrap ((s : Int) + 1) = (s : Int) + 1 := IntWalk.i64_in _ (by omega)
                have c1 := ht.cell i i31
                have c2 := nd.cell i31 s31
                have c3 := ht.cell s s31
                have fr := ht.free i
                have v4 := val4 (E := E) (N := k) (b := b) (m := m) (t := t) (by omega)
                rw [show fnd E k b m t i = yes (Found E k b m t) from by unfold fnd; rw [if_pos ei.symm]] at c1
                rw [show fnd E k b m t s = yes (s ≤ m ∧ Hit E k b s) from by unfold fnd; rw [if_neg (by omega)]] at c3
                rw [ei2, es] at v4
                obtain ⟨b1, e1⟩ : ∃ x, yes (Found E k b m t) = x := ⟨_, rfl⟩
                obtain ⟨b2, e2⟩ : ∃ x, yes (((i : Int), (s : Int)) ∈ E) = x := ⟨_, rfl⟩
                obtain ⟨b3, e3⟩ : ∃ x, yes (s ≤ m ∧ Hit E k b s) = x := ⟨_, rfl⟩
                rw [e1, e2, e3] at v4
                rw [e1] at c1
                rw [e2] at c2
                rw [e3] at c3
                have st : ∀ x : Bool, (b1 || (b2 && b3)) = x → Rel4 w p k b B1 B2 (B2 + 1) S E m s u16 (.int .i64 ((s : Int) + 1)) (wr.setCell ⟨B2, i, none⟩ (.bool x)) := fun x hx => by
                  have kS := keep_set wr B2 i (.bool x)
                  refine ⟨by omega, rfl, B.keep kS (fun g hg e => by have := sB2 g hg; omega) (fun g e => e ▸ g2), BitsN.keep nd kS (fun q => by have q : B1 = B2 := q; omega), ht.set i i31 x fun j hj => ?_, OwnN.keep ow kS fun g hg e => by have := OwnN.lt ow hg; omega⟩
                  rw [← ei, ← es]
                  exact set4 x (by rw [es, v4, hx])
                have lsi : (s : Int) < (i : Int) := by omega
                have ES := Lib.hid es
                rw [es2]
                clear B nd ht ow v4 e1 e2 e3 es2 es
                cases b1
                · cases b2
                  · have R := st false rfl
                    clear st; go_wp2_with fail; have es := ES.out; go_roundg (m - s); (case measure => omega); exact ⟨s, by omega, R⟩
                  · have R := st b3 (by simp)
                    clear st; go_wp2_with fail; have es := ES.out; go_roundg (m - s); (case measure => omega); exact ⟨s, by omega, R⟩
                · have R := st true rfl
                  clear st; go_wp2_with fail; have es := ES.out; go_roundg (m - s); (case measure => omega); exact ⟨s, by omega, R⟩
              · obtain rfl : t = m := by omega
                have ht : BitsN 32 wr B2 (fun j => yes (j ≤ t + 1 ∧ Hit E k b j)) := ht.as fun j hj => end4 ls bm
                have ci := ht.cell i i31
                have fr := ht.free i
                obtain ⟨zs, ez⟩ : ∃ zs, among (HitP E k b) t = zs := ⟨_, rfl⟩
                have zl : zs.length ≤ t := by rw [← ez]; exact among_len
                have nx := among_succ (P := HitP E k b) (n := t)
                rw [ez, ei2] at nx
                rw [ez] at ow
                rw [ei] at ht nx
                have lB1 : B2 + 1 ≤ wr.heap.size := ht.lt
                by_cases hh : Hit E k b i
                · rw [if_pos (show HitP E k b (i : Int) from ⟨by omega, hh⟩)] at nx
                  rw [yes_of (by rw [ei]; exact ⟨Nat.le_refl _, hh⟩)] at ci
                  have HH := Lib.hid hh
                  have NX := Lib.hid nx
                  clear nx hh ez
                  go_wp2_with (with_reducible refine wp_stop 125 rfl ?_)
                  intro _
                  refine wp_pushN rfl (.tmp 122) (.tmp 124) rfl (B2 + 1) lB1 u16 zs rfl ow (i : Int) rfl (by omega) ?_
                  intro g9 c9 y9 o9 k9 _
                  have o9 : OwnN (B2 + 1) y9 (.slice (some ⟨g9, 0, none⟩) (zs.length + 1) c9) (among (HitP E k b) i) := by rw [NX.out]; exact o9
                  have B := B.keep k9 (fun g hg e => by have := sB2 g hg; have := (OwnN.lt ow e).1; omega) (fun g e => by have := (OwnN.lt ow e).1; omega)
                  have nd : Need y9 B1 E := BitsN.keep nd k9 (fun e => by have := (OwnN.lt ow e).1; omega)
                  have ht := ht.keep k9 (fun e => by have := (OwnN.lt ow e).1; omega)
                  clear ow k9 ci fr
                  go_wp2
                  go_roundg (k - i)
                  case measure => omega
                  case rel => exact ⟨i, by omega, by omega, by omega, rfl, B, nd, ht, o9⟩
                · rw [if_neg (fun q : HitP E k b (i : Int) => hh q.2), List.append_nil] at nx
                  rw [yes_not (fun q => hh q.2)] at ci
                  rw [← nx] at ow
                  clear nx hh ez
                  go_wp2
                  go_roundg (k - i)
                  case measure => omega
                  case rel => exact ⟨i, by omega, by omega, by omega, rfl, B, nd, ht, ow⟩
          · obtain rfl : m = k := by omega
            have hs := less_bad ls (a := b) (by omega) (by omega)
            have zl : (among (HitP E m b) m).length ≤ 100000 := Nat.le_trans among_len (by omega)
            go_wp2_with fail
            refine (bd_bad_in B (id := b) (by unfold I64; omega) hs).mono ?_
            rintro e y1 ⟨u1, rfl, o1, B9, k9⟩
            have ht := ht.keep k9 (fun e => by have := sB2 _ e; omega)
            have ow := OwnN.keep ow k9 (fun g hg e => by have := sB2 g e; have := (OwnN.lt ow hg).1; omega)
            have sm := sameN_own o1 ow zl
            clear B nd hs k9 o1 ow
            go_wp2_with fail
            refine sm.mono ?_
            rintro e y2 ⟨rfl, d, rfl⟩
            have B := B9.later (drewN_keep _ _ d)
            have ht := ht.keep (drewN_keep (fun _ => False) _ d) (fun q => q)
            obtain ⟨y3, e3⟩ : ∃ y3, y1.drewN d = y3 := ⟨_, rfl⟩
            rw [e3] at B ht ⊢
            clear sm B9 e3
            go_wp2_with fail
            go_loopg [21, 22] m (fun mm iv sv wr => ∃ n : Nat, mm + n = m ∧ Rel5 w p m b B2 S E n iv wr)
            case atStart => exact ⟨0, by omega, by omega, rfl, B, ht⟩
            case round =>
              clear B ht
              obtain ⟨n, hgn, nm, rfl, B, ht⟩ := hrel
              by_cases hlt : n < m
              · obtain ⟨s, es⟩ : ∃ s, n + 1 = s := ⟨_, rfl⟩
                have es2 : (n : Int) + 1 = (s : Int) := by omega
                have s31 : s < 32 := by omega
                have ws : IntKind.i64.wrap ((s : Int) + 1) = (s : Int) + 1 := IntWalk.i64_in _ (by omega)
                have ls1 : (s : Int) ≤ (m : Int) := by omega
                have ci := ht.cell s s31
                have sx := bd_state B (id := s) (by unfold I64; omega)
                rw [st_in (by omega) (by omega)] at sx
                rw [es2]
                by_cases hb : s = b
                · subst hb
                  rw [if_pos rfl] at sx
                  clear ci
                  have B := Lib.hid B; go_wp2_with fail; refine sx.mono ?_; rintro e y9 ⟨rfl, rfl⟩; clear sx; go_wp2_with fail; go_roundg (m - s); (case measure => omega); exact ⟨s, by omega, by omega, rfl, B.out, ht⟩
                · have hb1 : ((s : Int) == (b : Int)) = false := by simp; omega
                  rw [if_neg (by omega)] at sx
                  by_cases hh : Hit E m b s
                  · rw [if_pos hh] at sx
                    rw [yes_of ⟨by omega, hh⟩] at ci
                    clear hh
                    have B := Lib.hid B; go_wp2_with fail; refine sx.mono ?_; rintro e y9 ⟨rfl, rfl⟩; clear sx; go_wp2_with fail; go_roundg (m - s); (case measure => omega); exact ⟨s, by omega, by omega, rfl, B.out, ht⟩
                  · rw [if_neg hh] at sx
                    rw [yes_not (fun q => hh q.2)] at ci
                    clear hh
                    have B := Lib.hid B; go_wp2_with fail; refine sx.mono ?_; rintro e y9 ⟨rfl, rfl⟩; clear sx; go_wp2_with fail; go_roundg (m - s); (case measure => omega); exact ⟨s, by omega, by omega, rfl, B.out, ht⟩
              · obtain rfl : n = m := by omega
                have bl := B.below
                have aw := awake16_any (hTab.on bl)
                have BL := Lib.hid bl
                clear B bl
                go_wp2_with fail
                refine aw.mono ?_
                rintro e wz ⟨rfl, bz⟩
                have BZ := Lib.hid (BL.out.trans (bz.mono BL.out.size))
                clear aw bz
                go_wp2
                go_ret
                exact ⟨rfl, BZ.out⟩
theorem own : ownKnob Tryd.prog.godebug = none := by kernel_rfl
theorem laidOut : laidOutB Tryd.prog = true := by kernel_rfl
set_option maxRecDepth 100000 in
theorem lifted (os : Os) (started : os.Started) (H : Type) (enc : TypeId × Value → H) :
    ReturnsInHanded {} Tryd.checked os 4 .any (fun w args => (Rows.bondDoomsSpec.pre enc Tryd.prog Tryd.f4 [] false w args ∧ laidMetH Tryd.prog lay1 w) ∧ sizedMet enc Tryd.prog Tryd.f4 (OpenSpec.ofChange Rows.bondDoomsSpec) false w args) (Rows.bondDoomsSpec.post enc Tryd.prog Tryd.f4 false true false false) := by
  refine returnsInHanded_of_change_and (C := Tryd.checked) (X := fun w _ => laidMetH Tryd.prog lay1 w) (fun _ _ _ hh h => h.of_heap hh) own started (by kernel_rfl) Tryd.func4
    (ChangeSpec.witness_shaped (enc := enc) (C := Tryd.checked) (os := os) (X := fun w _ => laidMetH Tryd.prog lay1 w) false (World.doorLaid Tryd.prog 14 os) #[.int .i64 0, .slice none 0 0, .slice none 0 0, .int .i64 0] 8 rfl (World.shaped_of_RefB (by kernel_rfl) (by kernel_rfl)) (by kernel_rfl) (by kernel_rfl) (by kernel_rfl) (door_met os _)) ?_
  intro W base args ds gs before hval0 hW _ _ hL _
  have hTab := of_laid hL
  have hval : ∀ (j : Nat) t v, Tryd.f4.params[j]? = some t → args[j]? = some v → Value.okWide Tryd.prog W .any base t v := hval0
  have hW' := hW
  obtain ⟨p, q, hA0, hV, rfl, hfz, hnd⟩ := hW
  have hA : DataW.TrodAll enc Tryd.prog W 0 (fun _ => true) true Tryd.f4.params.toList args.toList ds p := hA0
  rw [Tryd.params4] at hA hval
  obtain ⟨v0, vs0, d0, ds0, p0, q0, hargs, rfl, rfl, h0, r0⟩ := trodAll_cons hA
  obtain ⟨v1, vs1, d1, ds1, p1, q1, rfl, rfl, rfl, h1, r1⟩ := trodAll_cons r0
  obtain ⟨v2, vs2, d2, ds2, p2, q2, rfl, rfl, rfl, h2, r2⟩ := trodAll_cons r1
  obtain ⟨v3, vs3, d3, ds3, p3, q3, rfl, rfl, rfl, h3, r3⟩ := trodAll_cons r2
  obtain ⟨rfl, rfl, rfl⟩ := trodAll_nil r3
  obtain rfl : args = #[v0, v1, v2, v3] := by cases args; simp_all
  obtain ⟨rfl, rfl⟩ := trodVars_none hV
  obtain ⟨a0, rfl, rfl, rfl, w0⟩ := open_int Tryd.underlying3 (hval 0 3 v0 rfl rfl) h0
  obtain ⟨a1, len1, cap1, rfl⟩ := okWide_slice Tryd.underlying22 (hval 1 22 v1 rfl rfl)
  have k1 := h1
  have lt1 : ∀ x ∈ p1, x.block < W.heap.size := by obtain ⟨m, hm⟩ := k1; exact DataW.trod_lt m _ _ _ hm
  obtain ⟨z1, w1⟩ : ∃ zs, IsRow .i64 W a1 len1 cap1 zs := is_row Tryd.underlying22 Tryd.underlying3 (by kernel_rfl) h1
  obtain ⟨a2, len2, cap2, rfl⟩ := okWide_slice Tryd.underlying22 (hval 2 22 v2 rfl rfl)
  have k2 := h2
  have lt2 : ∀ x ∈ p2, x.block < W.heap.size := by obtain ⟨m, hm⟩ := k2; exact DataW.trod_lt m _ _ _ hm
  obtain ⟨z2, w2⟩ : ∃ zs, IsRow .i64 W a2 len2 cap2 zs := is_row Tryd.underlying22 Tryd.underlying3 (by kernel_rfl) h2
  obtain ⟨a3, rfl, rfl, rfl, w3⟩ := open_int Tryd.underlying3 (hval 3 3 v3 rfl rfl) h3
  clear hA0 hval0
  refine (walk a0 a1 len1 cap1 z1 a2 len2 cap2 z2 a3 W w0 w1 w2 w3 hTab).mono fun e W' ⟨he, bel⟩ => ?_
  subst he
  exact ⟨_, rfl, _, _, _, [], _, [], hW', trodAll_mk1 (shut_bool Tryd.underlying4 _), (trodAll_cons_mk (shut_int Tryd.underlying3 w0) (trodAll_cons_mk (Below.trod laidOut (by kernel_rfl) (of_decide_eq_true (by kernel_rfl)) k1 bel lt1) (trodAll_cons_mk (Below.trod laidOut (by kernel_rfl) (of_decide_eq_true (by kernel_rfl)) k2 bel lt2) (trodAll_cons_mk (shut_int Tryd.underlying3 w3) trodAll_mk0)))), rfl, bel.frame _, fun h => by cases h⟩
theorem over : Rows.bondDoomsRow.holds Tryd.pinned (OpenSpec.ofChange Rows.bondDoomsSpec) :=
  OpenClaim.holds_of_wide 4 Tryd.f4 rfl rfl rfl rfl rfl rfl rfl ⟨rfl, rfl, rfl, rfl, rfl⟩ rfl rfl rfl rfl rfl (by kernel_rfl) Tryd.func4 (by kernel_rfl)
    (of_decide_eq_true (by kernel_rfl)) (by unfold Func.isWrapper; first | (rw [if_pos (by decide +kernel)]; kernel_rfl) | (rw [if_neg (by decide +kernel)]; exact ⟨rfl, rfl⟩))
    (fun os started H enc _ => lifted os started H enc)
theorem proved : Rows.BondDoomsCardSaid :=
  Claim7.holds_tied_plain_at .later [] [.data] true _ false over (fun _ h => by cases h) (by kernel_rfl) (fun _ h => by cases h) bondDooms_row_tie rfl ⟨rfl, rfl⟩ (by kernel_rfl) rfl
    (fun f fn hf hfn => by
      obtain rfl : f = 4 := Option.some.inj ((show Tryd.prog.funcNamed "vinculum/vinculumlaw16.BondDooms" = some 4 by kernel_rfl).symm.trans hf) |>.symm
      obtain rfl : fn = Tryd.f4 := (Option.some.inj (Tryd.func4.symm.trans hfn)).symm
      exact ⟨by kernel_rfl, fun j t ht => by
        rw [Tryd.params4] at ht
        have hm := Array.mem_of_getElem? ht
        have hall : (Tryd.f4.params.toList.all fun u => !Tryd.prog.wantsStandIn u) = true := by kernel_rfl
        rw [Tryd.params4] at hall
        exact (show Tryd.prog.wantsStandIn t = false by simpa using List.all_eq_true.1 hall t (by simpa using hm))⟩)
    (by kernel_rfl)
end Go.Proofs.YtjobphjpfknfeaaDoor.bondDooms
