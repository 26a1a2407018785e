/- Proved here: vinculumlaw11.TowerLevels returns true and leaves its arguments as they were, for any int and any two 64-bit words; no further condition. -/
import Derived.Test.YteaanaggcenloaaTwS
import Derived.Test.YteaanaggcenloaaTwL
import Derived.ChangeOld
import Derived.Deep.LoopGhost
import Derived.Deep.CutRange
import Derived.Deep.CutBlock
import Derived.Deep.QuietTactic
import Derived.BigQuiet
import Derived.BigRegion
import Derived.Deep.RegionHeld3
namespace Go.Proofs.Yteaanaggcenloaa.towerLevels
open Go.ChangeShapes Go.WideShapes Go.ChangeAt Go.RowKit
set_option linter.unusedVariables false

def cn (A B m : Nat) : Int := ((lvl (SB A B (below 64)) 1 m).length : Int)
theorem cn_succ {A B k : Nat} (hk : k < 64) : cn A B (k + 1) = if A.testBit k = true then cn A B k + 1 else cn A B k := by
  unfold cn
  show ((if (1 : Int) ≤ (SB A B (below 64) k : Int) then lvl (SB A B (below 64)) 1 k ++ [(k : Int)] else lvl (SB A B (below 64)) 1 k).length : Int) = _
  cases hb : A.testBit k with
  | true =>
    have := hgB_b B k
    rw [if_pos (by rw [SB_at hk hb (by simp [below, hk])]; omega), if_pos rfl]
    simp
  | false =>
    rw [if_neg (by unfold SB; rw [if_neg (by simp [hb])]; omega), if_neg (by simp)]
theorem cn_b (A B m : Nat) : 0 ≤ cn A B m ∧ cn A B m ≤ m := by
  have := lvl_len (th := SB A B (below 64)) 1 m
  unfold cn
  omega
def R1 (w : World) (t A B k : Nat) (nv iv : Value) (wr : World) : Prop := ∃ S, k ≤ 64 ∧ iv = .int .i64 k ∧ nv = .int .i64 (cn A B k) ∧ Twr w wr t S (SB A B (below k))
def R2 (w : World) (t : Nat) (th : Nat → Nat) (h : Nat) (iv : Value) (wr : World) : Prop := ∃ S, 1 ≤ h ∧ h ≤ 5 ∧ iv = .int .i64 h ∧ Twr w wr t S th
def R3 (W : World) (za zb : List Int) (i : Nat) (jv iv : Value) (wr : World) : Prop := ∃ j d, i ≤ zb.length ∧ iv = .int .i64 i ∧ jv = .int .i64 (j : Nat) ∧ wr = W.drewN d ∧ ∀ p, i < zb.length → p < za.length → za.getD p 0 = zb.getD i 0 → j ≤ p
def R5 (w : World) (t : Nat) (th : Nat → Nat) (v : Value) (za : List Int) (i : Nat) (iv : Value) (wr : World) : Prop := ∃ S, i ≤ za.length ∧ iv = .int .i64 i ∧ Twr w wr t S th ∧ OwnN 0 wr v za ∧ ∀ g, v.ownBlock = some g → ¬ S g
theorem own_zero {B : Nat} {w : World} {v : Value} {zs : List Int} (o : OwnN B w v zs) : OwnN 0 w v zs := by
  obtain ⟨h1, h2⟩ := o
  refine ⟨h1, ?_⟩
  rcases h2 with h2 | ⟨g, c, cur, hv, hg, r⟩
  · exact .inl h2
  · exact .inr ⟨g, c, cur, hv, Nat.zero_le _, r⟩
theorem far_V {w w' : World} {S S' : Nat → Prop} {v : Value} {zs : List Int} {B : Nat} (o : OwnN B w v zs) (d : ∀ g, v.ownBlock = some g → ¬ S g) (kk : VKeep S S' w w') : ∀ g, v.ownBlock = some g → ¬ S' g := fun g hg x => by
  rcases kk.2 g x with y | y
  · exact d g hg y
  · have := (OwnN.lt o hg).2; omega
set_option maxRecDepth 100000 in
set_option maxHeartbeats 8000000 in
theorem walk (a0 a1 a2 : Int) (w : World) (w0 : (Lit.int .u64 a0).wf = true) (w1 : (Lit.int .u64 a1).wf = true) (w2 : (Lit.int .i64 a2).wf = true) :
    Calls Try.prog 6 #[.int .u64 a0, .int .u64 a1, .int .i64 a2] w fun e w' => e = .returned (.bool true) ∧ Below w.heap.size w w' := by
  obtain ⟨A, rfl⟩ : ∃ n : Nat, a0 = (n : Int) := ⟨a0.toNat, by have := bounds_u64 w0; omega⟩
  obtain ⟨B, rfl⟩ : ∃ n : Nat, a1 = (n : Int) := ⟨a1.toNat, by have := bounds_u64 w1; omega⟩
  obtain ⟨K, eK⟩ : ∃ n : Nat, a2 % 64 = (n : Int) := ⟨(a2 % 64).toNat, by omega⟩
  have hA : A ≤ 18446744073709551615 := by have := bounds_u64 w0; omega
  have hB : B ≤ 18446744073709551615 := by have := bounds_u64 w1; omega
  have hK : K < 64 := by omega
  have h2 : bits .and .i64 a2 63 = (K : Int) := (i64_mask a2 6 (by decide)).trans eK
  clear w0 w1 w2 eK
  go_enter Try.func6, Try.ntmps6
  go_wp2_with fail
  refine (t_new (Below.refl _ _)).mono ?_
  rintro e y0 ⟨t, S0, rfl, C0, _, _⟩
  rw [← SB_none (A := A) (B := B), show (fun _ => false) = below 0 from funext fun j => by simp [below]] at C0
  have cn0 : cn A B 0 = 0 := rfl
  go_wp2
  go_loopw [8, 9] (fun nv iv wr => ∃ k : Nat, R1 w t A B k nv iv wr) (fun _ iv _ => 64 - (intOf iv).toNat)
  case atStart => exact ⟨0, S0, Nat.zero_le _, rfl, by rw [cn0], C0⟩
  case round =>
    clear C0 cn0
    obtain ⟨k, S, k64, rfl, rfl, C⟩ := hrel
    have wk : IntKind.i64.wrap ((k : Int) + 1) = (k : Int) + 1 := IntWalk.i64_in _ (by omega)
    have cb0 := cn_b A B k
    by_cases hlt : k < 64
    · have e1 : below (k + 1) = plus (below k) k := funext fun j => by
        unfold plus below
        by_cases e : j = k
        · subst e; simp
        · simp [e]; omega
      have cs := cn_succ (A := A) (B := B) hlt
      cases hb : A.testBit k with
      | true =>
        have ba := bit_true hA hb
        have hp := SB_put (A := A) (B := B) (P := below k) hlt hb
        rw [← e1, show below k k = false by simp [below]] at hp
        have t1 := two_at B k hB
        have g1 : (hgB B k : Int) = ((B / 2 ^ k % 4 : Nat) : Int) + 1 := rfl
        rw [g1] at hp
        rw [hb, if_pos rfl] at cs
        obtain ⟨v1, ev1⟩ : ∃ v, B / 2 ^ k % 4 = v := ⟨_, rfl⟩
        have l1 : v1 < 4 := by rw [← ev1]; exact Nat.mod_lt _ (by omega)
        rw [ev1] at t1 hp
        have x1 : IntKind.i64.wrap (v1 : Int) = (v1 : Int) := IntWalk.i64_in _ (by omega)
        have x2 : IntKind.i64.wrap ((v1 : Int) + 1) = (v1 : Int) + 1 := IntWalk.i64_in _ (by omega)
        obtain ⟨n1, en1⟩ : ∃ n, cn A B k = n := ⟨_, rfl⟩
        rw [en1] at cs cb0 ⊢
        have x3 : IntKind.i64.wrap (n1 + 1) = n1 + 1 := IntWalk.i64_in _ (by omega)
        have HP := Lib.hid hp
        have CS := Lib.hid cs
        clear ev1 g1 en1 e1 hp cs hb
        go_wp2_with fail
        refine (t_put C _ _ _ _ _ HP.out).mono ?_
        rintro e y2 ⟨rfl, S3, C3, k3⟩
        go_wp2
        first | exact ⟨⟨k + 1, S3, by omega, by go_num, by rw [CS.out], C3⟩, by simp [intOf]; omega⟩ | (refine ⟨?rel2, ?meas2⟩; (case meas2 => (simp [intOf]; omega)); (case rel2 => ((repeat apply Exists.intro); exact ⟨⟨k + 1, S3, by omega, by go_num, by rw [CS.out], C3⟩, rfl⟩)))
      | false =>
        have ba := bit_false hA hb
        have es : SB A B (below k) = SB A B (below (k + 1)) := by rw [e1]; exact SB_skip hb
        rw [es] at C
        rw [hb, if_neg (by simp)] at cs
        have CS := Lib.hid cs
        clear e1 es cs hb
        go_wp2
        first | exact ⟨⟨k + 1, S, by omega, by go_num, by rw [CS.out], C⟩, by simp [intOf]; omega⟩ | (refine ⟨?rel2, ?meas2⟩; (case meas2 => (simp [intOf]; omega)); (case rel2 => ((repeat apply Exists.intro); exact ⟨⟨k + 1, S, by omega, by go_num, by rw [CS.out], C⟩, rfl⟩)))
    · obtain rfl : k = 64 := by omega
      obtain ⟨th, eth⟩ : ∃ th, SB A B (below 64) = th := ⟨_, rfl⟩
      obtain ⟨nn, enn⟩ : ∃ n, cn A B 64 = n := ⟨_, rfl⟩
      have en2 : ((levelT th 1).length : Int) = nn := by rw [← enn, ← eth]; unfold levelT cn; rw [if_pos (by omega)]
      rw [eth] at C
      rw [enn] at cb0 ⊢
      have EN := Lib.hid en2
      clear enn eth hlt k64 wk en2 hA hB
      go_wp2
      go_loopw [12] (fun iv wr => ∃ h : Nat, R2 w t th h iv wr) (fun iv _ => 5 - (intOf iv).toNat)
      case atStart => exact ⟨1, S, Nat.le_refl _, by omega, rfl, C⟩
      case round =>
        clear C
        obtain ⟨h, S, h1, h5, rfl, C⟩ := hrel
        have wk : IntKind.i64.wrap ((h : Int) + 1) = (h : Int) + 1 := IntWalk.i64_in _ (by omega)
        by_cases hlt : h ≤ 4
        · obtain ⟨za, eza⟩ : ∃ z, levelT th (h : Int) = z := ⟨_, rfl⟩
          obtain ⟨zb, ezb⟩ : ∃ z, levelT th ((h : Int) + 1) = z := ⟨_, rfl⟩
          have la := level_len (th := th) (h : Int)
          have ra := level_rises (th := th) (h : Int)
          have ga := fun x => level_hgt (th := th) (h := (h : Int)) (x := x)
          have rb := level_rises (th := th) ((h : Int) + 1)
          have sb := fun x => level_sub (th := th) (h := (h : Int)) (by omega) (x := x)
          rw [eza] at la ra ga sb
          rw [ezb] at rb sb
          have lb := level_len (th := th) ((h : Int) + 1)
          rw [ezb] at lb
          have RA := Lib.hid ra
          have RB := Lib.hid rb
          have GA := Lib.hid ga
          have SBB := Lib.hid sb
          clear ra rb ga sb
          go_wp2_with fail
          refine (t_level C _ _ eza).mono ?_
          rintro e y2 ⟨va, S3, rfl, o3, d3, C3, k3⟩
          clear C
          go_wp2_with fail
          refine (t_level C3 _ _ ezb).mono ?_
          rintro e y3 ⟨vb, S4, rfl, o4, d4, C4, k4⟩
          have oa := own_zero (OwnN.keep o3 k4.1 d3)
          have da := far_V o3 d3 k4
          have ob := own_zero o4
          clear o3 o4 d3 d4 C3 eza ezb
          obtain ⟨A1, c1, rfl, hA0, hA1⟩ := OwnN.out oa
          obtain ⟨A2, c2, rfl, hB0, hB1⟩ := OwnN.out ob
          go_wp2
          go_loopw [15, 16] (fun jv iv wr => ∃ i : Nat, R3 y3 za zb i jv iv wr) (fun _ iv _ => zb.length - (intOf iv).toNat)
          case atStart => exact ⟨0, 0, 0, Nat.zero_le _, rfl, rfl, rfl, fun p _ _ _ => Nat.zero_le _⟩
          case round =>
            obtain ⟨i, j, d, ib, rfl, rfl, rfl, hj⟩ := hrel
            have wi : IntKind.i64.wrap ((i : Int) + 1) = (i : Int) + 1 := IntWalk.i64_in _ (by omega)
            by_cases hi : i < zb.length
            · obtain ⟨h3, hm⟩ := SBB.out _ (getD_in hi)
              obtain ⟨p, pa, ep⟩ := at_mem hm
              have jp := hj p hi pa ep
              have hnx : ∀ p', i + 1 < zb.length → p' < za.length → za.getD p' 0 = zb.getD (i + 1) 0 → p ≤ p' := fun p' b1 b2 b3 => by
                have := rises_at RB.out (i := i) (j := i + 1) (by omega) b1
                rcases Nat.lt_or_ge p' p with b4 | b4
                · have := rises_at RA.out b4 pa; omega
                · exact b4
              have HN := Lib.hid hnx
              cases A1 with
              | none => exact absurd (hA0 rfl) (by intro e; rw [e] at pa; simp at pa)
              | some ad1 =>
              cases A2 with
              | none => exact absurd (hB0 rfl) (by intro e; rw [e] at hi; simp at hi)
              | some ad2 =>
              obtain ⟨g1, rfl⟩ := hA1 _ rfl
              obtain ⟨g2, rfl⟩ := hB1 _ rfl
              have ci := OwnN.cell ob i hi
              obtain ⟨y, ey⟩ : ∃ y, zb.getD i 0 = y := ⟨_, rfl⟩
              rw [ey] at ci ep
              have inj : ∀ q, q < za.length → za.getD q 0 = y → q = p := fun q b1 b2 => by
                rcases Nat.lt_trichotomy q p with b | b | b
                · have := rises_at RA.out b pa; omega
                · exact b
                · have := rises_at RA.out b b1; omega
              have IJ := Lib.hid inj
              have EP := Lib.hid ep
              clear hnx hj hm ey hA0 hA1 hB0 hB1 inj ep
              go_wp2
              go_loopw [15] (fun jv wr => ∃ (j d : Nat), j ≤ p ∧ jv = .int .i64 j ∧ wr = y3.drewN d) (fun jv _ => za.length - (intOf jv).toNat)
              case atStart => exact ⟨j, d, jp, rfl, rfl⟩
              case round =>
                clear jp
                obtain ⟨j, d, jp, rfl, rfl⟩ := hrel
                have ja : j < za.length := by omega
                have wj : IntKind.i64.wrap ((j : Int) + 1) = (j : Int) + 1 := IntWalk.i64_in _ (by omega)
                have cj := OwnN.cell oa j ja
                obtain ⟨x, ex⟩ : ∃ x, za.getD j 0 = x := ⟨_, rfl⟩
                rw [ex] at cj
                by_cases hxy : x = y
                · subst hxy
                  obtain rfl : j = p := IJ.out j ja ex
                  have n1 : ((j : Int) == (za.length : Int)) = false := by rw [beq_eq_false_iff_ne]; omega
                  have n2 : ((h : Int) == 4) = false := by rw [beq_eq_false_iff_ne]; omega
                  clear ex
                  go_wp2_with fail
                  go_quiet (fail)
                  go_wp2
                  first | exact ⟨⟨i + 1, j, _, by omega, by go_num, rfl, rfl, HN.out⟩, by simp [intOf]; omega⟩ | (refine ⟨?rel2, ?meas2⟩; (case meas2 => (simp [intOf]; omega)); (case rel2 => ((repeat apply Exists.intro); exact ⟨⟨i + 1, j, _, by omega, by go_num, rfl, rfl, HN.out⟩, rfl⟩)))
                · have n1 : (x != y) = true := by simpa using hxy
                  have jlt : j < p := by
                    rcases Nat.lt_or_ge j p with b | b
                    · exact b
                    · have : j = p := by omega
                      subst this
                      exact absurd (ex.symm.trans EP.out) hxy
                  clear ex
                  go_wp2_with fail
                  go_quiet (fail)
                  go_wp2
                  first | exact ⟨⟨j + 1, _, by omega, by go_num, rfl⟩, by simp [intOf]; omega⟩ | (refine ⟨?rel2, ?meas2⟩; (case meas2 => (simp [intOf]; omega)); (case rel2 => ((repeat apply Exists.intro); exact ⟨⟨j + 1, _, by omega, by go_num, rfl⟩, rfl⟩)))
            · obtain rfl : i = zb.length := by omega
              have oa := OwnN.keep oa (drewN_keep (fun _ => False) y3 d) (by simp)
              have C4 := C4.quiet (drewN_keep (fun _ => False) y3 d)
              clear hj hi ib wi hB0 hB1 SBB RB ob
              go_wp2
              go_loopw [17] (fun iv wr => ∃ i : Nat, R5 w t th (.slice A1 za.length c1) za i iv wr) (fun iv _ => za.length - (intOf iv).toNat)
              case atStart => exact ⟨0, S4, Nat.zero_le _, rfl, C4, oa, da⟩
              case round =>
                clear C4 oa da
                obtain ⟨i, S5, ia, rfl, C5, oa, da⟩ := hrel
                have wi : IntKind.i64.wrap ((i : Int) + 1) = (i : Int) + 1 := IntWalk.i64_in _ (by omega)
                by_cases hi : i < za.length
                · cases A1 with
                  | none => exact absurd (hA0 rfl) (by intro e; rw [e] at hi; simp at hi)
                  | some ad1 =>
                  obtain ⟨g1, rfl⟩ := hA1 _ rfl
                  have ci := OwnN.cell oa i hi
                  have hg := GA.out _ (getD_in hi)
                  have ri := fun (hp : 0 < i) => rises_at RA.out (i := i - 1) (j := i) (by omega) hi
                  obtain ⟨y, ey⟩ : ∃ y, za.getD i 0 = y := ⟨_, rfl⟩
                  rw [ey] at ci hg ri
                  obtain ⟨hv, ehv⟩ : ∃ z, hgtT th y = z := ⟨_, rfl⟩
                  rw [ehv] at hg
                  have n1 : decide (hv < (h : Int)) = false := decide_eq_false (by omega)
                  have EV := Lib.hid ehv
                  have EY := Lib.hid ey
                  clear ey ehv hA0 hA1
                  cases i with
                  | zero =>
                    clear ri
                    go_wp2_with fail
                    have C5 := C5.quiet (Keep.refl (fun _ => False) _).drew
                    have oa := OwnN.keep oa (Keep.refl (fun _ => False) _).drew (by simp)
                    refine wp_region_held_drew (S := (fun w' => w'.cell? ⟨g1, 0, none⟩ = some (.int .i64 y))) (by kernel_rfl) ci (fun hHeld => ?_)
                    refine wpAnyH_take (i := 0) (v := ?qvu69) rfl (by kernel_rfl) (by kernel_rfl) (by kernel_rfl) (fun _ _ _ h => h) (Or.inl ⟨by rfl, ?qyu69⟩) (by assumption) ?qru69; case qyu69 => ((intro w hSw; (try dsimp only at hSw); go_simp); try (with_reducible rfl))
                    ((try simp only [List.getElem_toArray]); (try simp only [List.getElem_cons_succ]); (try simp only [List.getElem_cons_zero]); (try simp only [Act.put]); (try simp only [List.setIfInBounds_toArray]); (try simp only [List.set_cons_succ]); (try simp only [List.set_cons_zero]))
                    refine wpAnyH_take (i := 1) (v := ?qvu70) rfl (by kernel_rfl) (by kernel_rfl) (by kernel_rfl) (fun _ _ _ h => h) (Or.inl ⟨by rfl, ?qyu70⟩) (by assumption) ?qru70; case qyu70 => ((intro w hSw; (try dsimp only at hSw); go_simp); try (with_reducible rfl))
                    ((try simp only [List.getElem_toArray]); (try simp only [List.getElem_cons_succ]); (try simp only [List.getElem_cons_zero]); (try simp only [Act.put]); (try simp only [List.setIfInBounds_toArray]); (try simp only [List.set_cons_succ]); (try simp only [List.set_cons_zero]))
                    refine wpAnyH_take (i := 2) (v := ?qvu71) rfl (by kernel_rfl) (by kernel_rfl) (by kernel_rfl) (fun _ _ _ h => h) (Or.inl ⟨by rfl, ?qyu71⟩) (by assumption) ?qru71; case qyu71 => ((intro w hSw; (try dsimp only at hSw); go_simp); try (with_reducible rfl))
                    ((try simp only [List.getElem_toArray]); (try simp only [List.getElem_cons_succ]); (try simp only [List.getElem_cons_zero]); (try simp only [Act.put]); (try simp only [List.setIfInBounds_toArray]); (try simp only [List.set_cons_succ]); (try simp only [List.set_cons_zero]))
                    refine wpAnyH_take (i := 3) (v := undef) rfl (by kernel_rfl) (by kernel_rfl) (by kernel_rfl) (fun _ _ _ h => h) (Or.inr ⟨by rfl, rfl⟩) (by assumption) ?qru72
                    ((try simp only [List.getElem_toArray]); (try simp only [List.getElem_cons_succ]); (try simp only [List.getElem_cons_zero]); (try simp only [Act.put]); (try simp only [List.setIfInBounds_toArray]); (try simp only [List.set_cons_succ]); (try simp only [List.set_cons_zero]))
                    refine wpAnyH_take (i := 4) (v := undef) rfl (by kernel_rfl) (by kernel_rfl) (by kernel_rfl) (fun _ _ _ h => h) (Or.inr ⟨by rfl, rfl⟩) (by assumption) ?qru73
                    ((try simp only [List.getElem_toArray]); (try simp only [List.getElem_cons_succ]); (try simp only [List.getElem_cons_zero]); (try simp only [Act.put]); (try simp only [List.setIfInBounds_toArray]); (try simp only [List.set_cons_succ]); (try simp only [List.set_cons_zero]))
                    refine wpAnyH_take (i := 5) (v := undef) rfl (by kernel_rfl) (by kernel_rfl) (by kernel_rfl) (fun _ _ _ h => h) (Or.inr ⟨by rfl, rfl⟩) (by assumption) ?qru74
                    ((try simp only [List.getElem_toArray]); (try simp only [List.getElem_cons_succ]); (try simp only [List.getElem_cons_zero]); (try simp only [Act.put]); (try simp only [List.setIfInBounds_toArray]); (try simp only [List.set_cons_succ]); (try simp only [List.set_cons_zero]))
                    refine wpAnyH_take (i := 6) (v := undef) rfl (by kernel_rfl) (by kernel_rfl) (by kernel_rfl) (fun _ _ _ h => h) (Or.inr ⟨by rfl, rfl⟩) (by assumption) ?qru75
                    ((try simp only [List.getElem_toArray]); (try simp only [List.getElem_cons_succ]); (try simp only [List.getElem_cons_zero]); (try simp only [Act.put]); (try simp only [List.setIfInBounds_toArray]); (try simp only [List.set_cons_succ]); (try simp only [List.set_cons_zero]))
                    refine wpAnyH_take (i := 7) (v := undef) rfl (by kernel_rfl) (by kernel_rfl) (by kernel_rfl) (fun _ _ _ h => h) (Or.inr ⟨by rfl, rfl⟩) (by assumption) ?qru76
                    ((try simp only [List.getElem_toArray]); (try simp only [List.getElem_cons_succ]); (try simp only [List.getElem_cons_zero]); (try simp only [Act.put]); (try simp only [List.setIfInBounds_toArray]); (try simp only [List.set_cons_succ]); (try simp only [List.set_cons_zero]))
                    refine wpAnyH_take (i := 8) (v := undef) rfl (by kernel_rfl) (by kernel_rfl) (by kernel_rfl) (fun _ _ _ h => h) (Or.inr ⟨by rfl, rfl⟩) (by assumption) ?qru77
                    ((try simp only [List.getElem_toArray]); (try simp only [List.getElem_cons_succ]); (try simp only [List.getElem_cons_zero]); (try simp only [Act.put]); (try simp only [List.setIfInBounds_toArray]); (try simp only [List.set_cons_succ]); (try simp only [List.set_cons_zero]))
                    refine wpAnyH_take (i := 9) (v := undef) rfl (by kernel_rfl) (by kernel_rfl) (by kernel_rfl) (fun _ _ _ h => h) (Or.inr ⟨by rfl, rfl⟩) (by assumption) ?qru78
                    ((try simp only [List.getElem_toArray]); (try simp only [List.getElem_cons_succ]); (try simp only [List.getElem_cons_zero]); (try simp only [Act.put]); (try simp only [List.setIfInBounds_toArray]); (try simp only [List.set_cons_succ]); (try simp only [List.set_cons_zero]))
                    refine wpAnyH_take (i := 10) (v := undef) rfl (by kernel_rfl) (by kernel_rfl) (by kernel_rfl) (fun _ _ _ h => h) (Or.inr ⟨by rfl, rfl⟩) (by assumption) ?qru79
                    ((try simp only [List.getElem_toArray]); (try simp only [List.getElem_cons_succ]); (try simp only [List.getElem_cons_zero]); (try simp only [Act.put]); (try simp only [List.setIfInBounds_toArray]); (try simp only [List.set_cons_succ]); (try simp only [List.set_cons_zero]))
                    refine wpAnyH_take (i := 11) (v := undef) rfl (by kernel_rfl) (by kernel_rfl) (by kernel_rfl) (fun _ _ _ h => h) (Or.inr ⟨by rfl, rfl⟩) (by assumption) ?qru80
                    ((try simp only [List.getElem_toArray]); (try simp only [List.getElem_cons_succ]); (try simp only [List.getElem_cons_zero]); (try simp only [Act.put]); (try simp only [List.setIfInBounds_toArray]); (try simp only [List.set_cons_succ]); (try simp only [List.set_cons_zero]))
                    refine wpAnyH_take (i := 12) (v := undef) rfl (by kernel_rfl) (by kernel_rfl) (by kernel_rfl) (fun _ _ _ h => h) (Or.inr ⟨by rfl, rfl⟩) (by assumption) ?qru81
                    ((try simp only [List.getElem_toArray]); (try simp only [List.getElem_cons_succ]); (try simp only [List.getElem_cons_zero]); (try simp only [Act.put]); (try simp only [List.setIfInBounds_toArray]); (try simp only [List.set_cons_succ]); (try simp only [List.set_cons_zero]))
                    refine wpAnyH_take (i := 13) (v := ?qvu82) rfl (by kernel_rfl) (by kernel_rfl) (by kernel_rfl) (fun _ _ _ h => h) (Or.inl ⟨by rfl, ?qyu82⟩) (by assumption) ?qru82; case qyu82 => ((intro w hSw; (try dsimp only at hSw); go_simp); try (with_reducible rfl))
                    ((try simp only [List.getElem_toArray]); (try simp only [List.getElem_cons_succ]); (try simp only [List.getElem_cons_zero]); (try simp only [Act.put]); (try simp only [List.setIfInBounds_toArray]); (try simp only [List.set_cons_succ]); (try simp only [List.set_cons_zero]))
                    refine wpAnyH_take (i := 14) (v := ?qvu83) rfl (by kernel_rfl) (by kernel_rfl) (by kernel_rfl) (fun _ _ _ h => h) (Or.inl ⟨by rfl, ?qyu83⟩) (by assumption) ?qru83; case qyu83 => ((intro w hSw; (try dsimp only at hSw); go_simp); try (with_reducible rfl))
                    ((try simp only [List.getElem_toArray]); (try simp only [List.getElem_cons_succ]); (try simp only [List.getElem_cons_zero]); (try simp only [Act.put]); (try simp only [List.setIfInBounds_toArray]); (try simp only [List.set_cons_succ]); (try simp only [List.set_cons_zero]))
                    refine wpAnyH_take (i := 15) (v := ?qvu84) rfl (by kernel_rfl) (by kernel_rfl) (by kernel_rfl) (fun _ _ _ h => h) (Or.inl ⟨by rfl, ?qyu84⟩) (by assumption) ?qru84; case qyu84 => ((intro w hSw; (try dsimp only at hSw); go_simp); try (with_reducible rfl))
                    ((try simp only [List.getElem_toArray]); (try simp only [List.getElem_cons_succ]); (try simp only [List.getElem_cons_zero]); (try simp only [Act.put]); (try simp only [List.setIfInBounds_toArray]); (try simp only [List.set_cons_succ]); (try simp only [List.set_cons_zero]))
                    refine wpAnyH_take (i := 16) (v := ?qvu85) rfl (by kernel_rfl) (by kernel_rfl) (by kernel_rfl) (fun _ _ _ h => h) (Or.inl ⟨by rfl, ?qyu85⟩) (by assumption) ?qru85; case qyu85 => ((intro w hSw; (try dsimp only at hSw); go_simp); try (with_reducible rfl))
                    ((try simp only [List.getElem_toArray]); (try simp only [List.getElem_cons_succ]); (try simp only [List.getElem_cons_zero]); (try simp only [Act.put]); (try simp only [List.setIfInBounds_toArray]); (try simp only [List.set_cons_succ]); (try simp only [List.set_cons_zero]))
                    refine wpAnyH_take (i := 17) (v := ?qvu86) rfl (by kernel_rfl) (by kernel_rfl) (by kernel_rfl) (fun _ _ _ h => h) (Or.inl ⟨by rfl, ?qyu86⟩) (by assumption) ?qru86; case qyu86 => ((intro w hSw; (try dsimp only at hSw); go_simp); try (with_reducible rfl))
                    ((try simp only [List.getElem_toArray]); (try simp only [List.getElem_cons_succ]); (try simp only [List.getElem_cons_zero]); (try simp only [Act.put]); (try simp only [List.setIfInBounds_toArray]); (try simp only [List.set_cons_succ]); (try simp only [List.set_cons_zero]))
                    refine wpAnyH_take (i := 18) (v := ?qvu87) rfl (by kernel_rfl) (by kernel_rfl) (by kernel_rfl) (fun _ _ _ h => h) (Or.inl ⟨by rfl, ?qyu87⟩) (by assumption) ?qru87; case qyu87 => ((intro w hSw; (try dsimp only at hSw); go_simp); try (with_reducible rfl))
                    ((try simp only [List.getElem_toArray]); (try simp only [List.getElem_cons_succ]); (try simp only [List.getElem_cons_zero]); (try simp only [Act.put]); (try simp only [List.setIfInBounds_toArray]); (try simp only [List.set_cons_succ]); (try simp only [List.set_cons_zero]))
                    refine wpAnyH_take (i := 19) (v := ?qvu88) rfl (by kernel_rfl) (by kernel_rfl) (by kernel_rfl) (fun _ _ _ h => h) (Or.inl ⟨by rfl, ?qyu88⟩) (by assumption) ?qru88; case qyu88 => ((intro w hSw; (try dsimp only at hSw); go_simp); try (with_reducible rfl))
                    ((try simp only [List.getElem_toArray]); (try simp only [List.getElem_cons_succ]); (try simp only [List.getElem_cons_zero]); (try simp only [Act.put]); (try simp only [List.setIfInBounds_toArray]); (try simp only [List.set_cons_succ]); (try simp only [List.set_cons_zero]))
                    refine wpAnyH_take (i := 21) (v := ?qvu89) rfl (by kernel_rfl) (by kernel_rfl) (by kernel_rfl) (fun _ _ _ h => h) (Or.inl ⟨by rfl, ?qyu89⟩) (by assumption) ?qru89; case qyu89 => ((intro w hSw; (try dsimp only at hSw); go_simp); try (with_reducible rfl))
                    ((try simp only [List.getElem_toArray]); (try simp only [List.getElem_cons_succ]); (try simp only [List.getElem_cons_zero]); (try simp only [Act.put]); (try simp only [List.setIfInBounds_toArray]); (try simp only [List.set_cons_succ]); (try simp only [List.set_cons_zero]))
                    refine wpAnyH_ready (rs := [20]) (by kernel_rfl) (by simp) ?_
                    refine AllReadyH.cons rfl (fun K hK => ?_) AllReadyH.nil
                    go_simp
                    refine (t_height C5 _ _ EV.out).mono ?_
                    rintro e y6 ⟨rfl, S6, C6, k6⟩
                    have o6 := OwnN.keep oa k6.1 da
                    have d6 := far_V oa da k6
                    refine hK.out _ _ (OwnN.cell o6 0 hi |>.trans (by rw [show za.getD 0 0 = y from EY.out])) (fun hHeld => ?_)
                    clear hK K
                    ((try simp only [List.getElem_toArray]); (try simp only [List.getElem_cons_succ]); (try simp only [List.getElem_cons_zero]); (try simp only [Act.put]); (try simp only [List.setIfInBounds_toArray]); (try simp only [List.set_cons_succ]); (try simp only [List.set_cons_zero]))
                    refine wpAnyH_take (i := 22) (v := ?qvu90) rfl (by kernel_rfl) (by kernel_rfl) (by kernel_rfl) (fun _ _ _ h => h) (Or.inl ⟨by rfl, ?qyu90⟩) (by assumption) ?qru90; case qyu90 => ((intro w hSw; (try dsimp only at hSw); go_simp); try (with_reducible rfl))
                    ((try simp only [List.getElem_toArray]); (try simp only [List.getElem_cons_succ]); (try simp only [List.getElem_cons_zero]); (try simp only [Act.put]); (try simp only [List.setIfInBounds_toArray]); (try simp only [List.set_cons_succ]); (try simp only [List.set_cons_zero]))
                    refine wpAnyH_take (i := 23) (v := ?qvu91) rfl (by kernel_rfl) (by kernel_rfl) (by kernel_rfl) (fun _ _ _ h => h) (Or.inl ⟨by rfl, ?qyu91⟩) (by assumption) ?qru91; case qyu91 => ((intro w hSw; (try dsimp only at hSw); go_simp); try (with_reducible rfl))
                    ((try simp only [List.getElem_toArray]); (try simp only [List.getElem_cons_succ]); (try simp only [List.getElem_cons_zero]); (try simp only [Act.put]); (try simp only [List.setIfInBounds_toArray]); (try simp only [List.set_cons_succ]); (try simp only [List.set_cons_zero]))
                    refine wpAnyH_done (by kernel_rfl) ?_ _
                    go_wp2_with fail
                    first | exact ⟨⟨1, S6, by omega, by go_num, C6, o6, d6⟩, by simp [intOf]; omega⟩ | (refine ⟨?rel2, ?meas2⟩; (case meas2 => (simp [intOf]; omega)); (case rel2 => ((repeat apply Exists.intro); exact ⟨⟨1, S6, by omega, by go_num, C6, o6, d6⟩, rfl⟩)))
                  | succ i =>
                    have cp := OwnN.cell oa i (by omega)
                    have rp := ri (by omega)
                    simp only [Nat.add_sub_cancel] at rp
                    obtain ⟨z, ez⟩ : ∃ z, za.getD i 0 = z := ⟨_, rfl⟩
                    rw [ez] at cp rp
                    have n2 : decide (y ≤ z) = false := decide_eq_false (by omega)
                    have n3 : IntKind.i64.wrap ((i : Int) + 1 - 1) = (i : Int) := by rw [IntWalk.i64_in _ (by omega)]; omega
                    have n3b : IntKind.i64.wrap (i : Int) = (i : Int) := IntWalk.i64_in _ (by omega)
                    have n4 : decide ((0 : Int) < (i : Int) + 1) = true := decide_eq_true (by omega)
                    have n5 : i < za.length := by omega
                    have n6 : ((i : Int) + 1).toNat = i + 1 := by omega
                    have n7 : (0 : Int) ≤ (i : Int) + 1 := by omega
                    have n8 : i + 1 < za.length := hi
                    have n9 : (i : Int) + 1 < (za.length : Int) := by omega
                    have EZ := Lib.hid ez
                    clear ez ri
                    have wi2 : IntKind.i64.wrap ((i : Int) + 1 + 1) = (i : Int) + 1 + 1 := IntWalk.i64_in _ (by omega)
                    go_wp2_with fail
                    have C5 := C5.quiet (Keep.refl (fun _ => False) _).drew
                    have oa := OwnN.keep oa (Keep.refl (fun _ => False) _).drew (by simp)
                    refine wp_region_held_drew (S := (fun w' => w'.cell? ⟨g1, i + 1, none⟩ = some (.int .i64 y) ∧ w'.cell? ⟨g1, i, none⟩ = some (.int .i64 z))) (by kernel_rfl) ⟨ci, cp⟩ (fun hHeld => ?_)
                    refine wpAnyH_take (i := 0) (v := ?qvu92) rfl (by kernel_rfl) (by kernel_rfl) (by kernel_rfl) (fun _ _ _ h => h) (Or.inl ⟨by rfl, ?qyu92⟩) (by assumption) ?qru92; case qyu92 => ((intro w hSw; (try dsimp only at hSw); go_simp); try (with_reducible rfl))
                    ((try simp only [List.getElem_toArray]); (try simp only [List.getElem_cons_succ]); (try simp only [List.getElem_cons_zero]); (try simp only [Act.put]); (try simp only [List.setIfInBounds_toArray]); (try simp only [List.set_cons_succ]); (try simp only [List.set_cons_zero]))
                    refine wpAnyH_take (i := 1) (v := ?qvu93) rfl (by kernel_rfl) (by kernel_rfl) (by kernel_rfl) (fun _ _ _ h => h) (Or.inl ⟨by rfl, ?qyu93⟩) (by assumption) ?qru93; case qyu93 => ((intro w hSw; (try dsimp only at hSw); go_simp); try (with_reducible rfl))
                    ((try simp only [List.getElem_toArray]); (try simp only [List.getElem_cons_succ]); (try simp only [List.getElem_cons_zero]); (try simp only [Act.put]); (try simp only [List.setIfInBounds_toArray]); (try simp only [List.set_cons_succ]); (try simp only [List.set_cons_zero]))
                    refine wpAnyH_take (i := 2) (v := ?qvu94) rfl (by kernel_rfl) (by kernel_rfl) (by kernel_rfl) (fun _ _ _ h => h) (Or.inl ⟨by rfl, ?qyu94⟩) (by assumption) ?qru94; case qyu94 => ((intro w hSw; (try dsimp only at hSw); go_simp); try (with_reducible rfl))
                    ((try simp only [List.getElem_toArray]); (try simp only [List.getElem_cons_succ]); (try simp only [List.getElem_cons_zero]); (try simp only [Act.put]); (try simp only [List.setIfInBounds_toArray]); (try simp only [List.set_cons_succ]); (try simp only [List.set_cons_zero]))
                    refine wpAnyH_take (i := 3) (v := ?qvu95) rfl (by kernel_rfl) (by kernel_rfl) (by kernel_rfl) (fun _ _ _ h => h) (Or.inl ⟨by rfl, ?qyu95⟩) (by assumption) ?qru95; case qyu95 => ((intro w hSw; (try dsimp only at hSw); go_simp); try (with_reducible rfl))
                    ((try simp only [List.getElem_toArray]); (try simp only [List.getElem_cons_succ]); (try simp only [List.getElem_cons_zero]); (try simp only [Act.put]); (try simp only [List.setIfInBounds_toArray]); (try simp only [List.set_cons_succ]); (try simp only [List.set_cons_zero]))
                    refine wpAnyH_take (i := 4) (v := ?qvu96) rfl (by kernel_rfl) (by kernel_rfl) (by kernel_rfl) (fun _ _ _ h => h) (Or.inl ⟨by rfl, ?qyu96⟩) (by assumption) ?qru96; case qyu96 => ((intro w hSw; (try dsimp only at hSw); go_simp); try (with_reducible rfl))
                    ((try simp only [List.getElem_toArray]); (try simp only [List.getElem_cons_succ]); (try simp only [List.getElem_cons_zero]); (try simp only [Act.put]); (try simp only [List.setIfInBounds_toArray]); (try simp only [List.set_cons_succ]); (try simp only [List.set_cons_zero]))
                    refine wpAnyH_take (i := 5) (v := ?qvu97) rfl (by kernel_rfl) (by kernel_rfl) (by kernel_rfl) (fun _ _ _ h => h) (Or.inl ⟨by rfl, ?qyu97⟩) (by assumption) ?qru97; case qyu97 => ((intro w hSw; (try dsimp only at hSw); go_simp); try (with_reducible rfl))
                    ((try simp only [List.getElem_toArray]); (try simp only [List.getElem_cons_succ]); (try simp only [List.getElem_cons_zero]); (try simp only [Act.put]); (try simp only [List.setIfInBounds_toArray]); (try simp only [List.set_cons_succ]); (try simp only [List.set_cons_zero]))
                    refine wpAnyH_take (i := 6) (v := ?qvu98) rfl (by kernel_rfl) (by kernel_rfl) (by kernel_rfl) (fun _ _ _ h => h) (Or.inl ⟨by rfl, ?qyu98⟩) (by assumption) ?qru98; case qyu98 => ((intro w hSw; (try dsimp only at hSw); go_simp); try (with_reducible rfl))
                    ((try simp only [List.getElem_toArray]); (try simp only [List.getElem_cons_succ]); (try simp only [List.getElem_cons_zero]); (try simp only [Act.put]); (try simp only [List.setIfInBounds_toArray]); (try simp only [List.set_cons_succ]); (try simp only [List.set_cons_zero]))
                    refine wpAnyH_take (i := 7) (v := ?qvu99) rfl (by kernel_rfl) (by kernel_rfl) (by kernel_rfl) (fun _ _ _ h => h) (Or.inl ⟨by rfl, ?qyu99⟩) (by assumption) ?qru99; case qyu99 => ((intro w hSw; (try dsimp only at hSw); go_simp); try (with_reducible rfl))
                    ((try simp only [List.getElem_toArray]); (try simp only [List.getElem_cons_succ]); (try simp only [List.getElem_cons_zero]); (try simp only [Act.put]); (try simp only [List.setIfInBounds_toArray]); (try simp only [List.set_cons_succ]); (try simp only [List.set_cons_zero]))
                    refine wpAnyH_take (i := 8) (v := ?qvu100) rfl (by kernel_rfl) (by kernel_rfl) (by kernel_rfl) (fun _ _ _ h => h) (Or.inl ⟨by rfl, ?qyu100⟩) (by assumption) ?qru100; case qyu100 => ((intro w hSw; (try dsimp only at hSw); go_simp); try (with_reducible rfl))
                    ((try simp only [List.getElem_toArray]); (try simp only [List.getElem_cons_succ]); (try simp only [List.getElem_cons_zero]); (try simp only [Act.put]); (try simp only [List.setIfInBounds_toArray]); (try simp only [List.set_cons_succ]); (try simp only [List.set_cons_zero]))
                    refine wpAnyH_take (i := 9) (v := ?qvu101) rfl (by kernel_rfl) (by kernel_rfl) (by kernel_rfl) (fun _ _ _ h => h) (Or.inl ⟨by rfl, ?qyu101⟩) (by assumption) ?qru101; case qyu101 => ((intro w hSw; (try dsimp only at hSw); go_simp); try (with_reducible rfl))
                    ((try simp only [List.getElem_toArray]); (try simp only [List.getElem_cons_succ]); (try simp only [List.getElem_cons_zero]); (try simp only [Act.put]); (try simp only [List.setIfInBounds_toArray]); (try simp only [List.set_cons_succ]); (try simp only [List.set_cons_zero]))
                    refine wpAnyH_take (i := 10) (v := ?qvu102) rfl (by kernel_rfl) (by kernel_rfl) (by kernel_rfl) (fun _ _ _ h => h) (Or.inl ⟨by rfl, ?qyu102⟩) (by assumption) ?qru102; case qyu102 => ((intro w hSw; (try dsimp only at hSw); go_simp); try (with_reducible rfl))
                    ((try simp only [List.getElem_toArray]); (try simp only [List.getElem_cons_succ]); (try simp only [List.getElem_cons_zero]); (try simp only [Act.put]); (try simp only [List.setIfInBounds_toArray]); (try simp only [List.set_cons_succ]); (try simp only [List.set_cons_zero]))
                    refine wpAnyH_take (i := 11) (v := ?qvu103) rfl (by kernel_rfl) (by kernel_rfl) (by kernel_rfl) (fun _ _ _ h => h) (Or.inl ⟨by rfl, ?qyu103⟩) (by assumption) ?qru103; case qyu103 => ((intro w hSw; (try dsimp only at hSw); go_simp); try (with_reducible rfl))
                    ((try simp only [List.getElem_toArray]); (try simp only [List.getElem_cons_succ]); (try simp only [List.getElem_cons_zero]); (try simp only [Act.put]); (try simp only [List.setIfInBounds_toArray]); (try simp only [List.set_cons_succ]); (try simp only [List.set_cons_zero]))
                    refine wpAnyH_take (i := 12) (v := ?qvu104) rfl (by kernel_rfl) (by kernel_rfl) (by kernel_rfl) (fun _ _ _ h => h) (Or.inl ⟨by rfl, ?qyu104⟩) (by assumption) ?qru104; case qyu104 => ((intro w hSw; (try dsimp only at hSw); go_simp); try (with_reducible rfl))
                    ((try simp only [List.getElem_toArray]); (try simp only [List.getElem_cons_succ]); (try simp only [List.getElem_cons_zero]); (try simp only [Act.put]); (try simp only [List.setIfInBounds_toArray]); (try simp only [List.set_cons_succ]); (try simp only [List.set_cons_zero]))
                    refine wpAnyH_take (i := 13) (v := ?qvu105) rfl (by kernel_rfl) (by kernel_rfl) (by kernel_rfl) (fun _ _ _ h => h) (Or.inl ⟨by rfl, ?qyu105⟩) (by assumption) ?qru105; case qyu105 => ((intro w hSw; (try dsimp only at hSw); go_simp); try (with_reducible rfl))
                    ((try simp only [List.getElem_toArray]); (try simp only [List.getElem_cons_succ]); (try simp only [List.getElem_cons_zero]); (try simp only [Act.put]); (try simp only [List.setIfInBounds_toArray]); (try simp only [List.set_cons_succ]); (try simp only [List.set_cons_zero]))
                    refine wpAnyH_take (i := 14) (v := ?qvu106) rfl (by kernel_rfl) (by kernel_rfl) (by kernel_rfl) (fun _ _ _ h => h) (Or.inl ⟨by rfl, ?qyu106⟩) (by assumption) ?qru106; case qyu106 => ((intro w hSw; (try dsimp only at hSw); go_simp); try (with_reducible rfl))
                    ((try simp only [List.getElem_toArray]); (try simp only [List.getElem_cons_succ]); (try simp only [List.getElem_cons_zero]); (try simp only [Act.put]); (try simp only [List.setIfInBounds_toArray]); (try simp only [List.set_cons_succ]); (try simp only [List.set_cons_zero]))
                    refine wpAnyH_take (i := 15) (v := ?qvu107) rfl (by kernel_rfl) (by kernel_rfl) (by kernel_rfl) (fun _ _ _ h => h) (Or.inl ⟨by rfl, ?qyu107⟩) (by assumption) ?qru107; case qyu107 => ((intro w hSw; (try dsimp only at hSw); go_simp); try (with_reducible rfl))
                    ((try simp only [List.getElem_toArray]); (try simp only [List.getElem_cons_succ]); (try simp only [List.getElem_cons_zero]); (try simp only [Act.put]); (try simp only [List.setIfInBounds_toArray]); (try simp only [List.set_cons_succ]); (try simp only [List.set_cons_zero]))
                    refine wpAnyH_take (i := 16) (v := ?qvu108) rfl (by kernel_rfl) (by kernel_rfl) (by kernel_rfl) (fun _ _ _ h => h) (Or.inl ⟨by rfl, ?qyu108⟩) (by assumption) ?qru108; case qyu108 => ((intro w hSw; (try dsimp only at hSw); go_simp); try (with_reducible rfl))
                    ((try simp only [List.getElem_toArray]); (try simp only [List.getElem_cons_succ]); (try simp only [List.getElem_cons_zero]); (try simp only [Act.put]); (try simp only [List.setIfInBounds_toArray]); (try simp only [List.set_cons_succ]); (try simp only [List.set_cons_zero]))
                    refine wpAnyH_take (i := 17) (v := ?qvu109) rfl (by kernel_rfl) (by kernel_rfl) (by kernel_rfl) (fun _ _ _ h => h) (Or.inl ⟨by rfl, ?qyu109⟩) (by assumption) ?qru109; case qyu109 => ((intro w hSw; (try dsimp only at hSw); go_simp); try (with_reducible rfl))
                    ((try simp only [List.getElem_toArray]); (try simp only [List.getElem_cons_succ]); (try simp only [List.getElem_cons_zero]); (try simp only [Act.put]); (try simp only [List.setIfInBounds_toArray]); (try simp only [List.set_cons_succ]); (try simp only [List.set_cons_zero]))
                    refine wpAnyH_take (i := 18) (v := ?qvu110) rfl (by kernel_rfl) (by kernel_rfl) (by kernel_rfl) (fun _ _ _ h => h) (Or.inl ⟨by rfl, ?qyu110⟩) (by assumption) ?qru110; case qyu110 => ((intro w hSw; (try dsimp only at hSw); go_simp); try (with_reducible rfl))
                    ((try simp only [List.getElem_toArray]); (try simp only [List.getElem_cons_succ]); (try simp only [List.getElem_cons_zero]); (try simp only [Act.put]); (try simp only [List.setIfInBounds_toArray]); (try simp only [List.set_cons_succ]); (try simp only [List.set_cons_zero]))
                    refine wpAnyH_take (i := 19) (v := ?qvu111) rfl (by kernel_rfl) (by kernel_rfl) (by kernel_rfl) (fun _ _ _ h => h) (Or.inl ⟨by rfl, ?qyu111⟩) (by assumption) ?qru111; case qyu111 => ((intro w hSw; (try dsimp only at hSw); go_simp); try (with_reducible rfl))
                    ((try simp only [List.getElem_toArray]); (try simp only [List.getElem_cons_succ]); (try simp only [List.getElem_cons_zero]); (try simp only [Act.put]); (try simp only [List.setIfInBounds_toArray]); (try simp only [List.set_cons_succ]); (try simp only [List.set_cons_zero]))
                    refine wpAnyH_take (i := 21) (v := ?qvu112) rfl (by kernel_rfl) (by kernel_rfl) (by kernel_rfl) (fun _ _ _ h => h) (Or.inl ⟨by rfl, ?qyu112⟩) (by assumption) ?qru112; case qyu112 => ((intro w hSw; (try dsimp only at hSw); go_simp); try (with_reducible rfl))
                    ((try simp only [List.getElem_toArray]); (try simp only [List.getElem_cons_succ]); (try simp only [List.getElem_cons_zero]); (try simp only [Act.put]); (try simp only [List.setIfInBounds_toArray]); (try simp only [List.set_cons_succ]); (try simp only [List.set_cons_zero]))
                    refine wpAnyH_ready (rs := [20]) (by kernel_rfl) (by simp) ?_
                    refine AllReadyH.cons rfl (fun K hK => ?_) AllReadyH.nil
                    go_simp
                    refine (t_height C5 _ _ EV.out).mono ?_
                    rintro e y6 ⟨rfl, S6, C6, k6⟩
                    have o6 := OwnN.keep oa k6.1 da
                    have d6 := far_V oa da k6
                    refine hK.out _ _ ⟨(OwnN.cell o6 (i + 1) hi).trans (by rw [show za.getD (i + 1) 0 = y from EY.out]), (OwnN.cell o6 i n5).trans (by rw [show za.getD i 0 = z from EZ.out])⟩ (fun hHeld => ?_)
                    clear hK K
                    ((try simp only [List.getElem_toArray]); (try simp only [List.getElem_cons_succ]); (try simp only [List.getElem_cons_zero]); (try simp only [Act.put]); (try simp only [List.setIfInBounds_toArray]); (try simp only [List.set_cons_succ]); (try simp only [List.set_cons_zero]))
                    refine wpAnyH_take (i := 22) (v := ?qvu113) rfl (by kernel_rfl) (by kernel_rfl) (by kernel_rfl) (fun _ _ _ h => h) (Or.inl ⟨by rfl, ?qyu113⟩) (by assumption) ?qru113; case qyu113 => ((intro w hSw; (try dsimp only at hSw); go_simp); try (with_reducible rfl))
                    ((try simp only [List.getElem_toArray]); (try simp only [List.getElem_cons_succ]); (try simp only [List.getElem_cons_zero]); (try simp only [Act.put]); (try simp only [List.setIfInBounds_toArray]); (try simp only [List.set_cons_succ]); (try simp only [List.set_cons_zero]))
                    refine wpAnyH_take (i := 23) (v := ?qvu114) rfl (by kernel_rfl) (by kernel_rfl) (by kernel_rfl) (fun _ _ _ h => h) (Or.inl ⟨by rfl, ?qyu114⟩) (by assumption) ?qru114; case qyu114 => ((intro w hSw; (try dsimp only at hSw); go_simp); try (with_reducible rfl))
                    ((try simp only [List.getElem_toArray]); (try simp only [List.getElem_cons_succ]); (try simp only [List.getElem_cons_zero]); (try simp only [Act.put]); (try simp only [List.setIfInBounds_toArray]); (try simp only [List.set_cons_succ]); (try simp only [List.set_cons_zero]))
                    refine wpAnyH_done (by kernel_rfl) ?_ _
                    go_wp2_with fail
                    first | exact ⟨⟨i + 1 + 1, S6, by omega, by go_num, C6, o6, d6⟩, by simp [intOf]; omega⟩ | (refine ⟨?rel2, ?meas2⟩; (case meas2 => (simp [intOf]; omega)); (case rel2 => ((repeat apply Exists.intro); exact ⟨⟨i + 1 + 1, S6, by omega, by go_num, C6, o6, d6⟩, rfl⟩)))
                · obtain rfl : i = za.length := by omega
                  clear hi ia hA0 hA1
                  go_wp2
                  first | exact ⟨⟨h + 1, S5, by omega, by omega, by go_num, C5⟩, by simp [intOf]; omega⟩ | (refine ⟨?rel2, ?meas2⟩; (case meas2 => (simp [intOf]; omega)); (case rel2 => ((repeat apply Exists.intro); exact ⟨⟨h + 1, S5, by omega, by omega, by go_num, C5⟩, rfl⟩)))
        · obtain rfl : h = 5 := by omega
          clear hlt h1 h5 wk
          obtain ⟨s0, s1, s2⟩ := steps_ok (th := th) K
          obtain ⟨st, est⟩ : ∃ s, stepsT th (K : Int) = s := ⟨_, rfl⟩
          obtain ⟨cc, ecc⟩ : ∃ c, cb th K 64 = c := ⟨_, rfl⟩
          rw [est, ecc] at s1 s2
          rw [est] at s0
          have hz : K = 0 → cc = 0 := fun e => by
            rw [← ecc, e]
            have none : ∀ m, cb th 0 m = 0 := by
              intro m
              induction m with
              | zero => rfl
              | succ m ih => rw [cb_succ, if_neg (by omega), ih]
            exact none 64
          have HZ := Lib.hid hz
          have EC := Lib.hid ecc
          have ES := Lib.hid est
          have d1 : decide (st ≤ (cc : Int)) = true := decide_eq_true s1
          have d2 : (((cc : Int) == 0) == (st == 0)) = true := by
            by_cases e : st = 0
            · have := s2.1 e; simp [e, this]
            · have : cc ≠ 0 := fun h => e (s2.2 h)
              have b1 : ((cc : Int) == 0) = false := by rw [beq_eq_false_iff_ne]; omega
              have b2 : (st == 0) = false := by rw [beq_eq_false_iff_ne]; exact e
              rw [b1, b2]; rfl
          clear hz ecc est s1 s2
          rw [show ((5 : Nat) : Int) = 5 from rfl, show ((64 : Nat) : Int) = 64 from rfl]
          go_upto_if 126 with fail
          go_cut [18] from 123 to 131 (fun v wx => ∃ S, v = .int .i64 (cc : Int) ∧ Twr w wx t S th)
          case first =>
            by_cases hk : K = 0
            · subst hk
              obtain rfl : cc = 0 := HZ.out rfl
              go_wp2_with fail
              go_meet
              case rel => exact ⟨S, rfl, C⟩
            · have k0 : decide ((0 : Int) < (K : Int)) = true := decide_eq_true (by omega)
              have k1 : IntKind.i64.wrap ((K : Int) - 1) = (K : Int) - 1 := IntWalk.i64_in _ (by omega)
              obtain ⟨zr, ezr⟩ : ∃ z, rngT th 0 ((K : Int) - 1) 64 = z := ⟨_, rfl⟩
              have elr : zr.length = cc := by rw [← ezr]; exact EC.out
              go_wp2_with fail
              refine (t_range C _ _ _ ezr).mono ?_
              rintro e z1 ⟨v1, S3, rfl, o3, d3, C3, k3⟩
              obtain ⟨A3, c3, rfl, _, _⟩ := OwnN.out o3
              rw [elr]
              clear o3 d3 ezr elr C
              go_wp2_with fail
              go_meet
              case rel => exact ⟨S3, rfl, C3⟩
          case rest =>
          clear C
          obtain ⟨S, rfl, C⟩ := hcut
          have e0 : levelT th 0 = [] := by unfold levelT; rw [if_neg (by omega)]
          go_wp2_with fail
          refine (t_level C _ _ rfl).mono ?_
          rintro e z1 ⟨v1, S3, rfl, o3, d3, C3, k3⟩
          obtain ⟨A3, c3, rfl, _, _⟩ := OwnN.out o3
          clear o3 d3 C
          have en := EN.out
          go_wp2_with fail
          refine (t_steps C3 _ _ ES.out).mono ?_
          rintro e z2 ⟨rfl, S4, C4, k4⟩
          go_wp2_with fail
          refine (t_steps C4 _ _ ES.out).mono ?_
          rintro e z3 ⟨rfl, S5, C5, k5⟩
          clear C3 C4 en
          go_wp2_with fail
          refine (t_level C5 _ _ e0).mono ?_
          rintro e z4 ⟨v2, S6, rfl, o6, d6, C6, k6⟩
          obtain ⟨A6, c6, rfl, _, _⟩ := OwnN.out o6
          clear o6 d6 C5
          go_wp2_with fail
          refine (awake11_any _).mono ?_
          rintro e z9 ⟨rfl, b9⟩
          go_wp2
          go_ret
          exact ⟨rfl, C6.b.trans (b9.mono C6.b.size)⟩
theorem own : ownKnob Try.prog.godebug = none := by kernel_rfl
theorem laidOut : laidOutB Try.prog = true := by kernel_rfl
set_option maxRecDepth 100000 in
theorem lifted (os : Os) (started : os.Started) (H : Type) (enc : TypeId × Value → H) :
    ReturnsInHanded {} Try.checked os 6 .any (Rows.towerLevelsSpec.pre6 enc Try.prog Try.f6 Rows.towerLevelsRow.domain false) (Rows.towerLevelsSpec.post enc Try.prog Try.f6 false true false false) := by
  refine returnsInHanded_of_change (C := Try.checked) own started (by kernel_rfl) Try.func6
    (ChangeSpec.witness6 (enc := enc) (C := Try.checked) false ⟨#[], #[.int .u64 0, .int .u64 0, .int .i64 0], []⟩ 8 (by kernel_rfl) (by kernel_rfl) (by kernel_rfl) (by kernel_rfl)) ?_
  intro W base args ds gs before hval0 hW hcnd _
  have hval : ∀ (j : Nat) t v, Try.f6.params[j]? = some t → args[j]? = some v → Value.okWide Try.prog W .any base t v := hval0
  have hW' := hW
  obtain ⟨p, q, hA0, hV, rfl, hfz, hnd⟩ := hW
  have hA : DataW.TrodAll enc Try.prog W 0 (fun _ => true) true Try.f6.params.toList args.toList ds p := hA0
  rw [Try.params6] at hA hval
  obtain ⟨v0, vs0, d0, ds0, p0, q0, hargs, rfl, rfl, h0, r0⟩ := trodAll_cons hA
  obtain ⟨v1, vs1, d1, ds1, p1, q1, rfl, rfl, rfl, h1, r1⟩ := trodAll_cons r0
  obtain ⟨v2, vs2, d2, ds2, p2, q2, rfl, rfl, rfl, h2, r2⟩ := trodAll_cons r1
  obtain ⟨rfl, rfl, rfl⟩ := trodAll_nil r2
  obtain rfl : args = #[v0, v1, v2] := by cases args; simp_all
  obtain ⟨rfl, rfl⟩ := trodVars_none hV
  obtain ⟨a0, rfl, rfl, rfl, w0⟩ := open_int Try.underlying22 (hval 0 22 v0 rfl rfl) h0
  obtain ⟨a1, rfl, rfl, rfl, w1⟩ := open_int Try.underlying22 (hval 1 22 v1 rfl rfl) h1
  obtain ⟨a2, rfl, rfl, rfl, w2⟩ := open_int Try.underlying3 (hval 2 3 v2 rfl rfl) h2
  clear hA0 hval0
  refine (walk a0 a1 a2 W w0 w1 w2).mono fun e W' ⟨he, bel⟩ => ?_
  subst he
  exact ⟨_, rfl, _, _, _, [], _, [], hW', trodAll_mk1 (shut_bool Try.underlying4 _), (trodAll_cons_mk (shut_int Try.underlying22 w0) (trodAll_cons_mk (shut_int Try.underlying22 w1) (trodAll_cons_mk (shut_int Try.underlying3 w2) trodAll_mk0))), rfl, bel.frame _, fun h => by cases h⟩
theorem over : Rows.towerLevelsRow.holds Try.pinned (OpenSpec.ofChange Rows.towerLevelsSpec) :=
  OpenClaim.holds_of_wide 6 Try.f6 rfl rfl rfl rfl rfl rfl rfl ⟨rfl, rfl, rfl, rfl, rfl⟩ rfl rfl rfl rfl rfl (by kernel_rfl) Try.func6 (by kernel_rfl)
    (of_decide_eq_true (by kernel_rfl)) (by unfold Func.isWrapper; first | (rw [if_pos (by decide +kernel)]; kernel_rfl) | (rw [if_neg (by decide +kernel)]; exact ⟨rfl, rfl⟩))
    (fun os started H enc _ => lifted os started H enc)
theorem proved : Rows.TowerLevelsSaid := over
#print axioms proved
end Go.Proofs.Yteaanaggcenloaa.towerLevels
