/- Proved here: the tied card of vinculumlaw16.BondRising: it returns true and leaves its arguments as they were, for any int and any two slices of ints; the table of math/bits is the program's own. -/
import Derived.Test.YtjobphjpfknfeaaDoorBdW
import Derived.Test.YtjobphjpfknfeaaDoorPushN
import Derived.Deep.LoopGhost
import Derived.Deep.CutRange
import Derived.Deep.CutBlock
import Derived.BigQuiet
namespace Go.Proofs.YtjobphjpfknfeaaDoor.bondRising
open Go.ChangeShapes Go.WideShapes Go.ChangeAt Go.RowKit
set_option linter.unusedVariables false
open Classical

def Rel (W : World) (p N k : Nat) (iv : Value) (wr : World) : Prop := ∃ S, k ≤ N ∧ iv = .int .i64 ((k : Int) + 1) ∧ Bd W wr p S (upTo k (chF 0) (chE 0))
/-- In the midst of binding. -/
def Mid (W : World) (p N B : Nat) (wr : World) : Prop := ∃ S E, Less N E ∧ Bd W wr p S (upTo N (chF 0) E) ∧ Need wr B E ∧ ¬ S B ∧ W.heap.size ≤ B
def Rel2 (W : World) (p N B k : Nat) (iv : Value) (wr : World) : Prop := k ≤ 100 ∧ iv = .int .i64 k ∧ Mid W p N B wr
def Rel3 (W : World) (p N B1 : Nat) (S : Nat → Prop) (E : List (Int × Int)) (m : Nat) (iv : Value) (wr : World) : Prop :=
  m ≤ N ∧ iv = .int .i64 ((m : Int) + 1) ∧ Bd W wr p S (upTo N (chF (m : Int)) E) ∧ Need wr B1 E
def Rel4 (x : World) (m t : Nat) (cv kv : Value) (wr : World) : Prop := x = wr ∧ t ≤ m ∧ kv = .int .i64 ((t : Int) + 1) ∧ ∃ c : Nat, c ≤ t ∧ cv = .int .i64 c
/-- Who is free when s has ended well. -/
def Free (E : List (Int × Int)) (s : Nat) (x : Int) : Prop := (x, (s : Int)) ∈ E ∧ ∀ j, (s : Int) < j → (x, j) ∉ E
def Rel5 (W : World) (p N B1 b3 b4 : Nat) (S : Nat → Prop) (E : List (Int × Int)) (u1 : Value) (s t : Nat) (u kv : Value) (wr : World) : Prop :=
  s ≤ t ∧ t ≤ N ∧ kv = .int .i64 ((t : Int) + 1) ∧ Bd W wr p S (upTo N (chF (s : Int)) E) ∧ Need wr B1 E ∧ OwnN b3 wr u1 (among (Free E s) N) ∧ OwnN b4 wr u (among (Free E s) t) ∧ b4 ≤ wr.heap.size
def Rel6 (x : World) (E : List (Int × Int)) (s k r : Nat) (cv jv : Value) (wr : World) : Prop := x = wr ∧ s ≤ r ∧ r < k ∧ jv = .int .i64 ((r : Int) + 1) ∧ ∃ c : Nat, c ≤ r ∧ cv = .int .i64 c ∧ (c = 0 ↔ ∀ j : Nat, s < j → j ≤ r → ((k : Int), (j : Int)) ∉ E)
section
variable {E : List (Int × Int)} {N s k : Nat}
theorem among_len {P : Int → Prop} {n : Nat} : (among P n).length ≤ n := by
  unfold among
  refine Nat.le_trans (List.length_filter_le _ _) ?_
  simp
theorem free_low (ls : Less N E) : among (Free E s) s = [] := by
  rw [List.eq_nil_iff_forall_not_mem]
  intro x hx
  obtain ⟨_, h2, h3, _⟩ := mem_among.1 hx
  have := (ls _ h3).2.1
  have : (s : Int) < x := this
  omega
theorem free_iff (ls : Less N E) (hk : s < k + 1) : Free E s ((k + 1 : Nat) : Int) ↔ (((k + 1 : Nat) : Int), (s : Int)) ∈ E ∧ ∀ j : Nat, s < j → j ≤ k → (((k + 1 : Nat) : Int), (j : Int)) ∉ E := by
  constructor
  · rintro ⟨h1, h2⟩
    exact ⟨h1, fun j j1 _ => h2 _ (by omega)⟩
  · rintro ⟨h1, h2⟩
    refine ⟨h1, fun j j1 hm => ?_⟩
    have := ls _ hm
    have l1 : j < ((k + 1 : Nat) : Int) := this.2.1
    refine h2 j.toNat (by omega) (by omega) ?_
    rw [Int.toNat_of_nonneg (by omega)]
    exact hm
theorem count_next {P : Nat → Prop} {r c : Nat} (h : c = 0 ↔ ∀ j, s < j → j ≤ r → ¬ P j) (hs : s ≤ r) : (¬ P (r + 1) → (c = 0 ↔ ∀ j, s < j → j ≤ r + 1 → ¬ P j)) ∧ (P (r + 1) → (c + 1 = 0 ↔ ∀ j, s < j → j ≤ r + 1 → ¬ P j)) := by
  constructor
  · intro hp
    rw [h]
    constructor
    · intro q j j1 j2
      by_cases e : j = r + 1
      · subst e; exact hp
      · exact q j j1 (by omega)
    · exact fun q j j1 j2 => q j j1 (by omega)
  · intro hp
    exact ⟨fun q => by omega, fun q => absurd hp (q _ (by omega) (Nat.le_refl _))⟩
end
theorem z28 : Tryd.zeroCells28 = Array.replicate 1024 (.bool false) := by kernel_rfl
theorem open_up {n : Nat} (h : n < 2000) : (upTo n (chF 0) (chE 0)).open ((n : Int) + 1) = (0, upTo (n + 1) (chF 0) (chE 0)) := upTo_open h (by unfold chF; rw [if_neg (by omega)])
set_option maxRecDepth 100000 in
set_option maxHeartbeats 8000000 in
theorem walk (a0 : Int) (a1 : Option Addr) (len1 cap1 : Nat) (z1 : List Int) (a2 : Option Addr) (len2 cap2 : Nat) (z2 : List Int) (w : World) (hw0 : (Lit.int .i64 a0).wf = true) (hw1 : IsRow .i64 w a1 len1 cap1 z1) (hw2 : IsRow .i64 w a2 len2 cap2 z2) (hTab : TabW w) : Calls Tryd.prog 3 #[.int .i64 a0, .slice a1 len1 cap1, .slice a2 len2 cap2] w fun e w' => e = .returned (.bool true) ∧ Below w.heap.size w w' := by
  clear hw0
  obtain ⟨q0, m0, h0, e0, f0, l0, -, -, w0, -, w02⟩ := mask_mod a0 29 (by decide)
  have e0 : q0.tmod 29 = (m0 : Int) := e0
  have f0 : q0 % 29 = (m0 : Int) := f0
  obtain ⟨N, eN⟩ : ∃ N, m0 + 2 = N := ⟨_, rfl⟩
  rw [eN] at w02
  have n0 : ¬ (N : Int) = 0 := by omega
  have N30 : N ≤ 30 ∧ 2 ≤ N := by omega
  clear eN l0
  go_enter Tryd.func3, Tryd.ntmps3
  go_wp2_with fail
  refine (bd_new hTab (Below.refl _ w)).mono ?_
  rintro e x1 ⟨p, S1, rfl, D, _, _⟩
  have D : Bd w x1 p S1 (upTo 0 (chF 0) (chE 0)) := D
  go_wp2
  go_loopg [8] N (fun mm i wr => ∃ k : Nat, mm + k = N ∧ Rel w p N k i wr)
  case atStart => exact ⟨0, by omega, S1, by omega, rfl, D⟩
  case round =>
    obtain ⟨k, hgk, S, kN, rfl, B⟩ := hrel
    clear D
    by_cases hlt : k < N
    · have wk : IntKind.i64.wrap ((k : Int) + 1 + 1) = (k : Int) + 1 + 1 := IntWalk.i64_in _ (by omega)
      go_wp2_with fail
      refine (bd_open B (id := (k : Int) + 1) (by unfold I64; omega) (open_up (by omega))).mono ?_
      clear B
      rintro e x2 ⟨rfl, S2, D, _⟩
      go_wp2_with fail
      go_roundg (N - (k + 1))
      case measure => omega
      case rel => exact ⟨k + 1, by omega, S2, by omega, rfl, D⟩
    · obtain rfl : k = N := by omega
      clear kN hgk hlt
      go_upto_block 2 with fail
      have nd := need_new wr 28
      rw [← z28] at nd
      have kA := (Keep.refl (fun _ => False) wr).alloc (.cells Tryd.zeroCells28 28)
      have sB : ¬ S wr.heap.size := fun h => by have := B.lt _ h; omega
      have gB := B.below.size
      have B := B.later kA
      obtain ⟨x2, ex2⟩ : ∃ x2, wr.alloc (.cells Tryd.zeroCells28 28) = x2 := ⟨_, rfl⟩
      obtain ⟨B1, eB1⟩ : ∃ B1, wr.heap.size = B1 := ⟨_, rfl⟩
      rw [ex2] at nd B ⊢
      rw [eB1] at nd sB gB ⊢
      clear ex2 eB1 kA
      go_cut [10, 11, 12] from 38 to 86 (fun i x y wx => Mid w p k B1 wx)
      case first =>
        go_wp2
        go_loopg [10, 11, 12] 100 (fun mm i x y wr => ∃ j : Nat, mm + j = 100 ∧ Rel2 w p k B1 j i wr)
        case atStart => exact ⟨0, by omega, by omega, rfl, S, chE 0, (fun p hp => by cases hp), B, nd, sB, gB⟩
        case round =>
          clear B nd sB gB
          obtain ⟨j, hgj, hj, rfl, S, E, ls, B, nd, sB, gB⟩ := hrel
          by_cases c1 : j < len1
          · by_cases c2 : j < len2
            · by_cases c3 : j < 100
              · have wj : IntKind.i64.wrap ((j : Int) + 1) = (j : Int) + 1 := IntWalk.i64_in _ (by omega)
                obtain ⟨g1, o1, rfl, -, hd1⟩ := (hw1.on B.below).cell (by omega)
                obtain ⟨g2, o2, rfl, -, hd2⟩ := (hw2.on B.below).cell (by omega)
                have hc1 := hd1 j c1
                have hc2 := hd2 j c2
                clear hd1 hd2
                obtain ⟨v1, ev1⟩ : ∃ v, z1.getD j 0 = v := ⟨_, rfl⟩
                obtain ⟨v2, ev2⟩ : ∃ v, z2.getD j 0 = v := ⟨_, rfl⟩
                rw [ev1] at hc1
                rw [ev2] at hc2
                obtain ⟨q5, m5, h5, e5, f5, l5, -, -, w5, w51, -⟩ := mask_mod v1 k (by omega)
                obtain ⟨q6, m6, h6, e6, f6, l6, -, -, w6, w61, -⟩ := mask_mod v2 k (by omega)
                obtain ⟨X, eX⟩ : ∃ X, m5 + 1 = X := ⟨_, rfl⟩
                obtain ⟨Y, eY⟩ : ∃ Y, m6 + 1 = Y := ⟨_, rfl⟩
                rw [eX] at w51
                rw [eY] at w61
                have rX : 1 ≤ X ∧ X ≤ k := by omega
                have rY : 1 ≤ Y ∧ Y ≤ k := by omega
                clear eX eY l5 l6 ev1 ev2
                go_wp2_with fail
                go_quiet (fail)
                have B := B.later (drewN_keep _ _ nq)
                have nd : Need (wr.drewN nq) B1 E := BitsN.keep nd (drewN_keep (fun _ => False) _ nq) (fun q => q)
                obtain ⟨x5, ex5⟩ : ∃ x5, wr.drewN nq = x5 := ⟨_, rfl⟩
                rw [ex5] at B nd ⊢
                clear hc1 hc2 ex5
                rcases Nat.lt_trichotomy X Y with hxy | rfl | hxy
                · have hxy2 : (X : Int) < (Y : Int) := by omega
                  have hxy3 : ((Y : Int) == (X : Int)) = false := by simp; omega
                  obtain ⟨E2, hs, ls2, hE⟩ := less_bind ls (a := Y) (b := X) (by omega) (by omega) (by omega); go_wp2_with fail; refine (bd_bind_in B (id := Y) (tt := X) (by unfold I64; omega) (by unfold I64; omega) hs).mono ?_; rintro e x6 ⟨rfl, B6, k6⟩; have nd6 : Need x6 B1 E := BitsN.keep nd k6 sB; have hc := nd6.cell (x := Y) (y := X) (by omega) (by omega); have fr := BitsN.free nd6 (Y * 32 + X); have iX : Y < 32 := (by omega); have iY : X < 32 := (by omega); clear B nd k6 hs; go_wp2_with fail; have nd7 := nd6.set iX iY hE; have B7 := B6.keep (keep_set x6 B1 (Y * 32 + X) (.bool true)) (fun g hg e => sB (e ▸ hg)) (fun g e => e ▸ gB); go_roundg (100 - (j + 1)); (case measure => omega); exact ⟨j + 1, by omega, by omega, by go_num, S, E2, ls2, B7, nd7, sB, gB⟩
                · go_wp2_with fail
                  go_roundg (100 - (j + 1))
                  case measure => omega
                  case rel => exact ⟨j + 1, by omega, by omega, by go_num, S, E, ls, B, nd, sB, gB⟩
                · have hxy3 : ((X : Int) == (Y : Int)) = false := by simp; omega
                  obtain ⟨E2, hs, ls2, hE⟩ := less_bind ls (a := X) (b := Y) (by omega) (by omega) (by omega); go_wp2_with fail; refine (bd_bind_in B (id := X) (tt := Y) (by unfold I64; omega) (by unfold I64; omega) hs).mono ?_; rintro e x6 ⟨rfl, B6, k6⟩; have nd6 : Need x6 B1 E := BitsN.keep nd k6 sB; have hc := nd6.cell (x := X) (y := Y) (by omega) (by omega); have fr := BitsN.free nd6 (X * 32 + Y); have iX : X < 32 := (by omega); have iY : Y < 32 := (by omega); clear B nd k6 hs; go_wp2_with fail; have nd7 := nd6.set iX iY hE; have B7 := B6.keep (keep_set x6 B1 (X * 32 + Y) (.bool true)) (fun g hg e => sB (e ▸ hg)) (fun g e => e ▸ gB); go_roundg (100 - (j + 1)); (case measure => omega); exact ⟨j + 1, by omega, by omega, by go_num, S, E2, ls2, B7, nd7, sB, gB⟩
              · have M : Mid w p k B1 wr := ⟨S, E, ls, B, nd, sB, gB⟩; clear hw1 hw2 ls B nd sB gB; go_wp2_with fail; go_meet; exact M
            · have M : Mid w p k B1 wr := ⟨S, E, ls, B, nd, sB, gB⟩; clear hw1 hw2 ls B nd sB gB; go_wp2_with fail; go_meet; exact M
          · have M : Mid w p k B1 wr := ⟨S, E, ls, B, nd, sB, gB⟩; clear hw1 hw2 ls B nd sB gB; go_wp2_with fail; go_meet; exact M
      case rest =>
        clear B nd sB gB
        obtain ⟨S, E, ls, B, nd, sB, gB⟩ := hcut
        clear hw1 hw2
        go_wp2
        go_loopg [13, 14, 15, 16, 17, 18, 19, 20, 21] k (fun mm iv v14 v15 v16 v17 v18 v19 v20 v21 wr => ∃ m : Nat, mm + m = k ∧ Rel3 w p k B1 S E m iv wr)
        case atStart => exact ⟨0, by omega, by omega, rfl, B, nd⟩
        case round =>
          clear B nd
          obtain ⟨m, hgm, mk, rfl, B, nd⟩ := hrel
          by_cases hlt : m < k
          · have wm : IntKind.i64.wrap ((m : Int) + 1 + 1) = (m : Int) + 1 + 1 := IntWalk.i64_in _ (by omega)
            obtain ⟨s, es⟩ : ∃ s, m + 1 = s := ⟨_, rfl⟩
            have es2 : (m : Int) + 1 = (s : Int) := by omega
            have s31 : s < 32 := by omega
            rw [es2] at wm ⊢
            go_wp2
            go_loopg [14, 15] m (fun mm cv kv wx => ∃ t : Nat, mm + t = m ∧ Rel4 wr m t cv kv wx)
            case atStart => exact ⟨0, by omega, rfl, by omega, rfl, 0, by omega, rfl⟩
            case round =>
              obtain ⟨t, hgt, rfl, tm, rfl, c, ct, rfl⟩ := hrel
              by_cases hlt : t < m
              · obtain ⟨q, eq⟩ : ∃ q, t + 1 = q := ⟨_, rfl⟩
                have eq2 : (t : Int) + 1 = (q : Int) := by omega
                have q31 : q < 32 := by omega
                have lqs : (q : Int) < (s : Int) := by omega
                have wq : IntKind.i64.wrap ((q : Int) + 1) = (q : Int) + 1 := IntWalk.i64_in _ (by omega)
                have wc : IntKind.i64.wrap ((c : Int) + 1) = (c : Int) + 1 := IntWalk.i64_in _ (by omega)
                have c2 := nd.cell s31 q31
                obtain ⟨b2, e2⟩ : ∃ x, yes (((s : Int), (q : Int)) ∈ E) = x := ⟨_, rfl⟩
                rw [e2] at c2
                have EQ := Lib.hid eq
                rw [eq2]
                clear e2 eq2 eq
                cases b2
                · go_wp2_with fail
                  have eq := EQ.out
                  go_roundg (m - q)
                  case measure => omega
                  case rel => exact ⟨q, by omega, rfl, by omega, rfl, c, by omega, rfl⟩
                · go_wp2_with fail
                  have eq := EQ.out
                  go_roundg (m - q)
                  case measure => omega
                  case rel => exact ⟨q, by omega, rfl, by omega, rfl, c + 1, by omega, by go_num⟩
              · obtain rfl : t = m := by omega
                clear hlt tm hgt
                have sx := bd_waits B (id := s) (by unfold I64; omega)
                have gd := less_good ls (i := (s : Int)) (by omega) (by omega)
                have fr := less_free ls (i := (s : Int))
                rw [show (s : Int) - 1 = (t : Int) from by omega] at gd fr
                rw [fr] at sx
                clear fr
                go_wp2_with fail
                refine sx.mono ?_
                rintro e y1 ⟨rfl, k1⟩
                have B := B.later k1
                have nd : Need y1 B1 E := BitsN.keep nd k1 (fun q => q)
                clear sx k1
                go_wp2_with fail
                refine (bd_good_in B (id := s) (by unfold I64; omega) gd).mono ?_
                rintro e y2 ⟨u1, rfl, o1, B9, k9⟩
                have nd : Need y2 B1 E := BitsN.keep nd k9 sB
                have lu : ∀ g, u1.ownBlock = some g → g < y2.heap.size := fun g hg => (OwnN.lt o1 hg).2
                have lS := B9.lt
                have gB2 := B9.below.size
                have lB1 := nd.lt
                obtain ⟨b3, e3⟩ : ∃ b3, y1.heap.size = b3 := ⟨_, rfl⟩
                obtain ⟨b4, e4⟩ : ∃ b4, y2.heap.size = b4 := ⟨_, rfl⟩
                rw [e3] at o1
                rw [e4] at lu lS lB1 gB2
                clear B gd k9 e3
                have l4 : b4 ≤ y2.heap.size := by omega
                clear e4
                have ws : IntKind.i64.wrap ((s : Int) + 1) = (s : Int) + 1 := IntWalk.i64_in _ (by omega)
                have hc : (c : Int) ≤ (s : Int) := by omega
                have zl : (among (Free E s) k).length ≤ 100000 := Nat.le_trans among_len (by omega)
                have B := B9
                clear B9
                go_wp2_with fail
                go_loopg [18, 19, 20, 21] (k - s) (fun mm u kv v20 v21 wr => ∃ t : Nat, mm + t = k ∧ Rel5 w p k B1 b3 b4 S E u1 s t u kv wr)
                case atStart => exact ⟨s, by omega, by omega, by omega, rfl, B, nd, o1, (by rw [free_low ls]; exact World.ownsRow_nil _ _ _ _), l4⟩
                case round =>
                  clear B nd o1 l4
                  obtain ⟨t, hgt, st, tk, rfl, B, nd, o1, ow, lw⟩ := hrel
                  by_cases hlt : t < k
                  · obtain ⟨q, eq⟩ : ∃ q, t + 1 = q := ⟨_, rfl⟩
                    have eq2 : (t : Int) + 1 = (q : Int) := by omega
                    have q31 : q < 32 := by omega
                    have wq : IntKind.i64.wrap ((q : Int) + 1) = (q : Int) + 1 := IntWalk.i64_in _ (by omega)
                    have lqk : (q : Int) ≤ (k : Int) := by omega
                    rw [eq2]
                    go_wp2
                    go_loopg [20, 21] (t - s) (fun mm cv jv wx => ∃ r : Nat, mm + r = t ∧ Rel6 wr E s q r cv jv wx)
                    case atStart => exact ⟨s, by omega, rfl, by omega, by omega, rfl, 0, by omega, rfl, ⟨fun _ j j1 j2 => by omega, fun _ => rfl⟩⟩
                    case round =>
                      obtain ⟨r, hgr, rfl, sr, rq, rfl, c', cr, rfl, hc'⟩ := hrel
                      by_cases hlt : r < t
                      · obtain ⟨f, ef⟩ : ∃ f, r + 1 = f := ⟨_, rfl⟩
                        have ef2 : (r : Int) + 1 = (f : Int) := by omega
                        have f31 : f < 32 := by omega
                        have lfq : (f : Int) < (q : Int) := by omega
                        have wf : IntKind.i64.wrap ((f : Int) + 1) = (f : Int) + 1 := IntWalk.i64_in _ (by omega)
                        have wc' : IntKind.i64.wrap ((c' : Int) + 1) = (c' : Int) + 1 := IntWalk.i64_in _ (by omega)
                        have c2 := nd.cell q31 f31
                        have cn := count_next (P := fun j : Nat => ((q : Int), (j : Int)) ∈ E) hc' sr
                        rw [ef] at cn
                        by_cases hm : ((q : Int), (f : Int)) ∈ E
                        · rw [yes_of hm] at c2
                          have CN := Lib.hid (cn.2 hm)
                          have EF := Lib.hid ef
                          rw [ef2]
                          clear cn hc' ef ef2 hm
                          go_wp2_with fail
                          have ef := EF.out
                          go_roundg (t - f)
                          case measure => omega
                          case rel => exact ⟨f, by omega, rfl, by omega, by omega, rfl, c' + 1, by omega, by go_num, CN.out⟩
                        · rw [yes_not hm] at c2
                          have CN := Lib.hid (cn.1 hm)
                          have EF := Lib.hid ef
                          rw [ef2]
                          clear cn hc' ef ef2 hm
                          go_wp2_with fail
                          have ef := EF.out
                          go_roundg (t - f)
                          case measure => omega
                          case rel => exact ⟨f, by omega, rfl, by omega, by omega, rfl, c', by omega, rfl, CN.out⟩
                      · obtain rfl : r = t := by omega
                        have c2 := nd.cell q31 s31
                        have fi := free_iff ls (s := s) (k := r) (by omega)
                        have nx := among_succ (P := Free E s) (n := r)
                        rw [eq] at fi nx
                        rw [eq2] at nx
                        rw [← hc'] at fi
                        obtain ⟨zs, ez⟩ : ∃ zs, among (Free E s) r = zs := ⟨_, rfl⟩
                        have zl2 : zs.length ≤ r := by rw [← ez]; exact among_len
                        rw [ez] at ow nx
                        clear hc' ez
                        by_cases hf : Free E s (q : Int)
                        · rw [if_pos hf] at nx
                          rw [yes_of (fi.1 hf).1] at c2
                          have c0 : c' = 0 := (fi.1 hf).2
                          subst c0
                          have NX := Lib.hid nx
                          clear nx fi hf
                          go_wp2_with (with_reducible refine wp_stop 149 rfl ?_)
                          intro _
                          refine wp_pushN rfl (.tmp 146) (.tmp 148) rfl b4 lw u18 zs rfl ow (q : Int) rfl (by omega) ?_
                          intro g9 c9 y9 o9 k9 _
                          have o9 : OwnN b4 y9 (.slice (some ⟨g9, 0, none⟩) (zs.length + 1) c9) (among (Free E s) q) := by rw [NX.out]; exact o9
                          have B := B.keep k9 (fun g hg e => by have := lS g hg; have := (OwnN.lt ow e).1; omega) (fun g e => by have := (OwnN.lt ow e).1; omega)
                          have nd : Need y9 B1 E := BitsN.keep nd k9 (fun e => by have := (OwnN.lt ow e).1; omega)
                          have o1 := OwnN.keep o1 k9 (fun g hg e => by have := lu g hg; have := (OwnN.lt ow e).1; omega)
                          have lw := Nat.le_trans lw k9.size
                          clear ow k9 c2
                          go_wp2
                          go_roundg (k - q)
                          case measure => omega
                          case rel => exact ⟨q, by omega, by omega, by omega, rfl, B, nd, o1, o9, lw⟩
                        · rw [if_neg hf, List.append_nil] at nx
                          rw [← nx] at ow
                          clear nx
                          by_cases hm : ((q : Int), (s : Int)) ∈ E
                          · rw [yes_of hm] at c2
                            have c0 : ((c' : Int) == 0) = false := by
                              have : c' ≠ 0 := fun h => hf (fi.2 ⟨hm, h⟩)
                              simp; omega
                            clear fi hf hm
                            go_wp2
                            go_roundg (k - q)
                            case measure => omega
                            case rel => exact ⟨q, by omega, by omega, by omega, rfl, B, nd, o1, ow, lw⟩
                          · rw [yes_not hm] at c2
                            clear fi hf hm
                            go_wp2
                            go_roundg (k - q)
                            case measure => omega
                            case rel => exact ⟨q, by omega, by omega, by omega, rfl, B, nd, o1, ow, lw⟩
                  · obtain rfl : t = k := by omega
                    have sm := sameN_own o1 ow zl
                    clear o1 ow
                    go_wp2_with fail
                    refine sm.mono ?_
                    rintro e y5 ⟨rfl, d, rfl⟩
                    have B := B.later (drewN_keep _ _ d)
                    have nd : Need (wr.drewN d) B1 E := BitsN.keep nd (drewN_keep (fun _ => False) _ d) (fun q => q)
                    obtain ⟨y6, e6⟩ : ∃ y6, wr.drewN d = y6 := ⟨_, rfl⟩
                    rw [e6] at B nd ⊢
                    clear sm e6
                    go_wp2_with fail
                    go_roundg (t - s)
                    case measure => omega
                    case rel => exact ⟨s, by omega, by omega, rfl, B, nd⟩
          · obtain rfl : m = k := by omega
            have bl := B.below
            have aw := awake16_any (hTab.on bl)
            have BL := Lib.hid bl
            clear B bl
            go_wp2_with fail
            refine aw.mono ?_
            rintro e wz ⟨rfl, bz⟩
            have BZ := Lib.hid (BL.out.trans (bz.mono BL.out.size))
            clear aw bz
            go_wp2
            go_ret
            exact ⟨rfl, BZ.out⟩
theorem own : ownKnob Tryd.prog.godebug = none := by kernel_rfl
theorem laidOut : laidOutB Tryd.prog = true := by kernel_rfl
set_option maxRecDepth 100000 in
theorem lifted (os : Os) (started : os.Started) (H : Type) (enc : TypeId × Value → H) :
    ReturnsInHanded {} Tryd.checked os 3 .any (fun w args => (Rows.bondRisingSpec.pre enc Tryd.prog Tryd.f3 [] false w args ∧ laidMetH Tryd.prog lay1 w) ∧ sizedMet enc Tryd.prog Tryd.f3 (OpenSpec.ofChange Rows.bondRisingSpec) false w args) (Rows.bondRisingSpec.post enc Tryd.prog Tryd.f3 false true false false) := by
  refine returnsInHanded_of_change_and (C := Tryd.checked) (X := fun w _ => laidMetH Tryd.prog lay1 w) (fun _ _ _ hh h => h.of_heap hh) own started (by kernel_rfl) Tryd.func3
    (ChangeSpec.witness_shaped (enc := enc) (C := Tryd.checked) (os := os) (X := fun w _ => laidMetH Tryd.prog lay1 w) false (World.doorLaid Tryd.prog 14 os) #[.int .i64 0, .slice none 0 0, .slice none 0 0] 8 rfl (World.shaped_of_RefB (by kernel_rfl) (by kernel_rfl)) (by kernel_rfl) (by kernel_rfl) (by kernel_rfl) (door_met os _)) ?_
  intro W base args ds gs before hval0 hW _ _ hL _
  have hTab := of_laid hL
  have hval : ∀ (j : Nat) t v, Tryd.f3.params[j]? = some t → args[j]? = some v → Value.okWide Tryd.prog W .any base t v := hval0
  have hW' := hW
  obtain ⟨p, q, hA0, hV, rfl, hfz, hnd⟩ := hW
  have hA : DataW.TrodAll enc Tryd.prog W 0 (fun _ => true) true Tryd.f3.params.toList args.toList ds p := hA0
  rw [Tryd.params3] at hA hval
  obtain ⟨v0, vs0, d0, ds0, p0, q0, hargs, rfl, rfl, h0, r0⟩ := trodAll_cons hA
  obtain ⟨v1, vs1, d1, ds1, p1, q1, rfl, rfl, rfl, h1, r1⟩ := trodAll_cons r0
  obtain ⟨v2, vs2, d2, ds2, p2, q2, rfl, rfl, rfl, h2, r2⟩ := trodAll_cons r1
  obtain ⟨rfl, rfl, rfl⟩ := trodAll_nil r2
  obtain rfl : args = #[v0, v1, v2] := by cases args; simp_all
  obtain ⟨rfl, rfl⟩ := trodVars_none hV
  obtain ⟨a0, rfl, rfl, rfl, w0⟩ := open_int Tryd.underlying3 (hval 0 3 v0 rfl rfl) h0
  obtain ⟨a1, len1, cap1, rfl⟩ := okWide_slice Tryd.underlying22 (hval 1 22 v1 rfl rfl)
  have k1 := h1
  have lt1 : ∀ x ∈ p1, x.block < W.heap.size := by obtain ⟨m, hm⟩ := k1; exact DataW.trod_lt m _ _ _ hm
  obtain ⟨z1, w1⟩ : ∃ zs, IsRow .i64 W a1 len1 cap1 zs := is_row Tryd.underlying22 Tryd.underlying3 (by kernel_rfl) h1
  obtain ⟨a2, len2, cap2, rfl⟩ := okWide_slice Tryd.underlying22 (hval 2 22 v2 rfl rfl)
  have k2 := h2
  have lt2 : ∀ x ∈ p2, x.block < W.heap.size := by obtain ⟨m, hm⟩ := k2; exact DataW.trod_lt m _ _ _ hm
  obtain ⟨z2, w2⟩ : ∃ zs, IsRow .i64 W a2 len2 cap2 zs := is_row Tryd.underlying22 Tryd.underlying3 (by kernel_rfl) h2
  clear hA0 hval0
  refine (walk a0 a1 len1 cap1 z1 a2 len2 cap2 z2 W w0 w1 w2 hTab).mono fun e W' ⟨he, bel⟩ => ?_
  subst he
  exact ⟨_, rfl, _, _, _, [], _, [], hW', trodAll_mk1 (shut_bool Tryd.underlying4 _), (trodAll_cons_mk (shut_int Tryd.underlying3 w0) (trodAll_cons_mk (Below.trod laidOut (by kernel_rfl) (of_decide_eq_true (by kernel_rfl)) k1 bel lt1) (trodAll_cons_mk (Below.trod laidOut (by kernel_rfl) (of_decide_eq_true (by kernel_rfl)) k2 bel lt2) trodAll_mk0))), rfl, bel.frame _, fun h => by cases h⟩
theorem over : Rows.bondRisingRow.holds Tryd.pinned (OpenSpec.ofChange Rows.bondRisingSpec) :=
  OpenClaim.holds_of_wide 3 Tryd.f3 rfl rfl rfl rfl rfl rfl rfl ⟨rfl, rfl, rfl, rfl, rfl⟩ rfl rfl rfl rfl rfl (by kernel_rfl) Tryd.func3 (by kernel_rfl)
    (of_decide_eq_true (by kernel_rfl)) (by unfold Func.isWrapper; first | (rw [if_pos (by decide +kernel)]; kernel_rfl) | (rw [if_neg (by decide +kernel)]; exact ⟨rfl, rfl⟩))
    (fun os started H enc _ => lifted os started H enc)
theorem proved : Rows.BondRisingCardSaid :=
  Claim7.holds_tied_plain_at .later [] [.data] true _ false over (fun _ h => by cases h) (by kernel_rfl) (fun _ h => by cases h) bondRising_row_tie rfl ⟨rfl, rfl⟩ (by kernel_rfl) rfl
    (fun f fn hf hfn => by
      obtain rfl : f = 3 := Option.some.inj ((show Tryd.prog.funcNamed "vinculum/vinculumlaw16.BondRising" = some 3 by kernel_rfl).symm.trans hf) |>.symm
      obtain rfl : fn = Tryd.f3 := (Option.some.inj (Tryd.func3.symm.trans hfn)).symm
      exact ⟨by kernel_rfl, fun j t ht => by
        rw [Tryd.params3] at ht
        have hm := Array.mem_of_getElem? ht
        have hall : (Tryd.f3.params.toList.all fun u => !Tryd.prog.wantsStandIn u) = true := by kernel_rfl
        rw [Tryd.params3] at hall
        exact (show Tryd.prog.wantsStandIn t = false by simpa using List.all_eq_true.1 hall t (by simpa using hm))⟩)
    (by kernel_rfl)
end Go.Proofs.YtjobphjpfknfeaaDoor.bondRising
