/- Proved here: the tied card of vinculumlaw16.BondFans: it returns true and leaves its arguments as they were, for any bool and any two ints; the table of math/bits is the program's own. -/
import Derived.Test.YtjobphjpfknfeaaDoorBnT
import Derived.Test.YtjobphjpfknfeaaDoorBdV
import Derived.Test.YtjobphjpfknfeaaDoorBdD
import Derived.Test.YtjobphjpfknfeaaDoorBdF
import Derived.Deep.LoopGhost
import Derived.Deep.CutRange
namespace Go.Proofs.YtjobphjpfknfeaaDoor.bondFans
open Go.ChangeShapes Go.WideShapes Go.ChangeAt Go.RowKit
set_option linter.unusedVariables false
open Classical

section
variable {n m : Nat} {E : List (Int × Int)} {L : List Int}
/-- 2 to m + 1 are bound to 1, and nobody else. -/
def Star (n m : Nat) (E : List (Int × Int)) : Prop := Less (n + 1) E ∧ ∀ a b, (a, b) ∈ E ↔ 2 ≤ a ∧ a ≤ (m : Int) + 1 ∧ b = 1
theorem star_none : Star n 0 (chE 0) := ⟨(fun p hp => by cases hp), fun a b => ⟨(fun h => by cases h), (fun h => by omega)⟩⟩
theorem star_bind (h : Star n m E) (hm : m < n) : ∃ E', (upTo (n + 1) (chF 0) E).bind ((m : Int) + 2) 1 = (0, upTo (n + 1) (chF 0) E') ∧ Star n (m + 1) E' := by
  obtain ⟨E', h1, h2, h3⟩ := less_bind h.1 (a := (m : Int) + 2) (b := 1) (by omega) (by omega) (by omega)
  refine ⟨E', h1, h2, fun a b => ?_⟩
  rw [h3, h.2, Prod.mk.injEq]
  omega
theorem star_good (h : Star n n E) : (upTo (n + 1) (chF 0) E).good 1 = ((among (fun x => 2 ≤ x ∧ x ∉ ([] : List Int)) (n + 1), 0), upTo (n + 1) (chF 1) E) := by
  have q := less_good h.1 (i := 1) (by omega) (by omega)
  rw [show (1 : Int) - 1 = 0 from rfl] at q
  rw [q, among_congr (R := fun x => 2 ≤ x ∧ x ∉ ([] : List Int))]
  intro x x1 x2
  rw [h.2]
  constructor
  · rintro ⟨q, _⟩
    exact ⟨q.1, by simp⟩
  · rintro ⟨q, _⟩
    refine ⟨⟨q, by omega, rfl⟩, fun j hj hm => ?_⟩
    have := (h.2 _ _).1 hm
    omega
theorem star_hit (h : Star n n E) {x : Int} (x1 : 2 ≤ x) (x2 : x ≤ (n : Int) + 1) : Hit E (n + 1) 1 x := (hit_next h.1 (by omega)).2 ⟨1, (h.2 _ _).2 ⟨x1, x2, rfl⟩, .inl rfl⟩
theorem star_bad (h : Star n n E) : (upTo (n + 1) (chF 0) E).bad 1 = ((among (fun x => 2 ≤ x ∧ x ∉ ([] : List Int)) (n + 1), 0), upTo (n + 1) (fun x => if x = 1 then 4 else if Hit E (n + 1) 1 x then 2 else 1) E) := by
  rw [less_bad h.1 (a := 1) (by omega) (by omega), among_congr (R := fun x => 2 ≤ x ∧ x ∉ ([] : List Int))]
  intro x x1 x2
  constructor
  · rintro ⟨q, _⟩
    exact ⟨by omega, by simp⟩
  · rintro ⟨q, _⟩
    exact ⟨by omega, star_hit h q (by omega)⟩
theorem star_well (h : 1 ≤ n) : (upTo (n + 1) (chF 1) E).st 2 = 1 := by rw [st_in (by omega) (by omega)]; unfold chF; rw [if_neg (by omega)]
theorem star_ill (h : Star n n E) (hn : 1 ≤ n) : (upTo (n + 1) (fun x => if x = 1 then 4 else if Hit E (n + 1) 1 x then 2 else 1) E).st 2 = 2 := by
  rw [st_in (by omega) (by omega), if_neg (by omega), if_pos (star_hit h (by omega) (by omega))]
theorem fan_open (h : n < 2000) : (upTo n (fanF []) (fanE 0)).open ((n : Int) + 1) = (0, upTo (n + 1) (fanF []) (fanE 0)) := upTo_open h (by unfold fanF; rw [if_neg (by simp)])
theorem star_open (h : n < 2000) : (upTo n (chF 0) (chE 0)).open ((n : Int) + 1) = (0, upTo (n + 1) (chF 0) (chE 0)) := upTo_open h (by unfold chF; rw [if_neg (by omega)])
theorem fan_end (hL : (1 : Int) ∉ L) (h : (among (fun x => 2 ≤ x ∧ x ∉ L) (n + 1)).length = 0) : ∃ l s', (upTo (n + 1) (fanF L) (fanE n)).good 1 = ((l, 0), s') := by
  unfold BdS.good
  rw [if_neg (by rw [upTo_has]; omega), if_neg (by rw [st_in (by omega) (by omega)]; unfold fanF; rw [if_neg hL]; simp), if_neg (by rw [fan_waits1, List.length_eq_zero_iff.1 h]; simp)]
  exact ⟨_, _, rfl⟩
end
/-- Those that have ended of a turned row. -/
def Done (n t i : Nat) (L : List Int) : Prop := ∀ x, x ∈ L ↔ ∃ j, j < i ∧ x = (((j + t) % n : Nat) : Int) + 2
section
variable {n t i : Nat} {L : List Int}
theorem Done.none : Done n t 0 [] := fun x => ⟨(fun h => by cases h), (fun ⟨_, h, _⟩ => by omega)⟩
theorem Done.one (h : Done n t i L) : (1 : Int) ∉ L := fun q => by obtain ⟨_, _, e⟩ := (h _).1 q; omega
theorem Done.fresh (h : Done n t i L) (hi : i < n) : ((((i + t) % n : Nat) : Int) + 2) ∉ L := fun q => by
  obtain ⟨j, hj, e⟩ := (h _).1 q
  have := turn_once hi (by omega : j < n) (by omega : (i + t) % n = (j + t) % n)
  omega
theorem Done.next (h : Done n t i L) : Done n t (i + 1) (((((i + t) % n : Nat) : Int) + 2) :: L) := fun x => by
  rw [List.mem_cons, h]
  constructor
  · rintro (q | ⟨j, hj, e⟩)
    · exact ⟨i, by omega, q⟩
    · exact ⟨j, by omega, e⟩
  · rintro ⟨j, hj, e⟩
    by_cases c : j = i
    · subst c; exact .inl e
    · exact .inr ⟨j, by omega, e⟩
end
/-- A call on one Bonds leaves the other as it was. -/
theorem two_step {W w w' : World} {p q : Nat} {S S' T : Nat → Prop} {s t : BdS} (B : Bd W w p S s) (D : Bd W w q T t) (n : ∀ g, S g → ¬ T g) (k : VKeep S S' w w') : Bd W w' q T t ∧ ∀ g, S' g → ¬ T g :=
  ⟨D.keep k.1 (fun g a b => n g b a) B.ge, fun g a b => by
    rcases k.2 g a with h | h
    · exact n g h b
    · have := D.lt g b; omega⟩
def Rel (W : World) (p q n k : Nat) (iv : Value) (wr : World) : Prop := ∃ S T, k ≤ n + 1 ∧ iv = .int .i64 ((k : Int) + 1) ∧ Bd W wr p S (upTo k (chF 0) (chE 0)) ∧ Bd W wr q T (upTo k (fanF []) (fanE 0)) ∧ ∀ g, S g → ¬ T g
def Rel2 (W : World) (p q n k : Nat) (iv : Value) (wr : World) : Prop := ∃ S T E, k ≤ n ∧ iv = .int .i64 ((k : Int) + 2) ∧ Star n k E ∧ Bd W wr p S (upTo (n + 1) (chF 0) E) ∧ Bd W wr q T (upTo (n + 1) (fanF []) (fanE k)) ∧ ∀ g, S g → ¬ T g
def Rel3 (W : World) (q n t i : Nat) (iv : Value) (wr : World) : Prop := ∃ T L, i ≤ n ∧ iv = .int .i64 i ∧ Done n t i L ∧ (among (fun x => 2 ≤ x ∧ x ∉ L) (n + 1)).length + i = n ∧ Bd W wr q T (upTo (n + 1) (fanF L) (fanE n))
set_option maxRecDepth 100000 in
set_option maxHeartbeats 8000000 in
theorem walk (a0 : Int) (well : Bool) (a2 : Int) (w : World) (hw0 : (Lit.int .i64 a0).wf = true) (hw2 : (Lit.int .i64 a2).wf = true) (hTab : TabW w) : Calls Tryd.prog 9 #[.int .i64 a0, .bool well, .int .i64 a2] w fun e w' => e = .returned (.bool true) ∧ Below w.heap.size w w' := by
  clear hw0 hw2
  obtain ⟨q0, m0, h0, e0, f0, l0, -, -, w0, w01, -⟩ := mask_mod a0 60 (by decide)
  have e0 : q0.tmod 60 = (m0 : Int) := e0
  have f0 : q0 % 60 = (m0 : Int) := f0
  obtain ⟨n, eN⟩ : ∃ n, m0 + 1 = n := ⟨_, rfl⟩
  rw [eN] at w01
  have h2 := i64_mask8 a2
  obtain ⟨t, et⟩ : ∃ t : Nat, a2 % 256 = (t : Int) := ⟨(a2 % 256).toNat, by omega⟩
  rw [et] at h2
  have t256 : t < 256 := by omega
  have n0 : ¬ (n : Int) = 0 := by omega
  have n61 : 1 ≤ n ∧ n ≤ 60 := by omega
  have wn : IntKind.i64.wrap ((n : Int) + 1) = (n : Int) + 1 := IntWalk.i64_in _ (by omega)
  clear eN l0 et
  go_enter Tryd.func9, Tryd.ntmps9
  go_wp2_with fail
  refine (bd_new hTab (Below.refl _ w)).mono ?_
  rintro e x1 ⟨p, S, rfl, B, _, _⟩
  have bx := B.below
  go_wp2_with fail
  refine (bd_new hTab bx).mono ?_
  rintro e x2 ⟨q, T, rfl, D, k2, hT⟩
  have dj : ∀ g, S g → ¬ T g := fun g a b => by have := B.lt g a; have := hT g b; omega
  have B := B.later k2
  clear k2 hT bx
  go_wp2
  go_loopg [9] (n + 1) (fun mm i wr => ∃ k : Nat, mm + k = n + 1 ∧ Rel w p q n k i wr)
  case atStart => exact ⟨0, by omega, S, T, by omega, rfl, B, D, dj⟩
  case round =>
    clear B D dj
    obtain ⟨k, hgk, S, T, kN, rfl, B, D, dj⟩ := hrel
    by_cases hlt : k < n + 1
    · have wk : IntKind.i64.wrap ((k : Int) + 1 + 1) = (k : Int) + 1 + 1 := IntWalk.i64_in _ (by omega)
      go_wp2_with fail
      refine (bd_open B (id := (k : Int) + 1) (by unfold I64; omega) (star_open (by omega))).mono ?_
      rintro e x3 ⟨rfl, S3, B3, k3⟩
      obtain ⟨D3, dj3⟩ := two_step B D dj k3
      clear B D dj k3
      go_wp2_with fail
      refine (bd_open D3 (id := (k : Int) + 1) (by unfold I64; omega) (fan_open (by omega))).mono ?_
      rintro e x4 ⟨rfl, T4, D4, k4⟩
      obtain ⟨B4, dj4⟩ := two_step D3 B3 (fun g a b => dj3 g b a) k4
      clear B3 D3 dj3 k4
      go_wp2_with fail
      go_roundg (n + 1 - (k + 1))
      case measure => omega
      case rel => exact ⟨k + 1, by omega, S3, T4, by omega, rfl, B4, D4, fun g a b => dj4 g b a⟩
    · obtain rfl : k = n + 1 := by omega
      clear kN hgk
      go_wp2
      go_loopg [10] n (fun mm i wr => ∃ k : Nat, mm + k = n ∧ Rel2 w p q n k i wr)
      case atStart => exact ⟨0, by omega, S, T, _, by omega, rfl, star_none, B, D, dj⟩
      case round =>
        clear B D dj
        obtain ⟨k, hgk, S, T, E, kN, rfl, star, B, D, dj⟩ := hrel
        by_cases hlt : k < n
        · have wk : IntKind.i64.wrap ((k : Int) + 2 + 1) = (k : Int) + 1 + 2 := by rw [IntWalk.i64_in _ (by omega)]; omega
          obtain ⟨E2, hs, star2⟩ := star_bind star hlt
          go_wp2_with fail
          refine (bd_bind B (id := (k : Int) + 2) (tt := 1) (by unfold I64; omega) (by unfold I64; omega) hs).mono ?_
          rintro e x3 ⟨rfl, S3, B3, k3⟩
          obtain ⟨D3, dj3⟩ := two_step B D dj k3
          clear B D dj k3 hs star
          go_wp2_with fail
          refine (bd_bind D3 (id := 1) (tt := (k : Int) + 2) (by unfold I64; omega) (by unfold I64; omega) (fan_bind hlt)).mono ?_
          rintro e x4 ⟨rfl, T4, D4, k4⟩
          obtain ⟨B4, dj4⟩ := two_step D3 B3 (fun g a b => dj3 g b a) k4
          clear B3 D3 dj3 k4
          go_wp2_with fail
          go_roundg (n - (k + 1))
          case measure => omega
          case rel => exact ⟨k + 1, by omega, S3, T4, E2, by omega, by go_num, star2, B4, D4, fun g a b => dj4 g b a⟩
        · obtain rfl : k = n := by omega
          clear kN hgk
          have o0 := fan_all k
          obtain ⟨zs, ez⟩ : ∃ zs, among (fun x => 2 ≤ x ∧ x ∉ ([] : List Int)) (k + 1) = zs := ⟨_, rfl⟩
          have sg := star_good star
          have sb := star_bad star
          rw [ez] at sg sb
          have wn2 : IntKind.i64.wrap (k : Int) = (k : Int) := IntWalk.i64_in _ (by omega)
          go_upto_if 63 with fail
          go_cut [11, 12] from 63 to 88 (fun uv ev wx => ev = .int .i64 0 ∧ ∃ S T u0 s1 B0, uv = u0 ∧ OwnN B0 wx u0 zs ∧ Bd w wx p S s1 ∧ Bd w wx q T (upTo (k + 1) (fanF []) (fanE k)) ∧ s1.st 2 = if well then 1 else 2)
          case first =>
            cases well
            · go_wp2_with fail
              refine (bd_bad B (id := 1) (by unfold I64; omega) sb).mono ?_
              rintro e x3 ⟨u3, rfl, o3, S3, B3, k3⟩
              obtain ⟨D3, dj3⟩ := two_step B D dj k3
              clear B D dj k3
              go_wp2_with fail
              go_meet
              case rel => exact ⟨rfl, S3, T, u3, _, _, rfl, o3, B3, D3, star_ill star (by omega)⟩
            · go_wp2_with fail
              refine (bd_good B (id := 1) (by unfold I64; omega) sg).mono ?_
              rintro e x3 ⟨u3, rfl, o3, S3, B3, k3⟩
              obtain ⟨D3, dj3⟩ := two_step B D dj k3
              clear B D dj k3
              go_wp2_with fail
              go_meet
              case rel => exact ⟨rfl, S3, T, u3, _, _, rfl, o3, B3, D3, star_well (by omega)⟩
          case rest =>
          clear B D dj sg sb star
          obtain ⟨rfl, S, T, u0, s1, B0, rfl, o, B, D, s2⟩ := hcut
          obtain ⟨A, c, rfl, _, _⟩ := OwnN.out o
          rw [← ez, o0]
          obtain ⟨y, ey⟩ : ∃ y, s1.st 2 = y := ⟨_, rfl⟩
          have hy : (y == 1) = well := by rw [← ey, s2]; cases well <;> rfl
          have sx := bd_state B (id := 2) (by unfold I64; omega)
          rw [ey] at sx
          clear B o s2 ey ez
          go_wp2_with fail
          refine sx.mono ?_
          rintro e x6 ⟨rfl, rfl⟩
          clear sx
          go_wp2_with fail
          go_loopg [13, 14, 15, 16] k (fun mm i k2 m f wr => ∃ j : Nat, mm + j = k ∧ Rel3 w q k t j i wr)
          case atStart => exact ⟨0, by omega, T, [], by omega, rfl, Done.none, by omega, D⟩
          case round =>
            clear D o0
            obtain ⟨j, hgj, T, L, jk, rfl, dn, hl, D⟩ := hrel
            by_cases hlt : j < k
            · obtain ⟨r, er⟩ : ∃ r, (j + t) % k = r := ⟨_, rfl⟩
              have rk : r < k := by rw [← er]; exact Nat.mod_lt _ (by omega)
              have fresh := dn.fresh hlt
              have next := dn.next
              rw [er] at fresh next
              have wt : IntKind.i64.wrap ((j : Int) + (t : Int)) = (j : Int) + (t : Int) := IntWalk.i64_in _ (by omega)
              have e2 : ((j : Int) + (t : Int)) % (k : Int) = (r : Int) := by rw [← er]; simp
              have e3 : ((j : Int) + (t : Int)).tmod (k : Int) = (r : Int) := by rw [Int.tmod_eq_emod_of_nonneg (by omega)]; exact e2
              have wr2 : IntKind.i64.wrap ((r : Int) + 2) = (r : Int) + 2 := IntWalk.i64_in _ (by omega)
              have wj : IntKind.i64.wrap ((j : Int) + 1) = (j : Int) + 1 := IntWalk.i64_in _ (by omega)
              have wkj : IntKind.i64.wrap ((k : Int) - (j : Int)) = ((k - j : Nat) : Int) := by rw [IntWalk.i64_in _ (by omega)]; omega
              have sx := bd_waits D (id := 1) (by unfold I64; omega)
              rw [fan_waits1, show (among (fun x => 2 ≤ x ∧ x ∉ L) (k + 1)).length = k - j from by omega] at sx
              have gd := fan_good (n := k) (L := L) (k := (r : Int) + 2) (by omega) (by omega) fresh dn.one
              have lf := fan_left (n := k) (L := L) (k := (r : Int) + 2) (by omega) (by omega) fresh
              have ls := fan_last (n := k) (L := L) (k := (r : Int) + 2) (by omega) (by omega) fresh
              have ls : among (fun x => 2 ≤ x ∧ x ∉ L) (k + 1) = [(r : Int) + 2] ↔ j + 1 = k := ls.trans (by omega)
              obtain ⟨ms, em⟩ : ∃ ms, ms = (if among (fun x => 2 ≤ x ∧ x ∉ L) (k + 1) = [(r : Int) + 2] then [(1 : Int)] else []) := ⟨_, rfl⟩
              rw [← em] at gd
              have gl : ms.length = if j + 1 = k then 1 else 0 := by
                by_cases q : j + 1 = k
                · rw [em, if_pos q, if_pos (ls.2 q)]; rfl
                · rw [em, if_neg q, if_neg (fun h => q (ls.1 h))]; rfl
              clear em
              clear ls dn fresh
              go_wp2_with fail
              refine sx.mono ?_
              rintro e x7 ⟨rfl, k7⟩
              have D := D.later k7
              clear sx k7
              go_wp2_with fail
              refine (bd_good D (id := (r : Int) + 2) (by unfold I64; omega) gd).mono ?_
              rintro e x8 ⟨u8, rfl, o8, T8, D8, _⟩
              clear D gd
              obtain ⟨A8, c8, rfl, _, _⟩ := OwnN.out o8
              rw [gl]
              clear o8 gl
              by_cases hz : j + 1 = k
              · rw [if_pos hz]
                have hz2 : (j : Int) + 1 = (k : Int) := by omega
                go_wp2_with fail
                go_roundg (k - (j + 1))
                case measure => omega
                case rel => exact ⟨j + 1, by omega, T8, _, by omega, by rw [hz], next, by omega, D8⟩
              · rw [if_neg hz]
                have hz2 : ((j : Int) + 1 == (k : Int)) = false := by simp; omega
                go_wp2_with fail
                go_roundg (k - (j + 1))
                case measure => omega
                case rel => exact ⟨j + 1, by omega, T8, _, by omega, rfl, next, by omega, D8⟩
            · obtain rfl : j = k := by omega
              obtain ⟨l9, s9, hs⟩ := fan_end (n := j) dn.one (by omega)
              go_wp2_with fail
              refine (bd_good D (id := 1) (by unfold I64; omega) hs).mono ?_
              rintro e x8 ⟨u8, rfl, o8, T8, D8, _⟩
              clear D o8
              have bl := D8.below
              have aw := awake16_any (hTab.on bl)
              have BL := Lib.hid bl
              clear D8 bl
              go_wp2_with fail
              refine aw.mono ?_
              rintro e wz ⟨rfl, bz⟩
              have BZ := Lib.hid (BL.out.trans (bz.mono BL.out.size))
              clear aw bz
              go_wp2
              go_ret
              exact ⟨rfl, BZ.out⟩
theorem own : ownKnob Tryd.prog.godebug = none := by kernel_rfl
theorem laidOut : laidOutB Tryd.prog = true := by kernel_rfl
set_option maxRecDepth 100000 in
theorem lifted (os : Os) (started : os.Started) (H : Type) (enc : TypeId × Value → H) :
    ReturnsInHanded {} Tryd.checked os 9 .any (fun w args => (Rows.bondFansSpec.pre enc Tryd.prog Tryd.f9 [] false w args ∧ laidMetH Tryd.prog lay1 w) ∧ sizedMet enc Tryd.prog Tryd.f9 (OpenSpec.ofChange Rows.bondFansSpec) false w args) (Rows.bondFansSpec.post enc Tryd.prog Tryd.f9 false true false false) := by
  refine returnsInHanded_of_change_and (C := Tryd.checked) (X := fun w _ => laidMetH Tryd.prog lay1 w) (fun _ _ _ hh h => h.of_heap hh) own started (by kernel_rfl) Tryd.func9
    (ChangeSpec.witness_shaped (enc := enc) (C := Tryd.checked) (os := os) (X := fun w _ => laidMetH Tryd.prog lay1 w) false (World.doorLaid Tryd.prog 14 os) #[.int .i64 0, .bool false, .int .i64 0] 8 rfl (World.shaped_of_RefB (by kernel_rfl) (by kernel_rfl)) (by kernel_rfl) (by kernel_rfl) (by kernel_rfl) (door_met os _)) ?_
  intro W base args ds gs before hval0 hW _ _ hL _
  have hTab := of_laid hL
  have hval : ∀ (j : Nat) t v, Tryd.f9.params[j]? = some t → args[j]? = some v → Value.okWide Tryd.prog W .any base t v := hval0
  have hW' := hW
  obtain ⟨p, q, hA0, hV, rfl, hfz, hnd⟩ := hW
  have hA : DataW.TrodAll enc Tryd.prog W 0 (fun _ => true) true Tryd.f9.params.toList args.toList ds p := hA0
  rw [Tryd.params9] at hA hval
  obtain ⟨v0, vs0, d0, ds0, p0, q0, hargs, rfl, rfl, h0, r0⟩ := trodAll_cons hA
  obtain ⟨v1, vs1, d1, ds1, p1, q1, rfl, rfl, rfl, h1, r1⟩ := trodAll_cons r0
  obtain ⟨v2, vs2, d2, ds2, p2, q2, rfl, rfl, rfl, h2, r2⟩ := trodAll_cons r1
  obtain ⟨rfl, rfl, rfl⟩ := trodAll_nil r2
  obtain rfl : args = #[v0, v1, v2] := by cases args; simp_all
  obtain ⟨rfl, rfl⟩ := trodVars_none hV
  obtain ⟨a0, rfl, rfl, rfl, w0⟩ := open_int Tryd.underlying3 (hval 0 3 v0 rfl rfl) h0
  obtain ⟨a1, rfl, rfl, rfl⟩ := open_bool Tryd.underlying4 (hval 1 4 v1 rfl rfl) h1
  obtain ⟨a2, rfl, rfl, rfl, w2⟩ := open_int Tryd.underlying3 (hval 2 3 v2 rfl rfl) h2
  clear hA0 hval0
  refine (walk a0 a1 a2 W w0 w2 hTab).mono fun e W' ⟨he, bel⟩ => ?_
  subst he
  exact ⟨_, rfl, _, _, _, [], _, [], hW', trodAll_mk1 (shut_bool Tryd.underlying4 _), (trodAll_cons_mk (shut_int Tryd.underlying3 w0) (trodAll_cons_mk (shut_bool Tryd.underlying4 _) (trodAll_cons_mk (shut_int Tryd.underlying3 w2) trodAll_mk0))), rfl, bel.frame _, fun h => by cases h⟩
theorem over : Rows.bondFansRow.holds Tryd.pinned (OpenSpec.ofChange Rows.bondFansSpec) :=
  OpenClaim.holds_of_wide 9 Tryd.f9 rfl rfl rfl rfl rfl rfl rfl ⟨rfl, rfl, rfl, rfl, rfl⟩ rfl rfl rfl rfl rfl (by kernel_rfl) Tryd.func9 (by kernel_rfl)
    (of_decide_eq_true (by kernel_rfl)) (by unfold Func.isWrapper; first | (rw [if_pos (by decide +kernel)]; kernel_rfl) | (rw [if_neg (by decide +kernel)]; exact ⟨rfl, rfl⟩))
    (fun os started H enc _ => lifted os started H enc)
theorem proved : Rows.BondFansCardSaid :=
  Claim7.holds_tied_plain_at .later [] [.data] true _ false over (fun _ h => by cases h) (by kernel_rfl) (fun _ h => by cases h) bondFans_row_tie rfl ⟨rfl, rfl⟩ (by kernel_rfl) rfl
    (fun f fn hf hfn => by
      obtain rfl : f = 9 := Option.some.inj ((show Tryd.prog.funcNamed "vinculum/vinculumlaw16.BondFans" = some 9 by kernel_rfl).symm.trans hf) |>.symm
      obtain rfl : fn = Tryd.f9 := (Option.some.inj (Tryd.func9.symm.trans hfn)).symm
      exact ⟨by kernel_rfl, fun j t ht => by
        rw [Tryd.params9] at ht
        have hm := Array.mem_of_getElem? ht
        have hall : (Tryd.f9.params.toList.all fun u => !Tryd.prog.wantsStandIn u) = true := by kernel_rfl
        rw [Tryd.params9] at hall
        exact (show Tryd.prog.wantsStandIn t = false by simpa using List.all_eq_true.1 hall t (by simpa using hm))⟩)
    (by kernel_rfl)
end Go.Proofs.YtjobphjpfknfeaaDoor.bondFans
