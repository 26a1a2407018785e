/- For JudgeAll: its closures, that tell what is there now; they only read. Conditions: the slices that came in lie behind their boxes. -/
import Derived.Test.YtndpifkpgoeogaaJaI
import Derived.Test.YtndpifkpgoeogaaJuD
import Derived.Test.YtndpifkpgoeogaaJmB
import Derived.Test.YtndpifkpgoeogaaRefJ
import Derived.Test.YtndpifkpgoeogaaSameN
import Derived.Test.YtndpifkpgoeogaaRow
import Derived.Test.YtndpifkpgoeogaaApp
import Derived.Laws.BitsAllLaws
namespace Go.Proofs.Ytndpifkpgoeogaa.judgeAll
open Go.ChangeShapes Go.WideShapes Go.ChangeAt Go.RowKit
set_option linter.unusedVariables false
section
variable {W w w' y : World} {nb sb t : Nat} {S S' : Nat → Prop} {s s' : RdS} {zn zs : List Int}
set_option maxRecDepth 100000 in
set_option maxHeartbeats 2000000 in
theorem nowa_clo {An : Option Addr} {cn : Nat} (cN : w.cell? ⟨nb, 0, none⟩ = some (.slice An zn.length cn)) (hz : Lies w (.slice An zn.length cn) zn) (un : ∀ j, j < zn.length → U64 (zn.getD j 0)) (hl : zn.length ≤ 9223372036854775807) (k : Nat) (hk : k ≤ 63) :
    Calls Try.prog 25 #[.int .i64 k, .pointer (some ⟨nb, 0, none⟩)] w fun e w' => e = .returned (.int .u64 (nowA zn k)) ∧ ∃ d, w' = w.drewN d := by
  have HZ := Lib.hid hz
  have UN := Lib.hid un
  obtain ⟨N, eN⟩ : ∃ N, zn.length = N := ⟨_, rfl⟩
  have EN := Lib.hid eN
  rw [eN] at cN hl
  by_cases hN : N = 0
  · subst hN
    have F := Lib.hid (show nowA zn k = 0 by unfold nowA; rw [if_pos eN])
    clear hz eN un
    go_enter Try.func25, Try.ntmps25
    go_wp2
    go_ret
    exact ⟨by rw [F.out]; rfl, 0, rfl⟩
  · have F := Lib.hid (show nowA zn (k : Int) = zn.getD ((k : Int).toNat % N) 0 % 4 by unfold nowA; rw [if_neg (by omega), eN])
    have n0 : ((N : Int) == 0) = false := by simp; exact hN
    have n1 : ¬ (N : Int) = 0 := by omega
    obtain ⟨r, er⟩ : ∃ r, k % N = r := ⟨_, rfl⟩
    have hr : r < N := by rw [← er]; exact Nat.mod_lt _ (by omega)
    have er1 : (k : Int).tmod (N : Int) = (r : Int) := by rw [Int.tmod_eq_emod_of_nonneg (by omega), ← er]; simp
    have mk : bits .and .i64 (k : Int) 255 = (k : Int) := (i64_mask (k : Int) 8 (by decide)).trans (by omega)
    obtain ⟨A2, c2, e2, hc2, hf2⟩ := HZ.out
    cases e2
    obtain ⟨bn, off, rfl, _, hcell⟩ := hf2 (by rw [EN.out]; omega)
    have cr := hcell r (by rw [EN.out]; exact hr)
    have ur := UN.out r (by rw [EN.out]; exact hr)
    have F := F.out
    have ex : zn.getD ((k : Int).toNat % N) 0 = zn.getD r 0 := by rw [Int.toNat_natCast, er]
    rw [ex] at F
    obtain ⟨x, exx⟩ : ∃ x, zn.getD r 0 = x := ⟨_, rfl⟩
    rw [exx] at cr ur F
    have F := Lib.hid F
    have m3 : bits .and .u64 x 3 = x % 4 := u64_maskP 2 (by decide) x ur.1 ur.2
    clear hcell hf2 er ex exx hz un eN
    go_enter Try.func25, Try.ntmps25
    go_wp2_with fail
    go_quiet (fail)
    go_wp2
    go_ret
    exact ⟨by rw [F.out]; rfl, _, rfl⟩
/-- A part of the slice that came in. -/
def spV (A : Option Addr) (c p e : Nat) : Value := .slice (if c = p then A else A.map (·.add p)) (e - p) (c - p)
def loP (zs : List Int) (lo : Nat) : Nat := min (lo % 8) zs.length
def hiP (zs : List Int) (lo hi : Nat) : Nat := min (loP zs lo + hi % 4) zs.length
theorem spA_eq (lo hi : Nat) : spA zs lo hi = (zs.take (hiP zs lo hi)).drop (loP zs lo) := by unfold spA hiP loP; simp
theorem spa_lies {As : Option Addr} {cs : Nat} (hz : Lies w (.slice As zs.length cs) zs) (lo hi : Nat) : Lies w (spV As cs (loP zs lo) (hiP zs lo hi)) (spA zs lo hi) := by
  have hp : loP zs lo ≤ zs.length := by unfold loP; omega
  have he : hiP zs lo hi ≤ zs.length := by unfold hiP; omega
  rw [spA_eq]
  obtain ⟨p, ep⟩ : ∃ p, loP zs lo = p := ⟨_, rfl⟩
  obtain ⟨e, ee⟩ : ∃ e, hiP zs lo hi = e := ⟨_, rfl⟩
  rw [ep] at hp ⊢
  rw [ee] at he ⊢
  obtain ⟨A, c, e2, hc, hf⟩ := hz
  cases e2
  have hl : ((zs.take e).drop p).length = e - p := by rw [List.length_drop, List.length_take]; omega
  refine ⟨if cs = p then As else As.map (·.add p), cs - p, by rw [hl]; rfl, by rw [hl]; omega, fun h0 => ?_⟩
  rw [hl] at h0
  obtain ⟨b, off, rfl, hb, hcl⟩ := hf (by omega)
  refine ⟨b, off + p, by rw [if_neg (by omega)]; simp [Addr.add], hb, fun j hj => ?_⟩
  rw [hl] at hj
  have := hcl (p + j) (by omega)
  rw [Nat.add_assoc, this, List.getD_eq_getElem?_getD, List.getD_eq_getElem?_getD, List.getElem?_drop, List.getElem?_take_of_lt (by omega)]
set_option maxRecDepth 100000 in
set_option maxHeartbeats 2000000 in
theorem spa_clo {As : Option Addr} {cs : Nat} (cS : w.cell? ⟨sb, 0, none⟩ = some (.slice As zs.length cs)) (hz : Lies w (.slice As zs.length cs) zs) (hl : zs.length ≤ 100) (lo hi : Nat) (h1 : lo ≤ 63) (h2 : hi ≤ 63) :
    Calls Try.prog 26 #[.int .i64 lo, .int .i64 hi, .pointer (some ⟨sb, 0, none⟩)] w fun e w' => e = .returned (spV As cs (loP zs lo) (hiP zs lo hi)) ∧ w' = w := by
  have hc : zs.length ≤ cs := by
    obtain ⟨A, c, e2, hc, hf⟩ := hz
    cases e2
    exact hc
  unfold hiP loP
  obtain ⟨p, ep⟩ : ∃ p, lo % 8 = p := ⟨_, rfl⟩
  obtain ⟨q, eq⟩ : ∃ q, hi % 4 = q := ⟨_, rfl⟩
  have m1 : bits .and .i64 (lo : Int) 7 = (p : Int) := (i64_mask (lo : Int) 3 (by decide)).trans (by omega)
  have m2 : bits .and .i64 (hi : Int) 3 = (q : Int) := (i64_mask (hi : Int) 2 (by decide)).trans (by omega)
  rw [ep, eq]
  obtain ⟨N, eN⟩ : ∃ N, zs.length = N := ⟨_, rfl⟩
  rw [eN] at cS hl hc ⊢
  clear hz eN
  have p8 : p < 8 := by omega
  have q4 : q < 4 := by omega
  clear ep eq
  by_cases hp : N < p
  · have e1 : min p N = N := by omega
    have e2 : min (N + q) N = N := by omega
    rw [e1, e2]
    by_cases hq : q = 0
    · subst hq
      by_cases hn : cs = N
      all_goals
        have F := Lib.hid hn
        go_enter Try.func26, Try.ntmps26
        go_wp2
        go_ret
        exact ⟨by unfold spV; have := F.out; simp [this], rfl⟩
    · have hq2 : (N : Int) < (N : Int) + (q : Int) := by omega
      by_cases hn : cs = N
      all_goals
        have F := Lib.hid hn
        go_enter Try.func26, Try.ntmps26
        go_wp2
        go_ret
        exact ⟨by unfold spV; have := F.out; simp [this], rfl⟩
  · have e1 : min p N = p := by omega
    rw [e1]
    have wq : IntKind.i64.wrap ((p : Int) + (q : Int)) = (p : Int) + (q : Int) := IntWalk.i64_in _ (by omega)
    by_cases hq : N < p + q
    · have e2 : min (p + q) N = N := by omega
      rw [e2]
      have hq2 : (N : Int) < (p : Int) + (q : Int) := by omega
      by_cases hn : cs = p
      all_goals
        have F := Lib.hid hn
        go_enter Try.func26, Try.ntmps26
        go_wp2
        go_ret
        exact ⟨by unfold spV; have := F.out; simp [this], rfl⟩
    · have e2 : min (p + q) N = p + q := by omega
      rw [e2]
      have hq2 : ¬ (N : Int) < (p : Int) + (q : Int) := by omega
      have le : p + q ≤ cs := by omega
      by_cases hn : cs = p
      all_goals
        have F := Lib.hid hn
        go_enter Try.func26, Try.ntmps26
        go_wp2
        go_ret
        exact ⟨by unfold spV; have := F.out; simp [this], rfl⟩
theorem nowA_u64 (un : ∀ j, j < zn.length → U64 (zn.getD j 0)) (k : Int) : U64 (nowA zn k) := by
  unfold nowA
  split
  · exact ⟨by omega, by omega⟩
  · have := (un (k.toNat % zn.length) (Nat.mod_lt _ (by omega))).1
    exact ⟨by omega, by omega⟩
theorem isNowA {An : Option Addr} {cn : Nat} {S : Nat → Prop} (lN : nb < W.heap.size) (cN : W.cell? ⟨nb, 0, none⟩ = some (.slice An zn.length cn)) (hz : Lies W (.slice An zn.length cn) zn) (un : ∀ j, j < zn.length → U64 (zn.getD j 0)) (hl : zn.length ≤ 9223372036854775807) :
    IsNow (.func (.func 25) #[] #[.pointer (some ⟨nb, 0, none⟩)]) W t s (fun _ _ => True) (nowA zn) := by
  refine ⟨.inr ⟨_, _, rfl, fun a w => rfl, fun k w S h0 h1 h _ => ?_⟩, fun k _ _ => nowA_u64 un k⟩
  obtain ⟨n, rfl⟩ : ∃ n : Nat, k = n := ⟨k.toNat, by omega⟩
  refine (nowa_clo ((h.b.cell (p := ⟨nb, 0, none⟩) lN).trans cN) (Lies.below h.b hz) un hl n (by omega)).mono ?_
  rintro e w' ⟨rfl, d, rfl⟩
  exact ⟨rfl, h.idle (drewN_keep _ _ _)⟩
theorem isSpnA {As : Option Addr} {cs : Nat} (lS : sb < W.heap.size) (cS : W.cell? ⟨sb, 0, none⟩ = some (.slice As zs.length cs)) (hz : Lies W (.slice As zs.length cs) zs) (hl : zs.length ≤ 100) :
    IsSpn (.func (.func 26) #[] #[.pointer (some ⟨sb, 0, none⟩)]) W t s (fun _ _ => True) (spA zs) := by
  refine ⟨.inr ⟨_, _, rfl, fun a w => rfl, fun lo hi w S h0 h1 h2 h _ => ?_⟩, fun a b => ?_⟩
  · obtain ⟨m, rfl⟩ : ∃ n : Nat, lo = n := ⟨lo.toNat, by omega⟩
    obtain ⟨n, rfl⟩ : ∃ n : Nat, hi = n := ⟨hi.toNat, by omega⟩
    have HZ := Lies.below h.b hz
    refine (spa_clo ((h.b.cell (p := ⟨sb, 0, none⟩) lS).trans cS) HZ hl m n (by omega) (by omega)).mono ?_
    rintro e w' ⟨rfl, rfl⟩
    exact ⟨_, S, rfl, spa_lies HZ m n, h, Keep.refl _ _, fun j hj => .inl hj⟩
  · unfold spA
    rw [List.length_drop, List.length_take]
    omega
end
end Go.Proofs.Ytndpifkpgoeogaa.judgeAll
