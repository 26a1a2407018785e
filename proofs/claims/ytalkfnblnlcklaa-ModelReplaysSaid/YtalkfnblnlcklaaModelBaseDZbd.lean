/- Layer 19's statements: what they share: get, pair, awake, SamePairs, SameResult. -/
import Derived.Test.YtalkfnblnlcklaaModelBaseDZba
import Derived.Test.YtalkfnblnlcklaaModelBaseDZbb
import Derived.Test.YtalkfnblnlcklaaModelBaseDZan
import Derived.Test.YtalkfnblnlcklaaModelBaseDZbc
import Derived.Deep.LoopGhost
import Derived.Deep.QuietTactic
import Derived.BigQuiet
namespace Go.Proofs.Ytalkfnblnlcklaa
open Go.ChangeShapes Go.WideShapes Go.ChangeAt Go.RowKit
set_option linter.unusedVariables false
/-- A number's low byte, by three. -/
theorem lev (a : Int) : ∃ q m : Int, bits .and .i64 a 255 = q ∧ q.tmod 3 = m ∧ q % 3 = m ∧ 0 ≤ m ∧ m ≤ 2 ∧ 0 ≤ q ∧ q ≤ 255 ∧ IntKind.i64.wrap m = m ∧ IntKind.i64.wrap (m + 1) = m + 1 := by
 have h := i64_mask a 8 (by decide)
 have q0 : 0 ≤ a % 256 := Int.emod_nonneg _ (by decide)
 have q1 : a % 256 < 256 := Int.emod_lt_of_pos _ (by decide)
 exact ⟨a % 256, (a % 256) % 3, h, Int.tmod_eq_emod_of_nonneg q0, rfl, by omega, by omega, q0, by omega, IntWalk.i64_in _ (by omega), IntWalk.i64_in _ (by omega)⟩
theorem levN (a M m : Int) (h0 : 0 < M) (h1 : M ≤ 256) (hm : a % 256 % M = m) : ∃ q : Int, bits .and .i64 a 255 = q ∧ q.tmod M = m ∧ q % M = m ∧ 0 ≤ m ∧ m < M ∧ 0 ≤ q ∧ q ≤ 255 ∧ IntKind.i64.wrap m = m ∧ IntKind.i64.wrap (m + 1) = m + 1 := by
 have h := i64_mask a 8 (by decide)
 have q0 : 0 ≤ a % 256 := Int.emod_nonneg _ (by decide)
 have q1 : a % 256 < 256 := Int.emod_lt_of_pos _ (by decide)
 have r0 := Int.emod_nonneg (a % 256) (show M ≠ 0 by omega)
 have r1 := Int.emod_lt_of_pos (a % 256) h0
 exact ⟨a % 256, h, (Int.tmod_eq_emod_of_nonneg q0).trans hm, hm, by omega, by omega, q0, by omega, IntWalk.i64_in _ (by omega), IntWalk.i64_in _ (by omega)⟩
theorem i64_0 : I64 0 := ⟨by decide, by decide⟩
theorem opb_key (kind key : Int) (h : I64 key) (hk : 0 ≤ kind ∧ kind ≤ 7) : OpB ⟨kind, key, 0, 0⟩ := ⟨by unfold I64; show _ ≤ kind ∧ kind ≤ _; omega, h, i64_0, i64_0⟩
section
variable {W w w' : World} {m : Nat} {S S' T : Nat → Prop} {x y : MoI}
theorem Md.post {S1 : Nat → Prop} {w1 : World} {e : Ending} {v : Value} (M1 : Md W w1 m S1 y) (k1 : VKeep S S1 w w1) (k : Keep (fun _ => False) w1 w') (he : e = .returned v) : MdPost W w m S v y e w' :=
 ⟨he, S1, M1.quiet k, k1.1.trans (k.mono fun _ e => e.elim), k1.2⟩
/-- A statement's end: what comes behind it makes memory alone. -/
theorem Md.fin (M1 : Md W w m S x) {w1 w2 : World} (b : Below w1.heap.size w1 w2) (k : Keep (fun _ => False) w w1 := by repeat (first | exact Keep.refl _ _ | refine Keep.alloc ?_ _)) : Below W.heap.size W w2 :=
 (M1.quiet k).b.trans (b.mono (M1.quiet k).b.size)
/-- What get tells. -/
def getI (x : MoI) (s key : Int) : Int := if x.doE s ⟨1, key, 0, 0⟩ = 0 ∧ (x.doR s ⟨1, key, 0, 0⟩).e = 0 then (x.doR s ⟨1, key, 0, 0⟩).val else -1
theorem i64_n {n : Int} (h : -9223372036854775808 ≤ n ∧ n ≤ 9223372036854775807) : I64 n := h
/-- Do, its call and its answer part by part. -/
def MdRes (W w : World) (m : Nat) (S : Nat → Prop) (e0 ve vv : Int) (l : List (Int × Int)) (vo vr : Int) (y : MoI) (e : Ending) (w' : World) : Prop :=
 ∃ A q c S', e = .returned (.tuple #[.agg #[.int .i64 ve, .int .i64 vv, .slice A q c, .int .i64 vo, .int .i64 vr], .int .i64 e0]) ∧ OwnPr w' (.slice A q c) l ∧ (∀ g, (Value.slice A q c).ownBlock = some g → w.heap.size ≤ g ∧ ¬ S' g) ∧ Md W w' m S' y ∧ VKeep S S' w w'
theorem md_res (h : Md W w m S x) (s kind key hi val : Int) (hs : I64 s) (h1 : I64 kind) (h2 : I64 key) (h3 : I64 hi) (h4 : I64 val) (e0 ve vv : Int) (l : List (Int × Int)) (vo vr : Int) (y : MoI) (he : x.doE s ⟨kind, key, hi, val⟩ = e0) (hr : x.doR s ⟨kind, key, hi, val⟩ = ⟨ve, vv, l, vo, vr⟩) (hy : x.doM s ⟨kind, key, hi, val⟩ = y) :
  Calls Try.prog 19 #[.pointer (some ⟨m, 0, none⟩), .int .i64 s, .agg #[.int .i64 kind, .int .i64 key, .int .i64 hi, .int .i64 val]] w (MdRes W w m S e0 ve vv l vo vr y) := by
 refine (md_do h s ⟨kind, key, hi, val⟩ hs ⟨h1, h2, h3, h4⟩ _ e0 y hr he hy).mono ?_
 rintro e w1 ⟨u, S1, rfl, o1, n1, M1, k1⟩
 obtain ⟨A, q, c, rfl⟩ := ownPr_shape o1
 exact ⟨A, q, c, S1, rfl, o1, n1, M1, k1⟩
/-- A result in a box of its own. -/
structure Box (w : World) (S : Nat → Prop) (N : Nat) (ve vv vo vr : Int) : Prop where
 a : w.cell? ⟨N, 0, none⟩ = some (.int .i64 ve)
 b : w.cell? ⟨N, 1, none⟩ = some (.int .i64 vv)
 c : w.cell? ⟨N, 3, none⟩ = some (.int .i64 vo)
 d : w.cell? ⟨N, 4, none⟩ = some (.int .i64 vr)
 z : N < w.heap.size
 s : ¬ S N
theorem md_box {w w' : World} {S S' : Nat → Prop} {A : Option Addr} {q c : Nat} {ve vv vo vr : Int} (hl : ∀ k, S k → k < w.heap.size) (k : VKeep S S' (w.alloc (.cells #[.int .i64 ve, .int .i64 vv, .slice A q c, .int .i64 vo, .int .i64 vr] 65)) w') :
  Box w' S' w.heap.size ve vv vo vr := by
 have nS : ¬ S w.heap.size := fun e => absurd (hl _ e) (Nat.lt_irrefl _)
 have sz := k.1.size
 rw [World.size_alloc] at sz
 refine ⟨k.1.cell (by simp) nS, k.1.cell (by simp) nS, k.1.cell (by simp) nS, k.1.cell (by simp) nS, by omega, fun e => ?_⟩
 rcases k.2 _ e with d | d
 ·exact nS d
 ·rw [World.size_alloc] at d; omega
theorem Box.next {w W w' : World} {S S' : Nat → Prop} {N : Nat} {ve vv vo vr : Int} (h : Box w S N ve vv vo vr) (k : VKeep S S' W w') (K : Keep (fun _ => False) w W := by repeat (first | exact Keep.refl _ _ | refine Keep.alloc ?_ _)) : Box w' S' N ve vv vo vr := by
 have K2 := (K.mono fun _ e => e.elim : Keep S w W).trans k.1
 have sz := K.size
 have z := h.z
 refine ⟨K2.cell h.a h.s, K2.cell h.b h.s, K2.cell h.c h.s, K2.cell h.d h.s, Nat.lt_of_lt_of_le h.z K2.size, fun e => ?_⟩
 rcases k.2 _ e with d | d
 ·exact h.s d
 ·omega
/-- A call in a box of its own. -/
structure Box4 (w : World) (S : Nat → Prop) (N : Nat) (v0 v1 v2 v3 : Int) : Prop where
 a : w.cell? ⟨N, 0, none⟩ = some (.int .i64 v0)
 b : w.cell? ⟨N, 1, none⟩ = some (.int .i64 v1)
 c : w.cell? ⟨N, 2, none⟩ = some (.int .i64 v2)
 d : w.cell? ⟨N, 3, none⟩ = some (.int .i64 v3)
 z : N < w.heap.size
 s : ¬ S N
theorem Box4.next {w W w' : World} {S S' : Nat → Prop} {N : Nat} {v0 v1 v2 v3 : Int} (h : Box4 w S N v0 v1 v2 v3) (k : VKeep S S' W w') (K : Keep (fun _ => False) w W := by repeat (first | exact Keep.refl _ _ | refine Keep.alloc ?_ _)) : Box4 w' S' N v0 v1 v2 v3 := by
 have K2 := (K.mono fun _ e => e.elim : Keep S w W).trans k.1
 have sz := K.size
 have z := h.z
 refine ⟨K2.cell h.a h.s, K2.cell h.b h.s, K2.cell h.c h.s, K2.cell h.d h.s, Nat.lt_of_lt_of_le h.z K2.size, fun e => ?_⟩
 rcases k.2 _ e with d | d
 ·exact h.s d
 ·omega
theorem cell4 (w : World) (o1 o2 o3 : Obj) (c : Array Value) (t : TypeId) (i : Nat) : ((((w.alloc o1).alloc o2).alloc o3).alloc (.cells c t)).cell? ⟨w.heap.size + 1 + 1 + 1, i, none⟩ = c[i]? := by
 have e : w.heap.size + 1 + 1 + 1 = (((w.alloc o1).alloc o2).alloc o3).heap.size := by rw [World.size_alloc, World.size_alloc, World.size_alloc]
 obtain ⟨v, ev⟩ : ∃ v, ((w.alloc o1).alloc o2).alloc o3 = v := ⟨_, rfl⟩
 rw [e, ev]
 simp
theorem md_op {w w' : World} {S S' : Nat → Prop} {o1 o2 o3 : Obj} {t : TypeId} {v0 v1 v2 v3 : Int} (hl : ∀ k, S k → k < w.heap.size) (k : VKeep S S' ((((w.alloc o1).alloc o2).alloc o3).alloc (.cells #[.int .i64 v0, .int .i64 v1, .int .i64 v2, .int .i64 v3] t)) w') : Box4 w' S' (w.heap.size + 1 + 1 + 1) v0 v1 v2 v3 :=
 Box4.next (S := S) ⟨cell4 _ _ _ _ _ _ 0, cell4 _ _ _ _ _ _ 1, cell4 _ _ _ _ _ _ 2, cell4 _ _ _ _ _ _ 3, by rw [World.size_alloc, World.size_alloc, World.size_alloc, World.size_alloc]; omega, fun e => by have := hl _ e; omega⟩ k (Keep.refl _ _)
theorem ownPr_len {w : World} {u : Value} {l : List (Int × Int)} (h : OwnPr w u l) : ∃ A c, u = .slice A l.length c := by
 rcases OwnM.form h with ⟨rfl, rfl⟩ | ⟨g, c, rfl, _⟩
 ·exact ⟨_, _, rfl⟩
 ·exact ⟨_, _, rfl⟩
set_option maxRecDepth 100000 in
theorem awake19_any (w : World) : Calls Try.prog 8 #[] w fun e w' => e = .returned (.bool true) ∧ Below w.heap.size w w' := by
 go_enter Try.func8, Try.ntmps8
 go_wp2_with fail
 refine (md_new w 4 100 (i64_n (by omega)) ⟨by omega, by omega⟩ rfl).mono ?_
 rintro e w1 ⟨m, S1, rfl, M1⟩
 go_wp2_with fail; refine (md_begin (M1.quiet (by repeat (first | exact Keep.refl _ _ | refine Keep.alloc ?_ _))) 0 3 (i64_n (by omega)) (i64_n (by omega)) 1 0 ((new0 4 100).beg 0 3) rfl rfl rfl).mono ?_; rintro e w2 ⟨rfl, S2, M2, k2⟩; clear k2 M1
 go_wp2_with fail; refine (md_res (M2.quiet (by repeat (first | exact Keep.refl _ _ | refine Keep.alloc ?_ _))) 0 2 5 0 7 (i64_n (by omega)) (i64_n (by omega)) (i64_n (by omega)) (i64_n (by omega)) (i64_n (by omega)) 0 0 0 [] 0 0 (((new0 4 100).beg 0 3).doM' 0 ⟨2, 5, 0, 7⟩) rfl rfl rfl).mono ?_; rintro e w3 ⟨A3, q3, c3, S3, rfl, o3, n3, M3, k3⟩; clear o3 n3 k3 M2
 go_wp2_with fail; refine (md_res (M3.quiet (by repeat (first | exact Keep.refl _ _ | refine Keep.alloc ?_ _))) 0 6 0 0 0 (i64_n (by omega)) (i64_n (by omega)) (i64_n (by omega)) (i64_n (by omega)) (i64_n (by omega)) 0 0 0 [] 3 0 ((((new0 4 100).beg 0 3).doM' 0 ⟨2, 5, 0, 7⟩).doM' 0 ⟨6, 0, 0, 0⟩) rfl rfl rfl).mono ?_; rintro e w4 ⟨A4, q4, c4, S4, rfl, o4, n4, M4, k4⟩; have bx3 := md_box M3.lt k4; clear o4 n4 k4 M3
 obtain ⟨ba3, bb3, bc3, bd3, bz3, bs3⟩ := bx3
 go_wp2_with fail; refine (md_pairs (M4.quiet (by repeat (first | exact Keep.refl _ _ | refine Keep.alloc ?_ _))) 9 ⟨by omega, by omega⟩ [(5, 7)] rfl).mono ?_; rintro e w5 ⟨u5, S5, rfl, o5, n5, M5, k5⟩; clear k5 M4
 go_wp2_with fail
 have ka : Keep (fun _ => False) w5 (w5.alloc (.cells #[.int .i64 5, .int .i64 7] 73)) := (Keep.refl _ _).alloc _
 refine (same_pr (o5.keep ka (fun _ _ => id)) (ownPr_lit w5 [(5, 7)] _ rfl (by unfold maxLen; decide)) (by decide)).mono ?_
 rintro e w6 ⟨rfl, d6, rfl⟩
 have M6 := M5.quiet (ka.trans (drewN_keep _ _ d6))
 clear M5 o5 n5
 go_wp2_with fail
 refine (md_now M6 2 rfl).mono ?_
 rintro e w7 ⟨rfl, S7, M7, k7⟩
 go_wp2
 go_ret
 exact ⟨rfl, M7.b⟩
end
end Go.Proofs.Ytalkfnblnlcklaa
