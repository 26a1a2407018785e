/- Several texts, one behind the other: DlB, DlC. -/
import Derived.Test.YtalkfnblnlcklaaModelBaseDZag
import Derived.Test.YtalkfnblnlcklaaModelBaseDZam
import Derived.Test.YtalkfnblnlcklaaModelBaseDZbd
import Derived.Test.YtalkfnblnlcklaaModelBaseDZaa
import Derived.Test.YtalkfnblnlcklaaModelBaseDZad
import Derived.ChangeOld
import Derived.Deep.LoopGhost
import Derived.Deep.CutRange
import Derived.Deep.CutBlock
import Derived.Deep.RegionHeld3
/- vinculumlaw19.Deals: what a Model answers, call by call, as Deals. Condition: a Model that is new, at most 100 calls. -/
namespace Go.Proofs.Ytalkfnblnlcklaa
open Go.ChangeShapes Go.WideShapes Go.ChangeAt Go.RowKit
set_option linter.unusedVariables false
set_option linter.unusedSimpArgs false
theorem act_keep {w w' : World} {S : Nat → Prop} {b i : Nat} {o : ActI} (h : ActAt w b i o) (k : Keep S w w') (hn : ¬ S b) : ActAt w' b i o := ⟨k.cell h.c0 hn, k.cell h.c1 hn, k.cell h.c2 hn, k.cell h.c3 hn, k.cell h.c4 hn, k.cell h.c5 hn, k.cell h.c6 hn⟩
theorem rs_box (w : World) (a b c d : Int) (v : Value) : ∃ W, w.alloc (.cells #[.int .i64 a, .int .i64 b, v, .int .i64 c, .int .i64 d] 65) = W ∧ ResAt W w.heap.size (.int .i64 a) (.int .i64 b) v (.int .i64 c) (.int .i64 d) ∧ Keep (fun _ => False) w W :=
 ⟨_, rfl, ⟨by simp, by simp, by simp, by simp, by simp, fun i => by simp⟩, (Keep.refl _ _).alloc _⟩
/-- A call of the script in a box. -/
structure B7 (w : World) (N : Nat) (o : ActI) : Prop where
 c0 : w.cell? ⟨N, 0, none⟩ = some (.int .i64 o.kind)
 c1 : w.cell? ⟨N, 1, none⟩ = some (.int .i64 o.s)
 c2 : w.cell? ⟨N, 2, none⟩ = some (.int .i64 o.level)
 c3 : w.cell? ⟨N, 3, none⟩ = some (.int .i64 o.o.kind)
 c4 : w.cell? ⟨N, 4, none⟩ = some (.int .i64 o.o.key)
 c5 : w.cell? ⟨N, 5, none⟩ = some (.int .i64 o.o.hi)
 c6 : w.cell? ⟨N, 6, none⟩ = some (.int .i64 o.o.val)
theorem B7.keep {w w' : World} {N : Nat} {o : ActI} {X : Nat → Prop} (h : B7 w N o) (k : Keep X w w') (hn : ¬ X N) : B7 w' N o := ⟨k.cell h.c0 hn, k.cell h.c1 hn, k.cell h.c2 hn, k.cell h.c3 hn, k.cell h.c4 hn, k.cell h.c5 hn, k.cell h.c6 hn⟩
theorem B7.lt {w : World} {N : Nat} {o : ActI} (h : B7 w N o) : N < w.heap.size := lt_of_cell (a := ⟨N, 0, none⟩) h.c0
theorem act_box (w : World) (o : ActI) : ∃ W, w.alloc (.cells #[.int .i64 o.kind, .int .i64 o.s, .int .i64 o.level, .int .i64 o.o.kind, .int .i64 o.o.key, .int .i64 o.o.hi, .int .i64 o.o.val] 33) = W ∧ B7 W w.heap.size o ∧ Keep (fun _ => False) w W :=
 ⟨_, rfl, ⟨by simp, by simp, by simp, by simp, by simp, by simp, by simp⟩, (Keep.refl _ _).alloc _⟩
theorem md_nowQ {W w : World} {m : Nat} {S : Nat → Prop} {x : MoI} (h : Md W w m S x) (t : Int) (ht : x.time = t) : Calls Try.prog 14 #[.pointer (some ⟨m, 0, none⟩)] w fun e w' => e = .returned (.int .u64 t) ∧ w' = w := by
 subst ht
 obtain ⟨K, o, z, a, ⟨L, io, l⟩, e⟩ := h.ld
 refine (now_any a).mono ?_
 rintro e2 w' ⟨rfl, rfl⟩
 exact ⟨by rw [l.c3], rfl⟩
/-- The id that is told of a session. -/
def idS (x : MoI) (s : Int) : Int := if s < 0 ∨ 7 < s then 0 else (x.s s.toNat).id
theorem stat_id (x : MoI) (s : Int) : ∃ l b c d f, x.statV s = .agg #[.bool l, .bool false, .bool false, .int .i64 (idS x s), .int .i64 b, .int .i64 c, .int .u64 d, .int .u64 0, .int .i64 f] := by
 unfold MoI.statV idS
 split
 ·exact ⟨_, _, _, _, _, rfl⟩
 ·split
  ·next h => rw [h]; exact ⟨_, _, _, _, _, rfl⟩
  ·exact ⟨_, _, _, _, _, rfl⟩
theorem fld3 (l : Bool) (a b c d f : Int) (w : World) : (Instr.field 62 (.agg #[.bool l, .bool false, .bool false, .int .i64 a, .int .i64 b, .int .i64 c, .int .u64 d, .int .u64 0, .int .i64 f]) 3).run Try.prog w = .ok (.int .i64 a) w := by kernel_rfl
/-- While the script is gone through. -/
structure DR (W w0 wr : World) (m : Nat) (S0 S : Nat → Prop) (n : Nat) (z : Nat → ActI) (k : Nat) (x : MoI) (ds : List DlI) : Prop where
 md : Md W wr m S x
 vk : VKeep S0 S w0 wr
 hold : ∃ C, Hold x ds C
 sz : Sz k ds
 lv : (∀ j, j < n → (z j).kind = 0 → (z j).level = 3) → ∀ d ∈ ds, d.level = 3
def DRel (W w0 : World) (m : Nat) (S0 : Nat → Prop) (n M : Nat) (z : Nat → ActI) (u iv : Value) (wr : World) : Prop := ∃ (k : Nat) (S : Nat → Prop) (x : MoI) (ds : List DlI), k ≤ n ∧ k ≤ M ∧ iv = .int .i64 k ∧ DR W w0 wr m S0 S n z k x ds ∧ DOut w0.heap.size wr S u ds
section
variable {W w0 w w' : World} {m n k : Nat} {S0 S S' X : Nat → Prop} {z : Nat → ActI} {x y : MoI} {ds : List DlI} {u : Value}
theorem vk_trans {S0 S S' : Nat → Prop} {a b c : World} (h : VKeep S0 S a b) (k : VKeep S S' b c) : VKeep S0 S' a c := by
 have ks := h.1.size
 refine ⟨⟨k.1.os.trans h.1.os, k.1.tape.trans h.1.tape, k.1.output.trans h.1.output, Nat.le_trans h.1.size k.1.size, fun j hj hn => ?_⟩, fun j hj => ?_⟩
 ·refine (k.1.block j (Nat.lt_of_lt_of_le hj h.1.size) fun c => ?_).trans (h.1.block j hj hn)
  rcases h.2 j c with q | q
  ·exact hn q
  ·omega
 ·rcases k.2 j hj with q | q
  ·exact h.2 j q
  ·exact .inr (Nat.le_trans ks q)
theorem vk_own {S0 S X : Nat → Prop} {a b c : World} (h : VKeep S0 S a b) (k : Keep X b c) (hX : ∀ j, X j → a.heap.size ≤ j) : VKeep S0 S a c :=
 ⟨⟨k.os.trans h.1.os, k.tape.trans h.1.tape, k.output.trans h.1.output, Nat.le_trans h.1.size k.size, fun j hj hn => (k.block j (Nat.lt_of_lt_of_le hj h.1.size) fun c => by have := hX j c; omega).trans (h.1.block j hj hn)⟩, h.2⟩
theorem dl_set {id now : Int} {o : OpI} {r : ReI} {zs : List (DlI × Value)} {d0 : DlI} {v v' : Value} (hz : zs[(id - 1).toNat]? = some (d0, v)) : (zs.set (id - 1).toNat (toldD now o r d0, v')).map Prod.fst = dlTold (zs.map Prod.fst) id now o r := by
 unfold dlTold
 generalize (id - 1).toNat = K at hz ⊢
 refine List.ext_getElem? fun i => ?_
 rw [List.getElem?_map, List.getElem?_set, List.getElem?_modify, List.getElem?_map]
 by_cases e : K = i
 ·subst e
  have hl := (List.getElem?_eq_some_iff.1 hz).1
  rw [if_pos rfl, if_pos hl, hz]
  simp
 ·rw [if_neg e]
  cases zs[i]? with
  | none => rfl
  | some a => rw [Option.map_some, Option.map_eq_map, Option.map_some, if_neg e]
theorem told_levels {id now : Int} {o : OpI} {r : ReI} (h : ∀ d ∈ ds, d.level = 3) : ∀ d ∈ dlTold ds id now o r, d.level = 3 := fun d hd => by
 obtain ⟨i, hi⟩ := List.mem_iff_getElem?.1 hd
 obtain ⟨d1, e1, ⟨_, e⟩ | ⟨_, e⟩⟩ := told_at hi
 ·rw [e, (told_id _ _ _ _).2.1]; exact h d1 (List.mem_of_getElem? e1)
 ·rw [e]; exact h d1 (List.mem_of_getElem? e1)
theorem DR.quiet (h : DR W w0 w m S0 S n z k x ds) (kk : Keep (fun _ => False) w w') : DR W w0 w' m S0 S n z k x ds := ⟨h.md.quiet kk, vk_own h.vk kk (fun _ e => e.elim), h.hold, h.sz, h.lv⟩
/-- A block of the Deals' turns. -/
theorem DR.own (h : DR W w0 w m S0 S n z k x ds) (kk : Keep X w w') (hX : ∀ g, X g → ¬ S g ∧ w0.heap.size ≤ g) (hW : W.heap.size ≤ w0.heap.size) : DR W w0 w' m S0 S n z k x ds :=
 ⟨h.md.own kk fun g hg => ⟨(hX g hg).1, Nat.le_trans hW (hX g hg).2⟩, vk_own h.vk kk fun g hg => (hX g hg).2, h.hold, h.sz, h.lv⟩
theorem DR.beg (h : DR W w0 w m S0 S n z k x ds) (hk : k < n) {a : ActI} (ea : z k = a) (hz : a.kind = 0) (M : Md W w' m S' (x.beg a.s a.level)) (kk : VKeep S S' w w') : DR W w0 w' m S0 S' n z (k + 1) (x.beg a.s a.level) (dlBeg x ds a.s a.level) := by
 obtain ⟨C, H⟩ := h.hold
 refine ⟨M, vk_trans h.vk kk, ⟨C, hold_beg H _ _⟩, sz_beg h.sz _ _, fun hl d hd => ?_⟩
 unfold dlBeg at hd
 split at hd
 ·rcases List.mem_append.1 hd with q | q
  ·exact h.lv hl d q
  ·rw [List.mem_singleton.1 q]
   have := hl k hk
   rw [ea] at this
   exact this hz
 ·exact h.lv hl d hd
theorem DR.col (h : DR W w0 w m S0 S n z k x ds) (M : Md W w' m S' x.collect) (kk : VKeep S S' w w') : DR W w0 w' m S0 S' n z (k + 1) x.collect ds := by
 obtain ⟨C, H⟩ := h.hold
 exact ⟨M, vk_trans h.vk kk, ⟨C, hold_collect H⟩, h.sz.up (Nat.le_succ _), h.lv⟩
theorem DR.do (h : DR W w0 w m S0 S n z k x ds) (s : Int) (o : OpI) (M : Md W w' m S' (x.doM s o)) (kk : VKeep S S' w w') : DR W w0 w' m S0 S' n z (k + 1) (x.doM s o) (dlDo x ds s o) := by
 obtain ⟨C, H⟩ := h.hold
 refine ⟨M, vk_trans h.vk kk, hold_do H _ _, sz_do h.sz _ _, fun hl d hd => ?_⟩
 unfold dlDo at hd
 split at hd
 ·exact told_levels (h.lv hl) d hd
 ·exact h.lv hl d hd
/-- A transaction is begun, its Deal laid behind the others. -/
theorem beg_push {w3 : World} {o : Nat → Nat} {zs : List (DlI × Value)} {s lv t3 n0 : Int} (D : DR W w0 w3 m S0 S' n z (k + 1) (x.beg s lv) (dlBeg x (zs.map Prod.fst) s lv)) (Q : DO w0.heap.size w3 S' o u zs) (hW : W.heap.size ≤ w0.heap.size)
  (he : x.begE s lv = 0) (hn : x.begN s lv = n0) (ht : (x.beg s lv).time = t3) (g4 c4 : Nat) (y4 : World) (o4 : OwnM 6 dealF 59 y4 (.slice (some ⟨g4, 0, none⟩) (zs.length + 1) c4) (zs ++ [(⟨n0, lv, 1, t3, 0, []⟩, .slice none 0 0)])) (k4 : Keep (fun j => u.ownBlock = some j) w3.drew y4) (hg4 : u.ownBlock = some g4 ∨ w3.drew.heap.size ≤ g4) :
  DR W w0 y4 m S0 S' n z (k + 1) (x.beg s lv) (dlBeg x (zs.map Prod.fst) s lv) ∧ DOut w0.heap.size y4 S' (.slice (some ⟨g4, 0, none⟩) (zs.length + 1) c4) (dlBeg x (zs.map Prod.fst) s lv) := by
 have kd : Keep (fun _ => False) w3 w3.drew := (Keep.refl _ _).drew
 have Qd := Q.quiet kd
 have D4 := (D.quiet kd).own k4 (fun g hg => ⟨(Q.free g (by rw [Q.lab g hg]; decide)).2, Q.low g (by rw [Q.lab g hg]; decide)⟩) hW
 refine ⟨D4, _, _, ?_, Qd.push D.vk.1.size D.md.lt rfl o4 k4 hg4⟩
 rw [List.map_append]
 unfold dlBeg
 rw [if_pos he, hn, ht]
 rfl
theorem dlDo_of {s now : Int} {o : OpI} {r : ReI} (h0 : x.doE s o = 0) (hr : x.doR s o = r) (ht : (x.doM s o).time = now) {zs : List (DlI × Value)} {K : Nat} {d0 : DlI} {v v' : Value} (hK : ((x.s s.toNat).id - 1).toNat = K) (hz : zs[K]? = some (d0, v)) : (zs.set K (toldD now o r d0, v')).map Prod.fst = dlDo x (zs.map Prod.fst) s o := by
 unfold dlDo
 rw [if_pos h0, hr, ht]
 subst hK
 exact dl_set hz
/-- A Deal that is committed. -/
theorem end3 {s now : Int} {o : OpI} {r : ReI} {zs : List (DlI × Value)} {K g L c : Nat} {d0 : DlI} {v0 : Value} {ow : Nat → Nat} (D : DR W w0 w m S0 S n z k y (dlDo x (zs.map Prod.fst) s o)) (Q : DO w0.heap.size w S ow (.slice (some ⟨g, 0, none⟩) L c) zs) (hW : W.heap.size ≤ w0.heap.size)
  (h0 : x.doE s o = 0) (hr : x.doR s o = r) (ht : (x.doM s o).time = now) (hK : ((x.s s.toNat).id - 1).toNat = K) (hz : zs[K]? = some (d0, v0)) (h3 : r.over = 3) :
  DR W w0 ((w.setCell ⟨g, K * 6 + 2, none⟩ (.int .i64 3)).setCell ⟨g, K * 6 + 4, none⟩ (.int .u64 now)) m S0 S n z k y (dlDo x (zs.map Prod.fst) s o) ∧ DOut w0.heap.size ((w.setCell ⟨g, K * 6 + 2, none⟩ (.int .i64 3)).setCell ⟨g, K * 6 + 4, none⟩ (.int .u64 now)) S (.slice (some ⟨g, 0, none⟩) L c) (dlDo x (zs.map Prod.fst) s o) := by
 have og := Q.lab g rfl
 have kk : Keep (fun j => j = g) w ((w.setCell ⟨g, K * 6 + 2, none⟩ (.int .i64 3)).setCell ⟨g, K * 6 + 4, none⟩ (.int .u64 now)) := (keep_one w ⟨g, K * 6 + 2, none⟩ _).trans (keep_one _ ⟨g, K * 6 + 4, none⟩ _)
 refine ⟨D.own kk (fun j hj => by rw [hj]; exact ⟨(Q.free g (by rw [og]; decide)).2, Q.low g (by rw [og]; decide)⟩) hW, ?_⟩
 have hl := (List.getElem?_eq_some_iff.1 hz).1
 have p0 : ∃ ys, OpsOut w ow K v0 d0.ops ys := Q.ops K (d0, v0) hz
 have Q1 := Q.put hz (j := 2) (z' := ({ d0 with state := 3 }, v0)) (by decide) (x := .int .i64 3) rfl p0
 have hz1 : (zs.set K ({ d0 with state := 3 }, v0))[K]? = some ({ d0 with state := 3 }, v0) := by rw [List.getElem?_set, if_pos rfl, if_pos hl]
 have p1 : ∃ ys, OpsOut (w.setCell ⟨g, K * 6 + 2, none⟩ (.int .i64 3)) ow K v0 d0.ops ys := Q1.ops K ({ d0 with state := 3 }, v0) hz1
 have Q2 := Q1.put hz1 (j := 4) (z' := ({ d0 with state := 3, stop := now }, v0)) (by decide) (x := .int .u64 now) rfl p1
 rw [List.set_set] at Q2
 refine ⟨_, _, ?_, Q2⟩
 have e := dlDo_of (v' := v0) h0 hr ht hK hz
 unfold toldD at e
 rw [if_pos h3] at e
 exact e
/-- A Deal that is aborted. -/
theorem end4 {s : Int} {o : OpI} {r : ReI} {zs : List (DlI × Value)} {K g L c : Nat} {d0 : DlI} {v0 : Value} {ow : Nat → Nat} (D : DR W w0 w m S0 S n z k y (dlDo x (zs.map Prod.fst) s o)) (Q : DO w0.heap.size w S ow (.slice (some ⟨g, 0, none⟩) L c) zs) (hW : W.heap.size ≤ w0.heap.size)
  (h0 : x.doE s o = 0) (hr : x.doR s o = r) (hK : ((x.s s.toNat).id - 1).toNat = K) (hz : zs[K]? = some (d0, v0)) (h4 : r.over = 4) :
  DR W w0 (w.setCell ⟨g, K * 6 + 2, none⟩ (.int .i64 4)) m S0 S n z k y (dlDo x (zs.map Prod.fst) s o) ∧ DOut w0.heap.size (w.setCell ⟨g, K * 6 + 2, none⟩ (.int .i64 4)) S (.slice (some ⟨g, 0, none⟩) L c) (dlDo x (zs.map Prod.fst) s o) := by
 have og := Q.lab g rfl
 have kk : Keep (fun j => j = g) w (w.setCell ⟨g, K * 6 + 2, none⟩ (.int .i64 4)) := keep_one w ⟨g, K * 6 + 2, none⟩ _
 refine ⟨D.own kk (fun j hj => by rw [hj]; exact ⟨(Q.free g (by rw [og]; decide)).2, Q.low g (by rw [og]; decide)⟩) hW, ?_⟩
 have p0 : ∃ ys, OpsOut w ow K v0 d0.ops ys := Q.ops K (d0, v0) hz
 have Q1 := Q.put hz (j := 2) (z' := ({ d0 with state := 4 }, v0)) (by decide) (x := .int .i64 4) rfl p0
 refine ⟨_, _, ?_, Q1⟩
 have e := dlDo_of (v' := v0) h0 hr (rfl : (x.doM s o).time = _) hK hz
 unfold toldD at e
 rw [if_neg (by omega), if_pos h4] at e
 exact e
/-- A Deal that is answered one call more: behind the append. -/
theorem end0 {s : Int} {o : OpI} {r : ReI} {zs : List (DlI × Value)} {K g L c : Nat} {d0 : DlI} {v0 up : Value} {ow : Nat → Nat} (D : DR W w0 w m S0 S n z k y (dlDo x (zs.map Prod.fst) s o)) (Q : DO w0.heap.size w S ow (.slice (some ⟨g, 0, none⟩) L c) zs) (hW : W.heap.size ≤ w0.heap.size)
  (h0 : x.doE s o = 0) (hr : x.doR s o = r) (hK : ((x.s s.toNat).id - 1).toNat = K) (hz : zs[K]? = some (d0, v0)) (h3 : r.over = 0) {ys : List ((OpI × ReI) × Value)} (q : OpsOut w ow K v0 d0.ops ys) (hp : OwnPr w up r.pairs) (hf : ∀ b, up.ownBlock = some b → ow b = 0 ∧ ¬ S b ∧ w0.heap.size ≤ b)
  (g2 c2 : Nat) (w' : World) (ho : OwnM 9 callF 70 w' (.slice (some ⟨g2, 0, none⟩) (ys.length + 1) c2) (ys ++ [((o, r), up)])) (kk : Keep (fun j => v0.ownBlock = some j) w w') (hg : v0.ownBlock = some g2 ∨ w.heap.size ≤ g2) :
  (∃ u, w'.cell? ⟨g, K * 6 + 5, none⟩ = some u) ∧ w'.frozen? ⟨g, K * 6 + 5, none⟩ = false ∧ ∃ w2, w'.setCell ⟨g, K * 6 + 5, none⟩ (.slice (some ⟨g2, 0, none⟩) (ys.length + 1) c2) = w2 ∧ DR W w0 w2 m S0 S n z k y (dlDo x (zs.map Prod.fst) s o) ∧ DOut w0.heap.size w2 S (.slice (some ⟨g, 0, none⟩) L c) (dlDo x (zs.map Prod.fst) s o) := by
 obtain ⟨f1, f2, o', Q2⟩ := Q.call D.md.lt hz q hp D.vk.1.size hf ho kk hg (d := { d0 with ops := d0.ops ++ [(o, r)] }) rfl
 have og := Q.lab g rfl
 refine ⟨f1, f2, _, rfl, ?_, ?_⟩
 ·have k1 := D.own (X := fun j => v0.ownBlock = some j) kk (fun j hj => ⟨(Q.free j (by rw [q.lab j hj]; omega)).2, Q.low j (by rw [q.lab j hj]; omega)⟩) hW
  exact k1.own (keep_one w' ⟨g, K * 6 + 5, none⟩ _) (fun j hj => by
   have hj : j = g := hj
   rw [hj]
   exact ⟨(Q.free g (by rw [og]; decide)).2, Q.low g (by rw [og]; decide)⟩) hW
 ·refine ⟨_, _, ?_, Q2⟩
  have e := dlDo_of (v' := .slice (some ⟨g2, 0, none⟩) (ys.length + 1) c2) h0 hr (rfl : (x.doM s o).time = _) hK hz
  unfold toldD at e
  rw [if_neg (by omega), if_neg (by omega)] at e
  exact e
end
end Go.Proofs.Ytalkfnblnlcklaa
/- vinculumlaw19.Deals, walked. Condition: a Model that is new, at most 100 calls. -/
namespace Go.Proofs.Ytalkfnblnlcklaa
open Go.ChangeShapes Go.WideShapes Go.ChangeAt Go.RowKit
set_option linter.unusedVariables false
set_option linter.unusedSimpArgs false
section
variable {W w0 w w' : World} {m n k : Nat} {S0 S S' X : Nat → Prop} {z : Nat → ActI} {x y : MoI} {ds : List DlI} {u : Value}
/-- What is left of a call that the walk is behind: the box of the act, the Deals. -/
structure Rd (W w0 wr : World) (m : Nat) (S0 S : Nat → Prop) (n : Nat) (z : Nat → ActI) (k : Nat) (x : MoI) (ds : List DlI) (o : Nat → Nat) (u : Value) (zs : List (DlI × Value)) (N : Nat) (a : ActI) : Prop where
 d : DR W w0 wr m S0 S n z k x ds
 e : zs.map Prod.fst = ds
 q : DO w0.heap.size wr S o u zs
 b : B7 wr N a
 nN : ¬ S N
 oN : o N = 0
 wN : w0.heap.size ≤ N
def S9 (w' : World) (N N1 : Nat) (ok oy oh ov ve vv vo vr : Int) (u : Value) : Prop := w'.cell? ⟨N, 3, none⟩ = some (.int .i64 ok) ∧ w'.cell? ⟨N, 4, none⟩ = some (.int .i64 oy) ∧ w'.cell? ⟨N, 5, none⟩ = some (.int .i64 oh) ∧ w'.cell? ⟨N, 6, none⟩ = some (.int .i64 ov) ∧ w'.cell? ⟨N1, 0, none⟩ = some (.int .i64 ve) ∧ w'.cell? ⟨N1, 1, none⟩ = some (.int .i64 vv) ∧ w'.cell? ⟨N1, 2, none⟩ = some u ∧ w'.cell? ⟨N1, 3, none⟩ = some (.int .i64 vo) ∧ w'.cell? ⟨N1, 4, none⟩ = some (.int .i64 vr)
theorem S9.keep {w w' : World} {N N1 : Nat} {ok oy oh ov ve vv vo vr : Int} {u : Value} {X : Nat → Prop} (h : S9 w N N1 ok oy oh ov ve vv vo vr u) (k : Keep X w w') (n : ¬ X N) (n1 : ¬ X N1) : S9 w' N N1 ok oy oh ov ve vv vo vr u :=
 ⟨k.cell h.1 n, k.cell h.2.1 n, k.cell h.2.2.1 n, k.cell h.2.2.2.1 n, k.cell h.2.2.2.2.1 n1, k.cell h.2.2.2.2.2.1 n1, k.cell h.2.2.2.2.2.2.1 n1, k.cell h.2.2.2.2.2.2.2.1 n1, k.cell h.2.2.2.2.2.2.2.2 n1⟩
theorem Rd.go {a : ActI} {o : Nat → Nat} {zs : List (DlI × Value)} {N k' : Nat} {ds' : List DlI} (h : Rd W w0 w m S0 S n z k x ds o u zs N a) (D : DR W w0 w' m S0 S' n z k' y ds') (kk : VKeep S S' w w') : DR W w0 w' m S0 S' n z k' y ds' ∧ DO w0.heap.size w' S' o u zs ∧ B7 w' N a ∧ ¬ S' N :=
 ⟨D, h.q.step kk, h.b.keep kk.1 h.nN, fun c => by
  rcases kk.2 N c with q | q
  ·exact h.nN q
  ·have := h.b.lt; omega⟩
set_option maxRecDepth 100000 in
set_option maxHeartbeats 16000000 in
theorem deals_any (h : Md W w m S x) (hx : Hold x [] []) (hW : W.heap.size ≤ w.heap.size) {A : Option Addr} {c : Nat} (ha : IsActs w A n c z) (hb : 0 < n → ∀ b off, A = some ⟨b, off, none⟩ → ¬ S b) (M : Nat) (hM : M ≤ 100) :
  Calls Try.prog 6 #[.pointer (some ⟨m, 0, none⟩), .slice A n c, .int .i64 M] w fun e w' => ∃ u S' y ds, e = .returned (.tuple #[u, .bool true]) ∧ DOut w.heap.size w' S' u ds ∧ ∃ k, k ≤ M ∧ DR W w w' m S S' n z k y ds := by
 have x1 := ha.max
 have lc1 := ha.cell
 have lo1 := ha.ok
 have HB := Lib.hid hb
 have D0 : DR W w w m S S n z 0 x [] := ⟨h, ⟨Keep.refl _ _, fun _ hk => .inl hk⟩, ⟨[], hx⟩, sz_nil, fun _ d hd => by cases hd⟩
 clear ha hb h hx
 go_enter Try.func6, Try.ntmps6
 go_wp2
 go_loopw [8, 9] (DRel W w m S n M z) (fun _ i _ => M - (intOf i).toNat)
 case atStart => exact ⟨0, S, x, [], by omega, by omega, rfl, D0, [], fun _ => 0, rfl, DO.nil⟩
 case round =>
  obtain ⟨k, S1, x1', ds, k0, kM, rfl, D, zs, o, ez, Q⟩ := hrel
  clear D0
  by_cases hlt : k < n ∧ k < M
  ·obtain ⟨hl, h80⟩ := hlt
   obtain ⟨bb, off, rfl, hbl, hc⟩ := lc1 (by omega)
   have ob := lo1 k hl
   have oc := act_keep (hc k hl) D.vk.1 (HB.out (by omega) bb off rfl)
   obtain ⟨a, ea⟩ : ∃ a, z k = a := ⟨_, rfl⟩
   rw [ea] at ob oc
   have EA := Lib.hid ea
   clear ea hc
   obtain ⟨oc0, oc1, oc2, oc3, oc4, oc5, oc6⟩ := oc
   have wk : IntKind.i64.wrap ((k : Int) + 1) = (k : Int) + 1 := IntWalk.i64_in _ (by omega)
   have dk : decide ((k : Int) < M) = true := decide_eq_true (by omega)
   have dn : decide ((k : Int) < n) = true := decide_eq_true (by omega)
   go_upto_region 6 with fail
   obtain ⟨V, eV, B0, kV⟩ := act_box wr a
   have hN1 : ¬ S1 wr.heap.size := fun e => absurd (D.md.lt _ e) (Nat.lt_irrefl _)
   have hN2 : o wr.heap.size = 0 := Decidable.byContradiction fun e => absurd (Q.free _ e).1 (Nat.lt_irrefl _)
   have hN3 : w.heap.size ≤ wr.heap.size := D.vk.1.size
   obtain ⟨N, eN⟩ : ∃ N, wr.heap.size = N := ⟨_, rfl⟩
   rw [eV, eN]
   rw [eN] at B0 hN1 hN2 hN3
   have R0 : Rd W w V m S S1 n z k x1' ds o u8 zs N a := ⟨D.quiet kV, ez, Q.quiet kV, B0, hN1, hN2, hN3⟩
   clear eV eN kV B0 hN1 hN2 hN3 D Q ez oc0 oc1 oc2 oc3 oc4 oc5 oc6
   obtain ⟨kd, s, lv, ok, oy, oh, ov⟩ := a
   obtain ⟨b0, b1, b2, b3, b4, b5, b6⟩ := ob
   dsimp only at b0 b1 b2 b3 b4 b5 b6
   obtain ⟨c0, c1, c2, c3, c4, c5, c6⟩ := R0.b
   dsimp only at c0 c1 c2 c3 c4 c5 c6
   rcases (by omega : kd = 0 ∨ kd = 2 ∨ (kd ≠ 0 ∧ kd ≠ 2)) with rfl | rfl | ⟨hk0, hk2⟩
   ·obtain ⟨n0, hn⟩ : ∃ n, x1'.begN s lv = n := ⟨_, rfl⟩
    obtain ⟨e0, he⟩ : ∃ n, x1'.begE s lv = n := ⟨_, rfl⟩
    have HN := Lib.hid hn
    have HE := Lib.hid he
    clear hn he
    go_wp2_with fail
    refine (md_begin R0.d.md s lv b1 b2 n0 e0 _ HN.out HE.out rfl).mono ?_
    rintro e w3 ⟨rfl, S3, M3, k3⟩
    have D3 := R0.d.beg hl EA.out rfl M3 k3
    have Q3 := R0.q.step k3
    have B3 := R0.b.keep k3.1 R0.nN
    have oU := R0.q.own
    have eZ := Lib.hid R0.e
    have nN := Lib.hid R0.nN
    have oN := Lib.hid R0.oN
    have al : (zs.length : Int) = x1'.made := by
     obtain ⟨C, H⟩ := R0.d.hold
     rw [← H.al.len, ← R0.e, List.length_map]
    have szl : zs.length ≤ 100000 := by
     have := R0.d.sz.n
     rw [← R0.e, List.length_map] at this
     omega
    have gd := Lib.hid R0.d.md.gd
    obtain ⟨A8, c8, rfl, hA8⟩ := Q3.form
    clear R0 M3 k3 c0 c1 c2 c3 c4 c5 c6 oU
    obtain ⟨c0, c1, c2, c3, c4, c5, c6⟩ := B3
    dsimp only at c0 c1 c2 c3 c4 c5 c6
    dsimp only at D3
    rw [← eZ.out] at D3
    by_cases hz : e0 = 0
    ·subst hz
     have hn0 : n0 = x1'.made + 1 := by rw [← HN.out]; unfold MoI.begN; rw [if_pos HE.out]
     obtain ⟨t3, ht3⟩ : ∃ t, (x1'.beg s lv).time = t := ⟨_, rfl⟩
     have wl : IntKind.i64.wrap ((zs.length : Int) + 1) = n0 := by rw [al, hn0]; exact IntWalk.i64_in _ (by have := gd.out.made; omega)
     have dq : (n0 != n0) = false := by simp
     have NQ := Lib.hid (md_nowQ (D3.md.quiet ((Keep.refl (fun _ => False) w3).drew)) t3 ht3)
     have OWN := Lib.hid (OwnM.keep Q3.own ((Keep.refl (fun _ => False) w3).drew) (fun _ _ => id))
     have ZL := Lib.hid szl
     have C2 := Lib.hid c2
     have NG := Lib.hid (show ¬ (Value.slice A8 zs.length c8).ownBlock = some N from fun e => by have := Q3.lab N e; rw [oN.out] at this; cases this)
     have AFT := Lib.hid (fun g4 c4 y4 o4 k4 hg4 => beg_push D3 Q3 hW HE.out HN.out ht3 g4 c4 y4 o4 k4 hg4)
     clear D3 Q3 hn0 szl al hA8 ht3
     go_wp2_with fail
     refine wp_region_held_drew (S := fun w' => w'.cell? ⟨N, 2, none⟩ = some (.int .i64 lv)) (by kernel_rfl) c2 (fun hHeld => ?_)
     refine wpAnyH_take (i := 0) (v := ?qvu0) rfl (by kernel_rfl) (by kernel_rfl) (by kernel_rfl) (fun _ _ _ h => h) (Or.inl ⟨by rfl, ?qyu0⟩) (by assumption) ?qru0; case qyu0 => ((intro w hSw; (try dsimp only at hSw); go_simp); try (with_reducible rfl))
     ((try simp only [List.getElem_toArray]); (try simp only [List.getElem_cons_succ]); (try simp only [List.getElem_cons_zero]); (try simp only [Act.put]); (try simp only [List.setIfInBounds_toArray]); (try simp only [List.set_cons_succ]); (try simp only [List.set_cons_zero]))
     refine wpAnyH_take (i := 1) (v := ?qvu1) rfl (by kernel_rfl) (by kernel_rfl) (by kernel_rfl) (fun _ _ _ h => h) (Or.inl ⟨by rfl, ?qyu1⟩) (by assumption) ?qru1; case qyu1 => ((intro w hSw; (try dsimp only at hSw); go_simp); try (with_reducible rfl))
     ((try simp only [List.getElem_toArray]); (try simp only [List.getElem_cons_succ]); (try simp only [List.getElem_cons_zero]); (try simp only [Act.put]); (try simp only [List.setIfInBounds_toArray]); (try simp only [List.set_cons_succ]); (try simp only [List.set_cons_zero]))
     refine wpAnyH_take (i := 2) (v := ?qvu2) rfl (by kernel_rfl) (by kernel_rfl) (by kernel_rfl) (fun _ _ _ h => h) (Or.inl ⟨by rfl, ?qyu2⟩) (by assumption) ?qru2; case qyu2 => ((intro w hSw; (try dsimp only at hSw); go_simp); try (with_reducible rfl))
     ((try simp only [List.getElem_toArray]); (try simp only [List.getElem_cons_succ]); (try simp only [List.getElem_cons_zero]); (try simp only [Act.put]); (try simp only [List.setIfInBounds_toArray]); (try simp only [List.set_cons_succ]); (try simp only [List.set_cons_zero]))
     refine wpAnyH_take (i := 3) (v := ?qvu3) rfl (by kernel_rfl) (by kernel_rfl) (by kernel_rfl) (fun _ _ _ h => h) (Or.inl ⟨by rfl, ?qyu3⟩) (by assumption) ?qru3; case qyu3 => ((intro w hSw; (try dsimp only at hSw); go_simp); try (with_reducible rfl))
     ((try simp only [List.getElem_toArray]); (try simp only [List.getElem_cons_succ]); (try simp only [List.getElem_cons_zero]); (try simp only [Act.put]); (try simp only [List.setIfInBounds_toArray]); (try simp only [List.set_cons_succ]); (try simp only [List.set_cons_zero]))
     refine wpAnyH_take (i := 4) (v := ?qvu4) rfl (by kernel_rfl) (by kernel_rfl) (by kernel_rfl) (fun _ _ _ h => h) (Or.inl ⟨by rfl, ?qyu4⟩) (by assumption) ?qru4; case qyu4 => ((intro w hSw; (try dsimp only at hSw); go_simp); try (with_reducible rfl))
     ((try simp only [List.getElem_toArray]); (try simp only [List.getElem_cons_succ]); (try simp only [List.getElem_cons_zero]); (try simp only [Act.put]); (try simp only [List.setIfInBounds_toArray]); (try simp only [List.set_cons_succ]); (try simp only [List.set_cons_zero]))
     refine wpAnyH_ready (rs := [5]) (by kernel_rfl) (by simp) ?_
     refine AllReadyH.cons rfl (fun K hK => ?_) AllReadyH.nil
     go_simp
     refine NQ.out.mono ?_
     rintro e wy ⟨rfl, rfl⟩
     refine hK.out _ _ hHeld (fun hHeld => ?_)
     clear hK K
     ((try simp only [List.getElem_toArray]); (try simp only [List.getElem_cons_succ]); (try simp only [List.getElem_cons_zero]); (try simp only [Act.put]); (try simp only [List.setIfInBounds_toArray]); (try simp only [List.set_cons_succ]); (try simp only [List.set_cons_zero]))
     refine wpAnyH_take (i := 6) (v := ?qvu5) rfl (by kernel_rfl) (by kernel_rfl) (by kernel_rfl) (fun _ _ _ h => h) (Or.inl ⟨by rfl, ?qyu5⟩) (by assumption) ?qru5; case qyu5 => ((intro w hSw; (try dsimp only at hSw); go_simp); try (with_reducible rfl))
     ((try simp only [List.getElem_toArray]); (try simp only [List.getElem_cons_succ]); (try simp only [List.getElem_cons_zero]); (try simp only [Act.put]); (try simp only [List.setIfInBounds_toArray]); (try simp only [List.set_cons_succ]); (try simp only [List.set_cons_zero]))
     refine wpAnyH_ready (rs := [7]) (by kernel_rfl) (by simp) ?_
     refine AllReadyH.cons rfl (fun K hK => ?_) AllReadyH.nil
     go_simp
     refine hK.out _ _ ((Keep.alloc (Keep.refl (fun _ => False) _) _).cell hHeld id) (fun hHeld => ?_)
     clear hK K
     ((try simp only [List.getElem_toArray]); (try simp only [List.getElem_cons_succ]); (try simp only [List.getElem_cons_zero]); (try simp only [Act.put]); (try simp only [List.setIfInBounds_toArray]); (try simp only [List.set_cons_succ]); (try simp only [List.set_cons_zero]))
     refine wpAnyH_ready (rs := [8]) (by kernel_rfl) (by simp) ?_
     refine AllReadyH.cons rfl (fun K hK => ?_) AllReadyH.nil
     refine step_pushM1 Try.underlying34 info_dl rfl (by decide) (by decide) dealF_len rfl (.tmp 114) (.tmp 121) rfl _ zs (by rfl) OWN.out (⟨n0, lv, 1, t3, 0, []⟩, .slice none 0 0) (dealF_one none 0 0 _) (by rfl) ZL.out ?_
     intro g4 c4 y4 o4 k4 hg4
     have NEW := Lib.hid (AFT.out g4 c4 y4 o4 k4 hg4)
     have lv4 := k4.cell (show w3.drew.cell? ⟨N, 2, none⟩ = some (.int .i64 lv) from C2.out) NG.out
     clear o4 k4 hg4
     refine hK.out _ _ lv4 (fun hHeld => ?_)
     clear hK K
     ((try simp only [List.getElem_toArray]); (try simp only [List.getElem_cons_succ]); (try simp only [List.getElem_cons_zero]); (try simp only [Act.put]); (try simp only [List.setIfInBounds_toArray]); (try simp only [List.set_cons_succ]); (try simp only [List.set_cons_zero]))
     refine wpAnyH_take (i := 9) (v := ?qvu6) rfl (by kernel_rfl) (by kernel_rfl) (by kernel_rfl) (fun _ _ _ h => h) (Or.inl ⟨by rfl, ?qyu6⟩) (by assumption) ?qru6; case qyu6 => ((intro w hSw; (try dsimp only at hSw); go_simp); try (with_reducible rfl))
     ((try simp only [List.getElem_toArray]); (try simp only [List.getElem_cons_succ]); (try simp only [List.getElem_cons_zero]); (try simp only [Act.put]); (try simp only [List.setIfInBounds_toArray]); (try simp only [List.set_cons_succ]); (try simp only [List.set_cons_zero]))
     refine wpAnyH_done (by kernel_rfl) ?_ _
     go_wp2_with fail; go_roundw; (case rel => exact ⟨k + 1, S3, _, _, by omega, by omega, by go_num, NEW.out.1, NEW.out.2⟩); (case measure => (simp [intOf]; omega))
    ·have de : (e0 == 0) = false := by simpa using hz
     have ed : dlBeg x1' (zs.map Prod.fst) s lv = ds := by unfold dlBeg; rw [HE.out, if_neg hz]; exact eZ.out
     rw [ed] at D3
     have F := Lib.hid (show DOut w.heap.size w3 S3 (.slice A8 zs.length c8) ds from ⟨zs, o, eZ.out, Q3⟩)
     clear Q3 ed
     go_wp2_with fail; go_roundw; (case rel => exact ⟨k + 1, S3, _, ds, by omega, by omega, by go_num, D3, F.out⟩); (case measure => (simp [intOf]; omega))
   ·go_wp2_with fail
    refine (md_collect R0.d.md _ _ rfl rfl).mono ?_
    rintro e w3 ⟨rfl, S3, M3, k3⟩
    have D3 := R0.d.col M3 k3
    have F := Lib.hid (show DOut w.heap.size w3 S3 u8 ds from ⟨zs, o, R0.e, R0.q.step k3⟩)
    clear R0 M3 k3 c0 c1 c2 c3 c4 c5 c6
    go_wp2_with fail; go_roundw; (case rel => exact ⟨k + 1, S3, _, ds, by omega, by omega, by go_num, D3, F.out⟩); (case measure => (simp [intOf]; omega))
   ·have dk0 : (kd == 0) = false := by simpa using hk0
    have dk2 : (kd == 2) = false := by simpa using hk2
    obtain ⟨sl, sb, sc, sd, sf, hst⟩ := stat_id x1' s
    obtain ⟨i0, hi0⟩ : ∃ i, idS x1' s = i := ⟨_, rfl⟩
    rw [hi0] at hst
    have HI := Lib.hid hi0
    have HST := Lib.hid hst
    have FLD := fld3 sl i0 sb sc sd sf
    clear hi0 hst hk0 hk2
    go_wp2_with fail
    refine (md_status R0.d.md s b1 _ HST.out).mono ?_
    rintro e w3 ⟨rfl, S3, M3, k3⟩
    obtain ⟨D3, Q3, B3, n3⟩ := R0.go ⟨M3, vk_trans R0.d.vk k3, R0.d.hold, R0.d.sz, R0.d.lv⟩ k3
    have R3 : Rd W w w3 m S S3 n z k x1' ds o u8 zs N _ := ⟨D3, R0.e, Q3, B3, n3, R0.oN, R0.wN⟩
    clear R0 M3 k3 c0 c1 c2 c3 c4 c5 c6 D3 Q3 B3 n3
    obtain ⟨c0, c1, c2, c3, c4, c5, c6⟩ := R3.b
    dsimp only at c0 c1 c2 c3 c4 c5 c6
    obtain ⟨e0, he⟩ : ∃ n, x1'.doE s ⟨ok, oy, oh, ov⟩ = n := ⟨_, rfl⟩
    obtain ⟨r, hr⟩ : ∃ r, x1'.doR s ⟨ok, oy, oh, ov⟩ = r := ⟨_, rfl⟩
    obtain ⟨ve, vv, ps, vo, vr⟩ := r
    have HE := Lib.hid he
    have HR := Lib.hid hr
    clear he hr
    go_wp2_with fail
    refine (md_res R3.d.md s ok oy oh ov b1 b3 b4 b5 b6 e0 ve vv ps vo vr _ HE.out HR.out rfl).mono ?_
    rintro e w5 ⟨C5, q5, c5', S5, rfl, o5, n5, M5, k5⟩
    obtain ⟨D5, Q5, B5, n5'⟩ := R3.go (R3.d.do s ⟨ok, oy, oh, ov⟩ M5 k5) k5
    have hf5 : ∀ b, (Value.slice C5 q5 c5').ownBlock = some b → o b = 0 ∧ ¬ S5 b ∧ w.heap.size ≤ b := fun b hb => by
     obtain ⟨p1, p2⟩ := n5 b hb
     have := R3.d.vk.1.size
     exact ⟨Decidable.byContradiction fun c => by have := (R3.q.free b c).1; omega, p2, by omega⟩
    have al : (zs.length : Int) = x1'.made := by
     obtain ⟨C, H⟩ := R3.d.hold
     rw [← H.al.len, ← R3.e, List.length_map]
    have GD := Lib.hid R3.d.md.gd
    have HO := Lib.hid R3.d.hold
    have EZ := Lib.hid R3.e
    have oN := Lib.hid R3.oN
    have szo : ∀ d ∈ ds, d.ops.length ≤ 100000 := fun d hd => by
     have h1 := R3.d.sz.n
     have h2 := mem_sum (List.mem_map.2 ⟨d, hd, rfl⟩ : d.ops.length ∈ ds.map fun d => d.ops.length)
     omega
    clear R3 M5 k5 n5 c0 c1 c2 c3 c4 c5 c6
    go_upto_region 9 with fail
    obtain ⟨w6, e6, X6, k6⟩ := rs_box w5 ve vv vo vr (.slice C5 q5 c5')
    rw [e6]
    have D6 := D5.quiet k6
    have Q6 := Q5.quiet k6
    have o6 := o5.keep k6 (fun _ _ => id)
    have B6 := B5.keep k6 id
    have nN1 : o w5.heap.size = 0 := Decidable.byContradiction fun c => by have := (Q5.free _ c).1; omega
    have lN1 : N < w5.heap.size := B5.lt
    obtain ⟨N1, eN1⟩ : ∃ N1, w5.heap.size = N1 := ⟨_, rfl⟩
    rw [eN1] at X6 nN1 lN1 ⊢
    clear e6 D5 Q5 o5 B5 k6 eN1
    obtain ⟨t0, t1, t2, t3, t4, _⟩ := id X6
    obtain ⟨c0, c1, c2, c3, c4, c5, c6⟩ := B6
    dsimp only at c0 c1 c2 c3 c4 c5 c6
    clear X6
    rw [← EZ.out] at D6
    by_cases hz : e0 = 0
    ·subst hz
     obtain ⟨n8, hid⟩ := doE_live HE.out
     have hs : 0 ≤ s ∧ s ≤ 7 := by obtain ⟨a, b, _⟩ := doE_zero HE.out; exact ⟨a, b⟩
     have ei : (x1'.s s.toNat).id = i0 := by rw [← HI.out]; unfold idS; rw [if_neg (by omega)]
     have ib := (GD.out.ses _ n8).id
     rw [ei] at ib hid
     obtain ⟨kz, hK⟩ : ∃ kz : Nat, (i0 - 1).toNat = kz := ⟨_, rfl⟩
     have iK : i0 = (kz : Int) + 1 := by omega
     have Kl : kz < zs.length := by omega
     obtain ⟨⟨d0, v0⟩, hzk⟩ : ∃ z, zs[kz]? = some z := ⟨_, List.getElem?_eq_getElem Kl⟩
     have KD := kd_do HE.out
     rw [HR.out] at KD
     have ko : vo = 3 ∨ vo = 4 ∨ vo = 0 := by
      rcases KD.out with ⟨c, _⟩ | ⟨c, _⟩ | ⟨c, _⟩
      ·exact .inl c
      ·exact .inr (.inl c)
      ·exact .inr (.inr c)
     have HK := Lib.hid (show ((x1'.s s.toNat).id - 1).toNat = kz by rw [ei]; exact hK)
     have HZ := Lib.hid hzk
     have dz : d0.ops.length ≤ 100000 := szo d0 (by rw [← EZ.out]; exact List.mem_map.2 ⟨_, List.mem_of_getElem? hzk, rfl⟩)
     have DZ := Lib.hid dz
     obtain ⟨A8, c8, rfl, hA8⟩ := Q6.form
     obtain ⟨g8, rfl⟩ := hA8 (by omega)
     have e2 := Q6.cell hzk (j := 2) (by decide) rfl
     have e4 := Q6.cell hzk (j := 4) (by decide) rfl
     have e5 := Q6.cell hzk (j := 5) (by decide) rfl
     have f2 := Q6.fz (kz * 6 + 2)
     have f4 := Q6.fz (kz * 6 + 4)
     have f5 := Q6.fz (kz * 6 + 5)
     have og := Q6.lab g8 rfl
     have gN1 : g8 ≠ N1 := fun e => by rw [e, nN1] at og; cases og
     have NE := Lib.hid (fun j => (fun e => gN1 (congrArg Addr.block e) : (⟨g8, kz * 6 + j, none⟩ : Addr) ≠ ⟨N1, 3, none⟩))
     have FF := Lib.hid hf5
     have O6 := Lib.hid o6
     have q1 : decide (i0 < 1) = false := decide_eq_false (by omega)
     have q2 : decide ((zs.length : Int) < i0) = false := decide_eq_false (by omega)
     have q3 : IntKind.i64.wrap (i0 - 1) = (kz : Int) := by rw [iK, Int.add_sub_cancel]; exact IntWalk.i64_in _ (by have := GD.out.made; omega)
     have q4 : (kz : Int) < zs.length := by omega
     clear ib hK iK KD dz hA8 og hf5 o6 ei hs n8 hid al szo
     rcases ko with rfl | rfl | rfl
     ·obtain ⟨now, hnow⟩ : ∃ t, (x1'.doM s ⟨ok, oy, oh, ov⟩).time = t := ⟨_, rfl⟩
      have NQ := Lib.hid (md_nowQ (D6.md.quiet ((Keep.refl (fun _ => False) w6).drew)) now hnow)
      have AFT := Lib.hid (end3 (D6.quiet ((Keep.refl (fun _ => False) w6).drew)) (Q6.quiet ((Keep.refl (fun _ => False) w6).drew)) hW HE.out HR.out hnow HK.out HZ.out rfl)
      clear D6 Q6 hnow
      go_wp2_with fail
      refine wp_region_held_drew (S := fun w' => w'.cell? ⟨N1, 3, none⟩ = some (.int .i64 3)) (by kernel_rfl) t3 (fun hHeld => ?_)
      refine wpAnyH_take (i := 0) (v := ?qvu7) rfl (by kernel_rfl) (by kernel_rfl) (by kernel_rfl) (fun _ _ _ h => h) (Or.inl ⟨by rfl, ?qyu7⟩) (by assumption) ?qru7; case qyu7 => ((intro w hSw; (try dsimp only at hSw); go_simp); try (with_reducible rfl))
      ((try simp only [List.getElem_toArray]); (try simp only [List.getElem_cons_succ]); (try simp only [List.getElem_cons_zero]); (try simp only [Act.put]); (try simp only [List.setIfInBounds_toArray]); (try simp only [List.set_cons_succ]); (try simp only [List.set_cons_zero]))
      refine wpAnyH_take (i := 1) (v := ?qvu8) rfl (by kernel_rfl) (by kernel_rfl) (by kernel_rfl) (fun _ _ _ h => h) (Or.inl ⟨by rfl, ?qyu8⟩) (by assumption) ?qru8; case qyu8 => ((intro w hSw; (try dsimp only at hSw); go_simp); try (with_reducible rfl))
      ((try simp only [List.getElem_toArray]); (try simp only [List.getElem_cons_succ]); (try simp only [List.getElem_cons_zero]); (try simp only [Act.put]); (try simp only [List.setIfInBounds_toArray]); (try simp only [List.set_cons_succ]); (try simp only [List.set_cons_zero]))
      refine wpAnyH_take (i := 2) (v := ?qvu9) rfl (by kernel_rfl) (by kernel_rfl) (by kernel_rfl) (fun _ _ _ h => h) (Or.inl ⟨by rfl, ?qyu9⟩) (by assumption) ?qru9; case qyu9 => ((intro w hSw; (try dsimp only at hSw); go_simp); try (with_reducible rfl))
      ((try simp only [List.getElem_toArray]); (try simp only [List.getElem_cons_succ]); (try simp only [List.getElem_cons_zero]); (try simp only [Act.put]); (try simp only [List.setIfInBounds_toArray]); (try simp only [List.set_cons_succ]); (try simp only [List.set_cons_zero]))
      refine wpAnyH_take (i := 3) (v := ?qvu10) rfl (by kernel_rfl) (by kernel_rfl) (by kernel_rfl) (fun _ _ _ h => h) (Or.inl ⟨by rfl, ?qyu10⟩) (by assumption) ?qru10; case qyu10 => ((intro w hSw; (try dsimp only at hSw); go_simp); try (with_reducible rfl))
      ((try simp only [List.getElem_toArray]); (try simp only [List.getElem_cons_succ]); (try simp only [List.getElem_cons_zero]); (try simp only [Act.put]); (try simp only [List.setIfInBounds_toArray]); (try simp only [List.set_cons_succ]); (try simp only [List.set_cons_zero]))
      refine wpAnyH_take (i := 4) (v := ?qvu11) rfl (by kernel_rfl) (by kernel_rfl) (by kernel_rfl) (fun _ _ _ h => h) (Or.inl ⟨by rfl, ?qyu11⟩) (by assumption) ?qru11; case qyu11 => ((intro w hSw; (try dsimp only at hSw); go_simp); try (with_reducible rfl))
      ((try simp only [List.getElem_toArray]); (try simp only [List.getElem_cons_succ]); (try simp only [List.getElem_cons_zero]); (try simp only [Act.put]); (try simp only [List.setIfInBounds_toArray]); (try simp only [List.set_cons_succ]); (try simp only [List.set_cons_zero]))
      refine wpAnyH_ready (rs := [5]) (by kernel_rfl) (by simp) ?_
      refine AllReadyH.cons rfl (fun K hK => ?_) AllReadyH.nil
      go_simp
      refine NQ.out.mono ?_
      rintro e wy ⟨rfl, rfl⟩
      refine hK.out _ _ hHeld (fun hHeld => ?_)
      clear hK K
      ((try simp only [List.getElem_toArray]); (try simp only [List.getElem_cons_succ]); (try simp only [List.getElem_cons_zero]); (try simp only [Act.put]); (try simp only [List.setIfInBounds_toArray]); (try simp only [List.set_cons_succ]); (try simp only [List.set_cons_zero]))
      refine wpAnyH_take (i := 6) (v := ?qvu12) rfl (by kernel_rfl) (by kernel_rfl) (by kernel_rfl) (fun _ _ _ h => h) (Or.inl ⟨by rfl, ?qyu12⟩) (by assumption) ?qru12; case qyu12 => ((intro w hSw; (try dsimp only at hSw); go_simp); try (with_reducible rfl))
      ((try simp only [List.getElem_toArray]); (try simp only [List.getElem_cons_succ]); (try simp only [List.getElem_cons_zero]); (try simp only [Act.put]); (try simp only [List.setIfInBounds_toArray]); (try simp only [List.set_cons_succ]); (try simp only [List.set_cons_zero]))
      refine wpAnyH_take (i := 7) (v := ?qvu13) rfl (by kernel_rfl) (by kernel_rfl) (by kernel_rfl) (fun _ _ _ h => h) (Or.inl ⟨by rfl, ?qyu13⟩) (by assumption) ?qru13; case qyu13 => ((intro w hSw; (try dsimp only at hSw); go_simp); try (with_reducible rfl))
      ((try simp only [List.getElem_toArray]); (try simp only [List.getElem_cons_succ]); (try simp only [List.getElem_cons_zero]); (try simp only [Act.put]); (try simp only [List.setIfInBounds_toArray]); (try simp only [List.set_cons_succ]); (try simp only [List.set_cons_zero]))
      refine wpAnyH_ready (rs := [8]) (by kernel_rfl) (by simp) ?_
      refine AllReadyH.cons rfl (fun K hK => ?_) AllReadyH.nil
      go_simp
      refine hK.out _ _ ((World.cell?_setCell_other _ _ _ _ (NE.out _)).trans hHeld) (fun hHeld => ?_)
      clear hK K
      ((try simp only [List.getElem_toArray]); (try simp only [List.getElem_cons_succ]); (try simp only [List.getElem_cons_zero]); (try simp only [Act.put]); (try simp only [List.setIfInBounds_toArray]); (try simp only [List.set_cons_succ]); (try simp only [List.set_cons_zero]))
      refine wpAnyH_take (i := 9) (v := ?qvu14) rfl (by kernel_rfl) (by kernel_rfl) (by kernel_rfl) (fun _ _ _ h => h) (Or.inl ⟨by rfl, ?qyu14⟩) (by assumption) ?qru14; case qyu14 => ((intro w hSw; (try dsimp only at hSw); go_simp); try (with_reducible rfl))
      ((try simp only [List.getElem_toArray]); (try simp only [List.getElem_cons_succ]); (try simp only [List.getElem_cons_zero]); (try simp only [Act.put]); (try simp only [List.setIfInBounds_toArray]); (try simp only [List.set_cons_succ]); (try simp only [List.set_cons_zero]))
      refine wpAnyH_take (i := 10) (v := ?qvu15) rfl (by kernel_rfl) (by kernel_rfl) (by kernel_rfl) (fun _ _ _ h => h) (Or.inl ⟨by rfl, ?qyu15⟩) (by assumption) ?qru15; case qyu15 => ((intro w hSw; (try dsimp only at hSw); go_simp); try (with_reducible rfl))
      ((try simp only [List.getElem_toArray]); (try simp only [List.getElem_cons_succ]); (try simp only [List.getElem_cons_zero]); (try simp only [Act.put]); (try simp only [List.setIfInBounds_toArray]); (try simp only [List.set_cons_succ]); (try simp only [List.set_cons_zero]))
      refine wpAnyH_ready (rs := [11]) (by kernel_rfl) (by simp) ?_
      refine AllReadyH.cons rfl (fun K hK => ?_) AllReadyH.nil
      go_simp
      refine hK.out _ _ ((World.cell?_setCell_other _ _ _ _ (NE.out _)).trans hHeld) (fun hHeld => ?_)
      clear hK K
      ((try simp only [List.getElem_toArray]); (try simp only [List.getElem_cons_succ]); (try simp only [List.getElem_cons_zero]); (try simp only [Act.put]); (try simp only [List.setIfInBounds_toArray]); (try simp only [List.set_cons_succ]); (try simp only [List.set_cons_zero]))
      refine wpAnyH_done (by kernel_rfl) ?_ _
      go_wp2_with fail; go_roundw; (case rel => exact ⟨k + 1, S5, _, _, by omega, by omega, by go_num, AFT.out.1, AFT.out.2⟩); (case measure => (simp [intOf]; omega))
     ·have AFT := Lib.hid (end4 D6 Q6 hW HE.out HR.out HK.out HZ.out rfl)
      clear D6 Q6
      go_wp2_with fail; go_roundw; (case rel => exact ⟨k + 1, S5, _, _, by omega, by omega, by go_num, AFT.out.1, AFT.out.2⟩); (case measure => (simp [intOf]; omega))
     ·obtain ⟨ys, q⟩ := Q6.ops kz _ HZ.out
      obtain ⟨A0, q0, cc0, e0⟩ := q.sl
      have e0 : v0 = .slice A0 q0 cc0 := e0
      subst e0
      have lg8 : g8 < w6.heap.size := lt_of_cell (a := ⟨g8, kz * 6 + 5, none⟩) e5
      have ng8 : g8 ≠ w6.heap.size := Nat.ne_of_lt lg8
      have nq : ∀ b, (Value.slice A0 q0 cc0).ownBlock = some b → o b ≠ 0 := fun b hb c => by have := q.lab b hb; rw [c] at this; omega
      have NQ1 := Lib.hid (show ¬ (Value.slice A0 q0 cc0).ownBlock = some N from fun e => nq N e oN.out)
      have NQ2 := Lib.hid (show ¬ (Value.slice A0 q0 cc0).ownBlock = some N1 from fun e => nq N1 e nN1)
      have NG := Lib.hid (show g8 ≠ N from fun e => by have := Q6.lab g8 rfl; rw [e, oN.out] at this; cases this)
      have NG1 := Lib.hid gN1
      have LY := Lib.hid (show ys.length ≤ 100000 by have := DZ.out; rw [← q.eq, List.length_map] at this; exact this)
      have OWN := Lib.hid (OwnM.keep q.own ((Keep.refl (fun _ => False) w6).drew) (fun _ _ => id))
      have kd : Keep (fun _ => False) w6 w6.drew := (Keep.refl _ _).drew
      have AFT := Lib.hid (end0 (D6.quiet kd) (Q6.quiet kd) hW HE.out HR.out HK.out HZ.out rfl (q.keep kd (fun _ _ _ => id)) (O6.out.keep kd (fun _ _ => id)) FF.out)
      have SB : S9 w6 N N1 ok oy oh ov ve vv 0 vr (.slice C5 q5 c5') := ⟨c3, c4, c5, c6, t0, t1, t2, t3, t4⟩
      have SD := Lib.hid (show S9 w6.drew N N1 ok oy oh ov ve vv 0 vr (.slice C5 q5 c5') from SB)
      clear D6 Q6 q kd nq
      go_wp2_with fail
      refine wp_region_held_drew (S := fun w' => w'.cell? ⟨N, 3, none⟩ = some (.int .i64 ok) ∧ w'.cell? ⟨N, 4, none⟩ = some (.int .i64 oy) ∧ w'.cell? ⟨N, 5, none⟩ = some (.int .i64 oh) ∧ w'.cell? ⟨N, 6, none⟩ = some (.int .i64 ov) ∧ w'.cell? ⟨N1, 0, none⟩ = some (.int .i64 ve) ∧ w'.cell? ⟨N1, 1, none⟩ = some (.int .i64 vv) ∧ w'.cell? ⟨N1, 2, none⟩ = some (.slice C5 q5 c5') ∧ w'.cell? ⟨N1, 3, none⟩ = some (.int .i64 0) ∧ w'.cell? ⟨N1, 4, none⟩ = some (.int .i64 vr)) (by kernel_rfl) SB (fun hHeld => ?_)
      clear SB
      refine wpAnyH_take (i := 0) (v := ?qvu16) rfl (by kernel_rfl) (by kernel_rfl) (by kernel_rfl) (fun _ _ _ h => h) (Or.inl ⟨by rfl, ?qyu16⟩) (by assumption) ?qru16; case qyu16 => ((intro w hSw; (try dsimp only at hSw); go_simp); try (with_reducible rfl))
      ((try simp only [List.getElem_toArray]); (try simp only [List.getElem_cons_succ]); (try simp only [List.getElem_cons_zero]); (try simp only [Act.put]); (try simp only [List.setIfInBounds_toArray]); (try simp only [List.set_cons_succ]); (try simp only [List.set_cons_zero]))
      refine wpAnyH_take (i := 1) (v := ?qvu17) rfl (by kernel_rfl) (by kernel_rfl) (by kernel_rfl) (fun _ _ _ h => h) (Or.inl ⟨by rfl, ?qyu17⟩) (by assumption) ?qru17; case qyu17 => ((intro w hSw; (try dsimp only at hSw); go_simp); try (with_reducible rfl))
      ((try simp only [List.getElem_toArray]); (try simp only [List.getElem_cons_succ]); (try simp only [List.getElem_cons_zero]); (try simp only [Act.put]); (try simp only [List.setIfInBounds_toArray]); (try simp only [List.set_cons_succ]); (try simp only [List.set_cons_zero]))
      refine wpAnyH_take (i := 2) (v := ?qvu18) rfl (by kernel_rfl) (by kernel_rfl) (by kernel_rfl) (fun _ _ _ h => h) (Or.inl ⟨by rfl, ?qyu18⟩) (by assumption) ?qru18; case qyu18 => ((intro w hSw; (try dsimp only at hSw); go_simp); try (with_reducible rfl))
      ((try simp only [List.getElem_toArray]); (try simp only [List.getElem_cons_succ]); (try simp only [List.getElem_cons_zero]); (try simp only [Act.put]); (try simp only [List.setIfInBounds_toArray]); (try simp only [List.set_cons_succ]); (try simp only [List.set_cons_zero]))
      refine wpAnyH_take (i := 3) (v := ?qvu19) rfl (by kernel_rfl) (by kernel_rfl) (by kernel_rfl) (fun _ _ _ h => h) (Or.inl ⟨by rfl, ?qyu19⟩) (by assumption) ?qru19; case qyu19 => ((intro w hSw; (try dsimp only at hSw); go_simp); try (with_reducible rfl))
      ((try simp only [List.getElem_toArray]); (try simp only [List.getElem_cons_succ]); (try simp only [List.getElem_cons_zero]); (try simp only [Act.put]); (try simp only [List.setIfInBounds_toArray]); (try simp only [List.set_cons_succ]); (try simp only [List.set_cons_zero]))
      refine wpAnyH_take (i := 5) (v := ?qvu20) rfl (by kernel_rfl) (by kernel_rfl) (by kernel_rfl) (fun _ _ _ h => h) (Or.inl ⟨by rfl, ?qyu20⟩) (by assumption) ?qru20; case qyu20 => ((intro w hSw; (try dsimp only at hSw); go_simp); try (with_reducible rfl))
      ((try simp only [List.getElem_toArray]); (try simp only [List.getElem_cons_succ]); (try simp only [List.getElem_cons_zero]); (try simp only [Act.put]); (try simp only [List.setIfInBounds_toArray]); (try simp only [List.set_cons_succ]); (try simp only [List.set_cons_zero]))
      refine wpAnyH_take (i := 6) (v := ?qvu21) rfl (by kernel_rfl) (by kernel_rfl) (by kernel_rfl) (fun _ _ _ h => h) (Or.inl ⟨by rfl, ?qyu21⟩) (by assumption) ?qru21; case qyu21 => ((intro w hSw; (try dsimp only at hSw); go_simp); try (with_reducible rfl))
      ((try simp only [List.getElem_toArray]); (try simp only [List.getElem_cons_succ]); (try simp only [List.getElem_cons_zero]); (try simp only [Act.put]); (try simp only [List.setIfInBounds_toArray]); (try simp only [List.set_cons_succ]); (try simp only [List.set_cons_zero]))
      refine wpAnyH_take (i := 7) (v := ?qvu22) rfl (by kernel_rfl) (by kernel_rfl) (by kernel_rfl) (fun _ _ _ h => h) (Or.inl ⟨by rfl, ?qyu22⟩) (by assumption) ?qru22; case qyu22 => ((intro w hSw; (try dsimp only at hSw); go_simp); try (with_reducible rfl))
      ((try simp only [List.getElem_toArray]); (try simp only [List.getElem_cons_succ]); (try simp only [List.getElem_cons_zero]); (try simp only [Act.put]); (try simp only [List.setIfInBounds_toArray]); (try simp only [List.set_cons_succ]); (try simp only [List.set_cons_zero]))
      refine wpAnyH_take (i := 8) (v := ?qvu23) rfl (by kernel_rfl) (by kernel_rfl) (by kernel_rfl) (fun _ _ _ h => h) (Or.inl ⟨by rfl, ?qyu23⟩) (by assumption) ?qru23; case qyu23 => ((intro w hSw; (try dsimp only at hSw); go_simp); try (with_reducible rfl))
      ((try simp only [List.getElem_toArray]); (try simp only [List.getElem_cons_succ]); (try simp only [List.getElem_cons_zero]); (try simp only [Act.put]); (try simp only [List.setIfInBounds_toArray]); (try simp only [List.set_cons_succ]); (try simp only [List.set_cons_zero]))
      refine wpAnyH_ready (rs := [4, 9]) (by kernel_rfl) (by simp) ?_
      refine AllReadyH.cons rfl (fun K hK => ?_) (AllReadyH.cons rfl (fun K hK => ?_) AllReadyH.nil)
      ·go_simp
       refine hK.out _ _ hHeld (fun hHeld => ?_)
       clear hK K
       ((try simp only [List.getElem_toArray]); (try simp only [List.getElem_cons_succ]); (try simp only [List.getElem_cons_zero]); (try simp only [Act.put]); (try simp only [List.setIfInBounds_toArray]); (try simp only [List.set_cons_succ]); (try simp only [List.set_cons_zero]))
       refine wpAnyH_ready (rs := [9]) (by kernel_rfl) (by simp) ?_
       refine AllReadyH.cons rfl (fun K hK => ?_) AllReadyH.nil
       go_simp
       refine hK.out _ _ (S9.keep SD.out (Keep.alloc (Keep.refl (fun _ => False) _) _) id id) (fun hHeld => ?_)
       clear hK K
       ((try simp only [List.getElem_toArray]); (try simp only [List.getElem_cons_succ]); (try simp only [List.getElem_cons_zero]); (try simp only [Act.put]); (try simp only [List.setIfInBounds_toArray]); (try simp only [List.set_cons_succ]); (try simp only [List.set_cons_zero]))
       refine wpAnyH_ready (rs := [10]) (by kernel_rfl) (by simp) ?_
       refine AllReadyH.cons rfl (fun K hK => ?_) AllReadyH.nil
       refine step_pushM1 Try.underlying57 info_cl rfl (by decide) (by decide) callF_len rfl (.tmp 68) (.tmp 73) rfl _ ys (by rfl) OWN.out ((⟨ok, oy, oh, ov⟩, ⟨ve, vv, ps, 0, vr⟩), .slice C5 q5 c5') (callF_one C5 q5 c5' _) (by rfl) LY.out ?_
       intro g4 cc4 y4 o4 k4 hg4
       obtain ⟨⟨uu, cu⟩, fu, _, rfl, FD, FO⟩ := AFT.out g4 cc4 y4 o4 k4 hg4
       have NEW := Lib.hid (And.intro FD FO)
       have SY := Lib.hid (S9.keep SD.out k4 NQ1.out NQ2.out)
       clear o4 k4 hg4 FD FO
       refine hK.out _ _ SY.out (fun hHeld => ?_)
       clear hK K
       ((try simp only [List.getElem_toArray]); (try simp only [List.getElem_cons_succ]); (try simp only [List.getElem_cons_zero]); (try simp only [Act.put]); (try simp only [List.setIfInBounds_toArray]); (try simp only [List.set_cons_succ]); (try simp only [List.set_cons_zero]))
       refine wpAnyH_take (i := 11) (v := ?qvu24) rfl (by kernel_rfl) (by kernel_rfl) (by kernel_rfl) (fun _ _ _ h => h) (Or.inl ⟨by rfl, ?qyu24⟩) (by assumption) ?qru24; case qyu24 => ((intro w hSw; (try dsimp only at hSw); go_simp); try (with_reducible rfl))
       ((try simp only [List.getElem_toArray]); (try simp only [List.getElem_cons_succ]); (try simp only [List.getElem_cons_zero]); (try simp only [Act.put]); (try simp only [List.setIfInBounds_toArray]); (try simp only [List.set_cons_succ]); (try simp only [List.set_cons_zero]))
       refine wpAnyH_take (i := 12) (v := ?qvu25) rfl (by kernel_rfl) (by kernel_rfl) (by kernel_rfl) (fun _ _ _ h => h) (Or.inl ⟨by rfl, ?qyu25⟩) (by assumption) ?qru25; case qyu25 => ((intro w hSw; (try dsimp only at hSw); go_simp); try (with_reducible rfl))
       ((try simp only [List.getElem_toArray]); (try simp only [List.getElem_cons_succ]); (try simp only [List.getElem_cons_zero]); (try simp only [Act.put]); (try simp only [List.setIfInBounds_toArray]); (try simp only [List.set_cons_succ]); (try simp only [List.set_cons_zero]))
       refine wpAnyH_ready (rs := [13]) (by kernel_rfl) (by simp) ?_
       refine AllReadyH.cons rfl (fun K hK => ?_) AllReadyH.nil
       go_simp
       go_simp
       refine hK.out _ _ (S9.keep SY.out (keep_one y4 ⟨g8, kz * 6 + 5, none⟩ _) (fun e => NG.out (Eq.symm e)) (fun e => NG1.out (Eq.symm e))) (fun hHeld => ?_)
       clear hK K
       ((try simp only [List.getElem_toArray]); (try simp only [List.getElem_cons_succ]); (try simp only [List.getElem_cons_zero]); (try simp only [Act.put]); (try simp only [List.setIfInBounds_toArray]); (try simp only [List.set_cons_succ]); (try simp only [List.set_cons_zero]))
       refine wpAnyH_done (by kernel_rfl) ?_ _
       go_wp2_with fail; go_roundw; (case rel => exact ⟨k + 1, S5, _, _, by omega, by omega, by go_num, NEW.out.1, NEW.out.2⟩); (case measure => (simp [intOf]; omega))
      ·go_simp
       refine hK.out _ _ (S9.keep SD.out (Keep.alloc (Keep.refl (fun _ => False) _) _) id id) (fun hHeld => ?_)
       clear hK K
       ((try simp only [List.getElem_toArray]); (try simp only [List.getElem_cons_succ]); (try simp only [List.getElem_cons_zero]); (try simp only [Act.put]); (try simp only [List.setIfInBounds_toArray]); (try simp only [List.set_cons_succ]); (try simp only [List.set_cons_zero]))
       refine wpAnyH_ready (rs := [4]) (by kernel_rfl) (by simp) ?_
       refine AllReadyH.cons rfl (fun K hK => ?_) AllReadyH.nil
       go_simp
       refine hK.out _ _ hHeld (fun hHeld => ?_)
       clear hK K
       ((try simp only [List.getElem_toArray]); (try simp only [List.getElem_cons_succ]); (try simp only [List.getElem_cons_zero]); (try simp only [Act.put]); (try simp only [List.setIfInBounds_toArray]); (try simp only [List.set_cons_succ]); (try simp only [List.set_cons_zero]))
       refine wpAnyH_ready (rs := [10]) (by kernel_rfl) (by simp) ?_
       refine AllReadyH.cons rfl (fun K hK => ?_) AllReadyH.nil
       refine step_pushM1 Try.underlying57 info_cl rfl (by decide) (by decide) callF_len rfl (.tmp 68) (.tmp 73) rfl _ ys (by rfl) OWN.out ((⟨ok, oy, oh, ov⟩, ⟨ve, vv, ps, 0, vr⟩), .slice C5 q5 c5') (callF_one C5 q5 c5' _) (by rfl) LY.out ?_
       intro g4 cc4 y4 o4 k4 hg4
       obtain ⟨⟨uu, cu⟩, fu, _, rfl, FD, FO⟩ := AFT.out g4 cc4 y4 o4 k4 hg4
       have NEW := Lib.hid (And.intro FD FO)
       have SY := Lib.hid (S9.keep SD.out k4 NQ1.out NQ2.out)
       clear o4 k4 hg4 FD FO
       refine hK.out _ _ SY.out (fun hHeld => ?_)
       clear hK K
       ((try simp only [List.getElem_toArray]); (try simp only [List.getElem_cons_succ]); (try simp only [List.getElem_cons_zero]); (try simp only [Act.put]); (try simp only [List.setIfInBounds_toArray]); (try simp only [List.set_cons_succ]); (try simp only [List.set_cons_zero]))
       refine wpAnyH_take (i := 11) (v := ?qvu26) rfl (by kernel_rfl) (by kernel_rfl) (by kernel_rfl) (fun _ _ _ h => h) (Or.inl ⟨by rfl, ?qyu26⟩) (by assumption) ?qru26; case qyu26 => ((intro w hSw; (try dsimp only at hSw); go_simp); try (with_reducible rfl))
       ((try simp only [List.getElem_toArray]); (try simp only [List.getElem_cons_succ]); (try simp only [List.getElem_cons_zero]); (try simp only [Act.put]); (try simp only [List.setIfInBounds_toArray]); (try simp only [List.set_cons_succ]); (try simp only [List.set_cons_zero]))
       refine wpAnyH_take (i := 12) (v := ?qvu27) rfl (by kernel_rfl) (by kernel_rfl) (by kernel_rfl) (fun _ _ _ h => h) (Or.inl ⟨by rfl, ?qyu27⟩) (by assumption) ?qru27; case qyu27 => ((intro w hSw; (try dsimp only at hSw); go_simp); try (with_reducible rfl))
       ((try simp only [List.getElem_toArray]); (try simp only [List.getElem_cons_succ]); (try simp only [List.getElem_cons_zero]); (try simp only [Act.put]); (try simp only [List.setIfInBounds_toArray]); (try simp only [List.set_cons_succ]); (try simp only [List.set_cons_zero]))
       refine wpAnyH_ready (rs := [13]) (by kernel_rfl) (by simp) ?_
       refine AllReadyH.cons rfl (fun K hK => ?_) AllReadyH.nil
       go_simp
       go_simp
       refine hK.out _ _ (S9.keep SY.out (keep_one y4 ⟨g8, kz * 6 + 5, none⟩ _) (fun e => NG.out (Eq.symm e)) (fun e => NG1.out (Eq.symm e))) (fun hHeld => ?_)
       clear hK K
       ((try simp only [List.getElem_toArray]); (try simp only [List.getElem_cons_succ]); (try simp only [List.getElem_cons_zero]); (try simp only [Act.put]); (try simp only [List.setIfInBounds_toArray]); (try simp only [List.set_cons_succ]); (try simp only [List.set_cons_zero]))
       refine wpAnyH_done (by kernel_rfl) ?_ _
       go_wp2_with fail; go_roundw; (case rel => exact ⟨k + 1, S5, _, _, by omega, by omega, by go_num, NEW.out.1, NEW.out.2⟩); (case measure => (simp [intOf]; omega))
    ·have de : (e0 != 0) = true := by simpa using hz
     have ed : dlDo x1' (zs.map Prod.fst) s ⟨ok, oy, oh, ov⟩ = ds := by unfold dlDo; rw [HE.out, if_neg hz]; exact EZ.out
     rw [ed] at D6
     have F := Lib.hid (show DOut w.heap.size w6 S5 u8 ds from ⟨zs, o, EZ.out, Q6⟩)
     clear Q6 ed
     go_wp2_with fail; go_roundw; (case rel => exact ⟨k + 1, S5, _, ds, by omega, by omega, by go_num, D6, F.out⟩); (case measure => (simp [intOf]; omega))
  ·rcases (by omega : k = n ∨ (k < n ∧ k = M)) with rfl | ⟨h1, rfl⟩
   ·go_wp2
    refine bodyPost_ret (v := .tuple #[u8, .bool true]) (by simp [results, Try.results6, go_sem]) rfl ?_
    exact ⟨u8, S1, x1', ds, rfl, ⟨zs, o, ez, Q⟩, _, by omega, D⟩
   ·go_wp2
    refine bodyPost_ret (v := .tuple #[u8, .bool true]) (by simp [results, Try.results6, go_sem]) rfl ?_
    exact ⟨u8, S1, x1', ds, rfl, ⟨zs, o, ez, Q⟩, _, by omega, D⟩
end
end Go.Proofs.Ytalkfnblnlcklaa
