/- Several texts, one behind the other: MdD1, MdD2, MdD3, MdD. -/
import Derived.Test.YtkkjofefjepodaaLawModelPlaysZao
import Derived.Test.YtkkjofefjepodaaLawModelPlaysZam
import Derived.Test.YtkkjofefjepodaaLawModelPlaysZap
import Derived.Test.YtkkjofefjepodaaLawModelPlaysZae
import Derived.Test.YtkkjofefjepodaaLawModelPlaysZaf
/- Package model as landed, its laws' face: the contracts over a Model in plain lists. Condition: numbers that fit. -/
namespace Go.Proofs.Ytkkjofefjepodaa
open Go.ChangeShapes Go.WideShapes Go.ChangeAt Go.RowKit
set_option linter.unusedVariables false
set_option linter.unusedSimpArgs false

def I64 (x : Int) : Prop := -9223372036854775808 ≤ x ∧ x ≤ 9223372036854775807
/-- A call's numbers fit. -/
structure OpB (o : OpI) : Prop where
 a : I64 o.kind
 b : I64 o.key
 c : I64 o.hi
 d : I64 o.val
/-- Since W a Model m has been made, in new blocks S; it is x; nothing of W has turned. -/
structure Md (W w : World) (m : Nat) (S : Nat → Prop) (x : MoI) : Prop where
 gd : Good x
 g : ∀ k, S k → W.heap.size ≤ k
 lt : ∀ k, S k → k < w.heap.size
 b : Below W.heap.size W w
 ld : ∃ K o z, LdAt w m K o z ∧ Lr z x ∧ ∀ k, o k ≠ 0 ↔ S k
section
variable {W w w' : World} {m : Nat} {S S' T : Nat → Prop} {x y : MoI} {K : Nat → Value} {o : Nat → Nat} {z : LdI}
theorem Md.own (h : Md W w m S x) {X : Nat → Prop} (kk : Keep X w w') (hX : ∀ g, X g → ¬ S g ∧ W.heap.size ≤ g) : Md W w' m S x := by
 obtain ⟨K, o, z, a, l, e⟩ := h.ld
 exact ⟨h.gd, h.g, fun x hx => Nat.lt_of_lt_of_le (h.lt x hx) kk.size, h.b.trans (kk.below h.b.size (fun g hg => (hX g hg).2)), K, o, z, a.keep kk (fun g hg c => (hX g c).1 ((e g).1 hg)), l, e⟩
theorem Md.quiet (h : Md W w m S x) (kk : Keep (fun _ => False) w w') : Md W w' m S x := h.own kk (fun g hg => hg.elim)
/-- A call that leaves a Model, and nothing else. -/
def MdPost (W w : World) (m : Nat) (S : Nat → Prop) (v : Value) (y : MoI) (e : Ending) (w' : World) : Prop := e = .returned v ∧ ∃ S', Md W w' m S' y ∧ VKeep S S' w w'
/-- A call that leaves a Model, and tells a slice of its own. -/
def MdTold (W w : World) (m : Nat) (S : Nat → Prop) (v : Value → Value) (P : World → Value → Prop) (y : MoI) (e : Ending) (w' : World) : Prop :=
 ∃ u S', e = .returned (v u) ∧ P w' u ∧ (∀ g, u.ownBlock = some g → w.heap.size ≤ g ∧ ¬ S' g) ∧ Md W w' m S' y ∧ VKeep S S' w w'
/-- What a call leaves, out of its cells. -/
theorem Md.step (h : Md W w m S x) (e : ∀ k, o k ≠ 0 ↔ S k) {K' : Nat → Value} {o' : Nat → Nat} {z' : LdI} (gd : Good y) (a : LdAt w' m K' o' z') (l : Lr z' y) (k : Keep (fun g => o g ≠ 0) w w') (n : ∀ g, o' g ≠ 0 → o g ≠ 0 ∨ w.heap.size ≤ g) :
  Md W w' m (fun g => o' g ≠ 0) y ∧ VKeep S (fun g => o' g ≠ 0) w w' := by
 have ks : Keep S w w' := k.mono fun g hg => (e g).1 hg
 have ns : ∀ g, o' g ≠ 0 → S g ∨ w.heap.size ≤ g := fun g hg => (n g hg).imp (e g).1 id
 refine ⟨⟨gd, fun g hg => ?_, fun g hg => a.lt g hg, h.b.trans (ks.below h.b.size h.g), K', o', z', a, l, fun _ => Iff.rfl⟩, ks, ns⟩
 rcases ns g hg with q | q
 ·exact h.g g q
 ·exact Nat.le_trans h.b.size q
theorem Md.stay (h : Md W w m S x) (k : Keep (fun _ => False) w w') : Md W w' m S x ∧ VKeep S S w w' := ⟨h.quiet k, k.mono fun _ e => e.elim, fun _ hk => .inl hk⟩
theorem lr_len (g : Good x) (l : Lr z x) : (∀ k, k < 64 → (z.k k).length ≤ 99999) ∧ usedL z 64 = x.v.length ∧ usedL z 64 ≤ 100000 := by
 obtain ⟨L, io, h⟩ := l
 have u := h.used
 have hl := g.len
 have hc := g.conf
 have e : usedL z 64 = x.v.length := u
 refine ⟨fun k hk => ?_, e, by omega⟩
 have := usedL_le z (show k + 1 ≤ 64 from hk)
 rw [usedL_succ] at this
 omega
theorem md_new (w : World) (slots limit : Int) (hs : I64 slots) (hl : U64 limit) (h : confI slots limit = true) : Calls Try.prog 25 #[cfV slots limit] w fun e w' => ∃ m S, e = .returned (.tuple #[.pointer (some ⟨m, 0, none⟩), .int .i64 0]) ∧ Md w w' m S (new0 slots limit) := by
 refine (new_yes slots limit h w).mono ?_
 rintro e w' ⟨m, o, rfl, hm, a, hg, k⟩
 exact ⟨m, fun g => o g ≠ 0, rfl, good_new h, fun g q => by rw [hg g q]; exact hm, fun g q => a.lt g q, (Below.refl _ w).trans (k.below (Nat.le_refl _) fun _ e => e.elim), _, o, _, a, lr_new _ _ _, fun _ => Iff.rfl⟩
theorem md_none (w : World) (slots limit : Int) (hs : I64 slots) (hl : U64 limit) (h : confI slots limit = false) : Calls Try.prog 25 #[cfV slots limit] w fun e w' => e = .returned (.tuple #[.pointer none, .int .i64 1]) ∧ Below w.heap.size w w' := by
 refine (new_no slots limit h w).mono ?_
 rintro e w' ⟨rfl, k⟩
 exact ⟨rfl, (Below.refl _ w).trans (k.below (Nat.le_refl _) fun _ e => e.elim)⟩
theorem md_begin (h : Md W w m S x) (s level : Int) (hs : I64 s) (hl : I64 level) (n e0 : Int) (y : MoI) (hn : x.begN s level = n) (he : x.begE s level = e0) (hy : x.beg s level = y) :
  Calls Try.prog 22 #[.pointer (some ⟨m, 0, none⟩), .int .i64 s, .int .i64 level] w (MdPost W w m S (.tuple #[.int .i64 n, .int .i64 e0]) y) := by
 subst hn; subst he; subst hy
 obtain ⟨K, o, z, a, ⟨L, io, l⟩, e⟩ := h.ld
 have no : ∀ c : Int, x.begE s level = c → c ≠ 0 → x.begN s level = 0 ∧ x.beg s level = x := fun c hc h0 => by
  unfold MoI.begN MoI.beg
  rw [if_neg (by rw [hc]; exact h0), if_neg (by rw [hc]; exact h0)]
  exact ⟨rfl, rfl⟩
 have c1 := l.c1
 have c2 := l.c2
 have c3 := l.c3
 have c4 := l.c4
 have mm := h.gd.made
 have tt := h.gd.time
 have cf := h.gd.conf
 by_cases hb : s < 0 ∨ 7 < s ∨ level < 1 ∨ 3 < level
 ·have e1 : x.begE s level = 1 := by unfold MoI.begE; rw [if_pos hb]
  obtain ⟨n1, n2⟩ := no 1 e1 (by decide)
  rw [e1, n1, n2]
  refine (begin_arg s level hb w).mono ?_
  rintro e2 w' ⟨rfl, rfl⟩
  exact ⟨rfl, S, h.stay (Keep.refl _ _)⟩
 ·obtain ⟨i, rfl⟩ : ∃ i : Nat, s = (i : Int) := ⟨s.toNat, by omega⟩
  have i8 : i < 8 := by omega
  have lv : 1 ≤ level ∧ level ≤ 3 := by omega
  by_cases hid : (x.s i).id = 0
  ·have zn := (l.ses0 i8).2 hid
   by_cases hm : 2000 ≤ x.made
   ·have e1 : x.begE i level = 65 := by unfold MoI.begE; rw [if_neg hb, Int.toNat_natCast, if_neg (fun c => c hid), if_pos hm]
    obtain ⟨n1, n2⟩ := no 65 e1 (by decide)
    rw [e1, n1, n2]
    refine (begin_many a i i8 level lv zn (by omega)).mono ?_
    rintro e2 w' ⟨rfl, rfl⟩
    exact ⟨rfl, S, h.stay (Keep.refl _ _)⟩
   ·by_cases ht : x.limit ≤ x.time
    ·have e1 : x.begE i level = 16 := by unfold MoI.begE; rw [if_neg hb, Int.toNat_natCast, if_neg (fun c => c hid), if_neg hm, if_pos ht]
     obtain ⟨n1, n2⟩ := no 16 e1 (by decide)
     rw [e1, n1, n2]
     refine (begin_late a i i8 level lv zn (by omega) (by omega)).mono ?_
     rintro e2 w' ⟨rfl, k⟩
     exact ⟨rfl, S, h.stay k⟩
    ·have e1 : x.begE i level = 0 := by unfold MoI.begE; rw [if_neg hb, Int.toNat_natCast, if_neg (fun c => c hid), if_neg hm, if_neg ht]
     have gb := good_beg h.gd i level
     have n1 : x.begN i level = z.begun + 1 := by unfold MoI.begN; rw [if_pos e1, c4]
     have n2 : x.beg i level = { x with time := x.time + 1, made := x.made + 1, s := putS x.s i ⟨x.made + 1, level, 0, x.time + 1, [], []⟩ } := by unfold MoI.beg; rw [if_pos e1, Int.toNat_natCast]
     rw [n2] at gb
     rw [e1, n1, n2]
     refine (begin_ok a i i8 level lv zn (by omega) (by omega) (by omega) (by omega) (by omega) (by omega)).mono ?_
     rintro e2 w' ⟨rfl, tb, tf, o', ob, of, a2, k2, n3⟩
     have lab : ∀ p ∈ L, o p.2.mr = 81 ∧ ∀ d, p.2.en = some d → o d = 81 := fun p hp => by
      have p64 := l.lt p hp
      have : p.2 ∈ z.k p.1 := by rw [l.k p.1 p64]; exact List.mem_map.2 ⟨p, List.mem_filter.2 ⟨hp, decide_eq_true rfl⟩, rfl⟩
      exact (a.oV p.1 p.2 p64 this).2
     have bl := l.beg h.gd i8 zn ⟨tb, z.begun + 1, level, z.clock + 1, 0, fun _ => false, tf⟩ rfl rfl (fun _ => rfl) (fun p hp => ⟨fun c => absurd ((congrArg o c).symm.trans (lab p hp).1) (by rw [of]; decide), fun c => absurd ((lab p hp).2 _ c) (by rw [of]; decide)⟩) (fun j u hj hu c => absurd ((congrArg o c).symm.trans (a.oT j u hj hu).2) (by rw [of]; decide)) 0
     rw [c3, c4] at gb ⊢
     exact ⟨rfl, _, h.step e gb a2 ⟨_, _, bl⟩ k2 n3⟩
  ·obtain ⟨t, ht⟩ := l.sess i8 hid
   have e1 : x.begE i level = 9 := by unfold MoI.begE; rw [if_neg hb, Int.toNat_natCast, if_pos hid]
   obtain ⟨n1, n2⟩ := no 9 e1 (by decide)
   rw [e1, n1, n2]
   refine (begin_live a i i8 level lv ht).mono ?_
   rintro e2 w' ⟨rfl, rfl⟩
   exact ⟨rfl, S, h.stay (Keep.refl _ _)⟩
theorem lowN_eq {L : List (Nat × VeI)} {io : Nat → Int} (h : LrL L io z x) : lowN z 8 = lowL x := by
  have key : ∀ n, n ≤ 8 → lowN z n = (List.range n).foldl (fun a i => if (x.s i).id ≠ 0 then min a (x.s i).start else a) 18446744073709551615 := fun n => by
    induction n with
    | zero => intro _; rfl
    | succ n ih =>
      intro hn
      rw [lowN_succ, List.range_succ, List.foldl_append, List.foldl_cons, List.foldl_nil, ih (by omega)]
      cases ht : z.s n with
      | none =>
        have := (h.ses0 (show n < 8 by omega)).1 ht
        rw [if_neg (fun c => c this)]
      | some t =>
        have ts := h.ts n t (by omega) ht
        rw [if_pos (by rw [ts.id]; exact ts.nz), ts.start]
  exact key 8 (Nat.le_refl _)
theorem md_collect (h : Md W w m S x) (n : Int) (y : MoI) (hn : x.collected = n) (hy : x.collect = y) :
  Calls Try.prog 21 #[.pointer (some ⟨m, 0, none⟩)] w (MdPost W w m S (.int .i64 n) y) := by
 subst hn; subst hy
 obtain ⟨K, o, z, a, ⟨L, io, l⟩, e⟩ := h.ld
 obtain ⟨_, u1, u2⟩ := lr_len h.gd ⟨L, io, l⟩
 have tt := h.gd.time
 have cf := h.gd.conf
 have ub : ∀ i t, i < 8 → z.s i = some t → U64 t.start := fun i t hi ht => by
  have ts := l.ts i t hi ht
  have := (h.gd.ses i hi).lv (by rw [ts.id]; exact ts.nz)
  rw [ts.start] at this
  exact ⟨by omega, by omega⟩
 have lo := lowN_eq l
 have lc := l.collect h.gd
 have ec : sweptL z (lowN z 8) 64 = { z with k := fun k => if k < 64 then (z.k k).filter fun v => !garbV z.F (lowL x) v else z.k k } := by unfold sweptL; rw [lo]
 have lc2 : LrL (L.filter fun p => !garbV z.F (lowL x) p.2) io (sweptL z (lowN z 8) 64) x.collect := by
  rw [ec]
  exact ⟨lc.c1, lc.c2, lc.c3, lc.c4, lc.v, fun k hk => by show (if k < 64 then _ else _) = _; rw [if_pos hk]; exact lc.k k hk, lc.lt, lc.nd, lc.mu, lc.en, lc.no, lc.ts⟩
 have gc := good_collect h.gd
 have u3 : usedL (sweptL z (lowN z 8) 64) 64 = x.collect.v.length := lc2.used
 refine (collect_any a u2 ub).mono ?_
 rintro e2 w' ⟨rfl, K', a2, k2⟩
 refine ⟨?_, _, h.step e gc a2 ⟨_, _, lc2⟩ k2 fun g hg => .inl hg⟩
 rw [u1, u3]
 rfl
theorem md_used (h : Md W w m S x) (n : Int) (hn : (x.v.length : Int) = n) :
  Calls Try.prog 26 #[.pointer (some ⟨m, 0, none⟩)] w (MdPost W w m S (.int .i64 n) x) := by
 subst hn
 obtain ⟨K, o, z, a, l, e⟩ := h.ld
 obtain ⟨_, u1, u2⟩ := lr_len h.gd l
 refine (used_any a u2).mono ?_
 rintro e2 w' ⟨rfl, k⟩
 exact ⟨by rw [u1], S, h.stay k⟩
theorem md_now (h : Md W w m S x) (t : Int) (ht : x.time = t) :
  Calls Try.prog 29 #[.pointer (some ⟨m, 0, none⟩)] w (MdPost W w m S (.int .u64 t) x) := by
 subst ht
 obtain ⟨K, o, z, a, ⟨L, io, l⟩, e⟩ := h.ld
 refine (now_any a).mono ?_
 rintro e2 w' ⟨rfl, rfl⟩
 exact ⟨by rw [l.c3], S, h.stay (Keep.refl _ _)⟩
theorem md_pairs (h : Md W w m S x) (at' : Int) (ha : U64 at') (l : List (Int × Int)) (hl : x.pairs at' = l) :
  Calls Try.prog 28 #[.pointer (some ⟨m, 0, none⟩), .int .u64 at'] w (MdTold W w m S id (fun w' u => OwnPr w' u l) x) := by
 subst hl
 obtain ⟨K, o, z, a, lr, e⟩ := h.ld
 obtain ⟨u0, _, _⟩ := lr_len h.gd lr
 obtain ⟨L, io, lr⟩ := lr
 refine (Pairs_any a (fun k hk => by have := u0 k hk; omega) at').mono ?_
 rintro e2 w' ⟨u, rfl, ou, og, k⟩
 rw [lr.pairs h.gd at'] at ou
 exact ⟨u, S, rfl, ou, fun g hg => ⟨og g hg, fun c => by have := h.lt g c; have := og g hg; omega⟩, h.stay k⟩
theorem md_live (h : Md W w m S x) (l : List Int) (hl : x.live = l) :
    Calls Try.prog 24 #[.pointer (some ⟨m, 0, none⟩)] w (MdTold W w m S id (fun w' u => OwnN 0 w' u l) x) := by
  subst hl
  obtain ⟨K, o, z, a, ⟨L, io, lr⟩, e⟩ := h.ld
  have el : liveZ z 8 = x.live := by
    unfold liveZ MoI.live
    congr 1
    refine List.filter_congr fun i hi => ?_
    have i8 := List.mem_range.1 hi
    have := lr.ses0 i8
    rw [Bool.eq_iff_iff, decide_eq_true_iff]
    cases c : z.s i with
    | none => simp [this.1 c]
    | some t => have q : ¬ (x.s i).id = 0 := fun q => by have := this.2 q; rw [c] at this; cases this
                simp [q]
  refine (live_any a).mono ?_
  rintro e2 w' ⟨u, rfl, ou, k⟩
  rw [el] at ou
  have og := fun g hg => (OwnN.lt ou (g := g) hg).1
  obtain ⟨a1, a2⟩ := ou
  refine ⟨u, S, rfl, ⟨a1, a2.imp id fun ⟨g, c, cur, q1, q2, q3⟩ => ⟨g, c, cur, q1, Nat.zero_le _, q3⟩⟩, fun g hg => ⟨og g hg, fun c => by have := h.lt g c; have := og g hg; omega⟩, h.stay k⟩
theorem md_status (h : Md W w m S x) (s : Int) (hs : I64 s) (v : Value) (hv : x.statV s = v) :
    Calls Try.prog 30 #[.pointer (some ⟨m, 0, none⟩), .int .i64 s] w (MdPost W w m S v x) := by
  subst hv
  obtain ⟨K, o, z, a, ⟨L, io, lr⟩, e⟩ := h.ld
  have es : statL z s = x.statV s := by
    unfold statL MoI.statV
    by_cases hb : s < 0 ∨ 7 < s
    · rw [if_pos hb, if_pos hb]
    · rw [if_neg hb, if_neg hb]
      have s8 : s.toNat < 8 := by omega
      have := lr.ses0 s8
      cases c : z.s s.toNat with
      | none => rw [if_pos (this.1 c)]
      | some t =>
        have ts := lr.ts _ t s8 c
        rw [if_neg (by rw [ts.id]; exact ts.nz), ts.id, ts.level, ts.start, ts.ops]
  refine (status_any a s).mono ?_
  rintro e2 w' ⟨rfl, k⟩
  exact ⟨by rw [es], S, h.stay k⟩
end
end Go.Proofs.Ytkkjofefjepodaa
/- Package model as landed, its laws' face, second part: gets, scans, ends. Condition: numbers that fit. -/
namespace Go.Proofs.Ytkkjofefjepodaa
open Go.ChangeShapes Go.WideShapes Go.ChangeAt Go.RowKit
set_option linter.unusedVariables false
set_option linter.unusedSimpArgs false
section
variable {W w w' : World} {m : Nat} {S S' T : Nat → Prop} {x y : MoI} {K : Nat → Value} {o : Nat → Nat} {z : LdI} {t : TtI}
/-- What Do is to show. -/
def DoX (w : World) (m : Nat) (K : Nat → Value) (o : Nat → Nat) (z : LdI) (n : Nat) (op : OpI) (r : ReI) (y : MoI) : Prop := Calls Try.prog 19 #[.pointer (some ⟨m, 0, none⟩), .int .i64 n, opV op] w (DoEnd w m o r 0 fun z' => Lr z' y)
theorem DoEnd.mono {r : ReI} {e0 : Int} {Z1 Z2 : LdI → Prop} {e : Ending} (h : DoEnd w m o r e0 Z1 e w') (hz : ∀ z, Z1 z → Z2 z) : DoEnd w m o r e0 Z2 e w' := by
 obtain ⟨u, z', K', o', a, b, c⟩ := h
 exact ⟨u, z', K', o', a, hz _ b, c⟩
theorem dox_over (a : LdAt w m K o z) {L : List (Nat × VeI)} {io : Nat → Int} (l : LrL L io z x) (g : Good x) {n : Nat} (n8 : n < 8) (ht : z.s n = some t) (key hi val : Int) (hok : okI ⟨7, key, hi, val⟩ = true) : DoX w m K o z n ⟨7, key, hi, val⟩ ⟨0, 0, [], 4, 1⟩ (x.over n) := by
 have ts := l.ts n t n8 ht
 refine (do_over a n n8 ht ⟨7, key, hi, val⟩ hok true (by simp) (.inl rfl) ⟨0, 0, [], 4, 1⟩ (by decide) (fun z' => z' = { z with F := updF z.F t.f ⟨4, 0⟩ }) fun w1 a1 => (exec_abort a1 n8 ht ts.st key hi val).mono fun e w' => LdRes.fin rfl).mono fun e w' hd => hd.mono ?_
 rintro z' ⟨z0, rfl, rfl⟩
 exact ⟨L, io, l.gone g n8 ht 0⟩
theorem dox_commit (a : LdAt w m K o z) {L : List (Nat × VeI)} {io : Nat → Int} (l : LrL L io z x) (g : Good x) {n : Nat} (n8 : n < 8) (ht : z.s n = some t) (key hi val : Int) (hok : okI ⟨6, key, hi, val⟩ = true) : DoX w m K o z n ⟨6, key, hi, val⟩ (x.commit n).1 (x.commit n).2 := by
  have ts := l.ts n t n8 ht
  obtain ⟨u0, _, _⟩ := lr_len g ⟨L, io, l⟩
  have u1 : ∀ k, k < 64 → (z.k k).length ≤ 100000 := fun k hk => by have := u0 k hk; omega
  have c2 := l.c2
  have c3 := l.c3
  have tt := g.time
  have cf := g.conf
  by_cases hl : x.limit ≤ x.time
  · have e : x.commit n = (MoI.bad 6, x.over n) := by unfold MoI.commit; rw [if_pos hl]
    rw [e]
    refine (do_over a n n8 ht ⟨6, key, hi, val⟩ hok true (by simp) (.inl rfl) (MoI.bad 6) (by decide) (fun z' => z' = { z with F := updF z.F t.f ⟨4, 0⟩ }) fun w1 a1 => exec_commit a1 n8 ht key hi val _ _ fun w2 a2 => (commit_late a2 n8 ht ts.st (by omega)).mono fun e w' => LdRes.fin rfl).mono fun e w' hd => hd.mono ?_
    rintro z' ⟨z0, rfl, rfl⟩
    exact ⟨L, io, l.gone g n8 ht 0⟩
  · have lt : LrL L io (tickL z) { x with time := x.time + 1 } := by
      have := l.tick (z.clock + 1)
      rw [c3]
      exact this
    have gt := good_tick g (show x.time < x.limit by omega)
    have hh := lt.holds gt n8 (show (tickL z).s n = some t from ht) (z.clock + 1) (by show x.time + 1 ≤ z.clock + 1; omega)
    have hx : ({ ({ x with time := x.time + 1 } : MoI) with time := z.clock + 1 } : MoI) = { x with time := x.time + 1 } := by rw [c3]
    rw [hx] at hh
    have hlv := ts.level
    cases hv : holdsL (tickL z) t (z.clock + 1) with
    | false =>
      rw [hv] at hh
      have hh := hh.symm
      rw [Bool.or_eq_false_iff, decide_eq_false_iff_not] at hh
      have e : x.commit n = (MoI.bad 3, ({ x with time := x.time + 1 } : MoI).over n) := by
        unfold MoI.commit
        rw [if_neg hl]
        simp only
        rw [if_pos ⟨by rw [hlv]; exact hh.1, hh.2⟩]
      rw [e]
      refine (do_over a n n8 ht ⟨6, key, hi, val⟩ hok true (by simp) (.inl rfl) (MoI.bad 3) (by decide) (fun z' => z' = { tickL z with F := updF z.F t.f ⟨4, 0⟩ }) fun w1 a1 => exec_commit a1 n8 ht key hi val _ _ fun w2 a2 => (commit_bad a2 n8 ht ts.st (by omega) (by omega) (by omega) (by omega) u1 hv).mono fun e w' => LdRes.fin rfl).mono fun e w' hd => hd.mono ?_
      rintro z' ⟨z0, rfl, rfl⟩
      exact ⟨L, io, lt.gone gt n8 ht 0⟩
    | true =>
      rw [hv] at hh
      have hh := hh.symm
      rw [Bool.or_eq_true, decide_eq_true_iff] at hh
      have e : x.commit n = (⟨0, 0, [], 3, 0⟩, { x with time := x.time + 1, v := x.v.map (doneV (x.s n).id (x.time + 1)), s := putS x.s n tx0 }) := by
        unfold MoI.commit
        rw [if_neg hl]
        simp only
        rw [if_neg (fun c => by
          rcases hh with q | q
          · exact c.1 (hlv.trans q)
          · have := c.2; rw [q] at this; cases this)]
      rw [e]
      refine (do_over a n n8 ht ⟨6, key, hi, val⟩ hok true (by simp) (.inl rfl) ⟨0, 0, [], 3, 0⟩ (by decide) (fun z' => z' = { tickL z with F := updF z.F t.f ⟨3, z.clock + 1⟩ }) fun w1 a1 => exec_commit a1 n8 ht key hi val _ _ fun w2 a2 => (commit_ok a2 n8 ht ts.st (by omega) (by omega) (by omega) (by omega) u1 hv).mono fun e w' => LdRes.fin rfl).mono fun e w' hd => hd.mono ?_
      rintro z' ⟨z0, rfl, rfl⟩
      have := lt.done gt n8 ht (z.clock + 1) (by omega)
      rw [c3]
      rw [c3] at this
      exact ⟨L, io, this⟩
theorem dox_get (a : LdAt w m K o z) {L : List (Nat × VeI)} {io : Nat → Int} (l : LrL L io z x) (g : Good x) {n : Nat} (n8 : n < 8) (ht : z.s n = some t) (hop : (x.s n).ops < 12) (k : Nat) (k64 : k < 64) (hi val : Int) (hok : okI ⟨1, k, hi, val⟩ = true) : DoX w m K o z n ⟨1, k, hi, val⟩ ((x.count n).get n ⟨1, k, hi, val⟩).1 ((x.count n).get n ⟨1, k, hi, val⟩).2 := by
 have ts := l.ts n t n8 ht
 have id0 : (x.s n).id ≠ 0 := by rw [ts.id]; exact ts.nz
 have hops := ts.ops
 have so := (g.ses n n8).ops
 obtain ⟨u0, _, _⟩ := lr_len g ⟨L, io, l⟩
 have lc : LrL L io (setT z n (opsT t)) (x.count n) := l.count n8 ht
 have gc := good_count g n8 id0 hop
 have h1 : (setT z n (opsT t)).s n = some (opsT t) := putT_self _ _ _
 have c1 := count_at x n
 have hw : ∀ q : Int, q ∈ ((x.count n).s n).wrote ↔ q ∈ (x.s n).wrote := fun q => by rw [c1]
 have run : ∀ r Zs, (∀ w2, LdAt w2 m K o (setT z n (opsT t)) → Calls Try.prog 75 #[.pointer (some ⟨m, 0, none⟩), .pointer (some ⟨t.b, 0, none⟩), .int .i64 k] w2 (LdEnd w2 m o r Zs)) → r.over = 0 → Calls Try.prog 19 #[.pointer (some ⟨m, 0, none⟩), .int .i64 n, opV ⟨1, k, hi, val⟩] w (DoEnd w m o r 0 Zs) := fun r Zs hP hr =>
  do_stay a n n8 ht ⟨1, k, hi, val⟩ hok false (by simp) (.inr (by omega)) r hr Zs fun w1 a1 => exec_get a1 n8 ht k hi val (by omega) r Zs hP
 have G := fun w2 (a2 : LdAt w2 m K o (setT z n (opsT t))) => lget_any a2 n8 h1 k64 (by show (z.k k).length ≤ 100000; have := u0 k k64; omega)
 unfold DoX MoI.get
 simp only
 rcases lc.sees gc n8 h1 k64 with ⟨e1, e2⟩ | ⟨j, v, e1, e2, e3, _⟩
 ·rw [e1]
  rw [e2] at G
  refine run _ _ (fun w2 a2 => (G w2 a2).mono fun e w' q => (LdRes.fin rfl q).mono ?_) rfl
  rintro z' rfl
  have ez : setT (setT z n (opsT t)) n (gotT (opsT t) none k) = { setT z n (opsT t) with s := putT (setT z n (opsT t)).s n (some (relyT (opsT t) 3 k k)) } := rfl
  by_cases hk : (k : Int) ∈ ((x.count n).s n).wrote
  ·rw [if_pos hk]
   exact ⟨L, io, lc.keepA n8 h1 3 (by decide) hk⟩
  ·rw [if_neg hk]
   exact ⟨L, io, lc.keepR n8 h1 3 k k false false (by simp)⟩
 ·rw [e1]
  rw [e3] at G
  have ev : valI (x.count n).v j = v.val := by
   have := lc.at e2
   unfold valI
   rw [this]
   rfl
  simp only [ev]
  refine run _ _ (fun w2 a2 => (G w2 a2).mono fun e w' q => (LdRes.fin rfl q).mono ?_) rfl
  rintro z' rfl
  by_cases hk : (k : Int) ∈ ((x.count n).s n).wrote
  ·rw [if_pos hk]
   exact ⟨L, io, lc.keepA n8 h1 2 (by decide) hk⟩
  ·rw [if_neg hk]
   exact ⟨L, io, lc.keepR n8 h1 2 k k true false (by simp)⟩
theorem dox_scan (a : LdAt w m K o z) {L : List (Nat × VeI)} {io : Nat → Int} (l : LrL L io z x) (g : Good x) {n : Nat} (n8 : n < 8) (ht : z.s n = some t) (hop : (x.s n).ops < 12) (lo hh : Nat) (h1 : lo ≤ hh) (h2 : hh < 64) (val : Int) (hok : okI ⟨5, lo, hh, val⟩ = true) : DoX w m K o z n ⟨5, lo, hh, val⟩ ((x.count n).scan n ⟨5, lo, hh, val⟩).1 ((x.count n).scan n ⟨5, lo, hh, val⟩).2 := by
 have ts := l.ts n t n8 ht
 have id0 : (x.s n).id ≠ 0 := by rw [ts.id]; exact ts.nz
 have hops := ts.ops
 have so := (g.ses n n8).ops
 obtain ⟨u0, _, _⟩ := lr_len g ⟨L, io, l⟩
 have lc : LrL L io (setT z n (opsT t)) (x.count n) := l.count n8 ht
 have gc := good_count g n8 id0 hop
 have hs1 : (setT z n (opsT t)).s n = some (opsT t) := putT_self _ _ _
 have e : pairsL z (seesV z.F t) lo (hh + 1 - lo) = scanI (x.count n).v ((x.count n).s n).id ((x.count n).s n).start lo hh := lc.scan gc n8 hs1 lo hh h1 h2
 unfold DoX MoI.scan
 simp only
 rw [← e]
 refine (do_stay a n n8 ht ⟨5, lo, hh, val⟩ hok false (by simp) (.inr (by omega)) _ rfl _ fun w1 a1 => exec_scan a1 n8 ht lo hh h1 h2 val (by omega) (fun k hk => by have := u0 k hk; omega)).mono fun e w' hd => hd.mono ?_
 rintro z' rfl
 have := lc.keepR n8 hs1 3 lo hh false true (by simp)
 have ez : ({ setT z n (opsT t) with s := putT (setT z n (opsT t)).s n (some { opsT t with again := fun k => (opsT t).again k || (decide ((3 : Int) ≤ (opsT t).level) && decide ((lo : Int) ≤ (k : Int)) && decide ((k : Int) ≤ (hh : Int))) }) } : LdI) = setT z n (relyT (opsT t) 3 lo hh) := by
  unfold setT
  simp only [putT_put]
  rfl
 rw [ez] at this
 exact ⟨L, io, this⟩
end
end Go.Proofs.Ytkkjofefjepodaa
/- Package model as landed, its laws' face, third part: writes. Condition: numbers that fit. -/
namespace Go.Proofs.Ytkkjofefjepodaa
open Go.ChangeShapes Go.WideShapes Go.ChangeAt Go.RowKit
set_option linter.unusedVariables false
set_option linter.unusedSimpArgs false
section
variable {W w w' : World} {m : Nat} {S S' T : Nat → Prop} {x y : MoI} {K : Nat → Value} {o : Nat → Nat} {z : LdI} {t : TtI} {L : List (Nat × VeI)} {io : Nat → Int}
def WrX (m : Nat) (K : Nat → Value) (o : Nat → Nat) (z : LdI) (n : Nat) (t : TtI) (op : OpI) (r : ReI) (y : MoI) : Prop :=
 (r.over = 0 ∧ ∀ w, LdAt w m K o z → Calls Try.prog 78 #[.pointer (some ⟨m, 0, none⟩), .pointer (some ⟨t.b, 0, none⟩), opV op] w (LdEnd w m o r fun z' => Lr z' y)) ∨
 (r.over ≠ 0 ∧ ∀ w, LdAt w m K o z → Calls Try.prog 78 #[.pointer (some ⟨m, 0, none⟩), .pointer (some ⟨t.b, 0, none⟩), opV op] w (LdEnd w m o r fun z' => Lr { z' with s := putT z'.s n none } y))
theorem keepW_eq (x : MoI) (n : Nat) (k : Int) (v : List VrI) : ({ (if k ∈ (x.s n).wrote then x else x.keepW n k) with v := v } : MoI) = { x with v := v, s := putS x.s n { x.s n with wrote := if k ∈ (x.s n).wrote then (x.s n).wrote else (x.s n).wrote ++ [k] } } := by
 by_cases h : k ∈ (x.s n).wrote
 ·rw [if_pos h, if_pos h]
  have : putS x.s n { x.s n with wrote := (x.s n).wrote } = x.s := putS_same
  rw [this]
 ·rw [if_neg h, if_neg h]; rfl
theorem LrL.in_k (l : LrL L io z x) {p : Nat × VeI} (hp : p ∈ L) : p.2 ∈ z.k p.1 := by
 rw [l.k p.1 (l.lt p hp)]
 exact List.mem_map.2 ⟨p, List.mem_filter.2 ⟨hp, decide_eq_true rfl⟩, rfl⟩
theorem lwr_any (l : LrL L io z x) (g : Good x) {n : Nat} (n8 : n < 8) (ht : z.s n = some t) (kind val : Int) (hk : kind = 2 ∨ kind = 3 ∨ kind = 4) {k : Nat} (k64 : k < 64) :
    WrX m K o z n t ⟨kind, k, 0, val⟩ (x.write n ⟨kind, k, 0, val⟩).1 (x.write n ⟨kind, k, 0, val⟩).2 := by
  have ts := l.ts n t n8 ht
  have id0 : (x.s n).id ≠ 0 := by rw [ts.id]; exact ts.nz
  obtain ⟨u0, u1, u2⟩ := lr_len g ⟨L, io, l⟩
  have v1 : ∀ k, k < 64 → (z.k k).length ≤ 100000 := fun k hk => by have := u0 k hk; omega
  have sq := l.sees g n8 ht k64
  have cn := l.conf_none g n8 ht k64
  by_cases hno : (kind = 2 ∧ seesI x.v (x.s n).id (x.s n).start k ≠ none) ∨ (kind ≠ 2 ∧ seesI x.v (x.s n).id (x.s n).start k = none)
  · rw [wr_no n ⟨kind, k, 0, val⟩ hno]
    left
    refine ⟨rfl, fun w a => ?_⟩
    have hr : (if seesI x.v (x.s n).id (x.s n).start k = none then (11 : Int) else 12) = if kind = 2 ∧ ((z.k k).find? (seesV z.F t)).isSome = true then 12 else if kind ≠ 2 ∧ ((z.k k).find? (seesV z.F t)).isSome = false then 11 else 0 := by
      rcases sq with ⟨e1, e2⟩ | ⟨j, v, e1, _, e2, _⟩
      · rw [e1] at hno ⊢
        rw [e2]
        have : kind ≠ 2 := hno.elim (fun c => absurd rfl c.2) (fun c => c.1)
        simp [this]
      · rw [e1] at hno ⊢
        rw [e2]
        have : kind = 2 := hno.elim (fun c => c.1) (fun c => by cases c.2)
        simp [this]
    refine (lwrite_no a n8 ht k64 v1 kind val _ hr (by split <;> decide)).mono fun e w' q => (LdRes.fin rfl q).mono ?_
    rintro z' rfl
    show Lr _ (if (k : Int) ∈ (x.s n).wrote then x else x.keepR n ⟨k, k, false, false⟩)
    by_cases hw : (k : Int) ∈ (x.s n).wrote
    · rw [if_pos hw]; exact ⟨L, io, l.keepA n8 ht 3 (by decide) hw⟩
    · rw [if_neg hw]; exact ⟨L, io, l.keepR n8 ht 3 k k false false (by simp)⟩
  · have hr : (0 : Int) = if kind = 2 ∧ ((z.k k).find? (seesV z.F t)).isSome = true then 12 else if kind ≠ 2 ∧ ((z.k k).find? (seesV z.F t)).isSome = false then 11 else 0 := by
      rcases sq with ⟨e1, e2⟩ | ⟨j, v, e1, _, e2, _⟩
      · rw [e1] at hno
        rw [e2]
        have : kind = 2 := Classical.byContradiction fun c => hno (.inr ⟨c, rfl⟩)
        simp [this]
      · rw [e1] at hno
        rw [e2]
        have : kind ≠ 2 := fun c => hno (.inl ⟨c, fun c => by cases c⟩)
        simp [this]
    by_cases hc : (z.k k).find? (confV z.F t) = none
    · have ok : (k : Int) ∈ (x.s n).wrote ∨ x.taken (x.s n).id (x.s n).start k = false := by
        by_cases q : (k : Int) ∈ (x.s n).wrote
        · exact .inl q
        · right
          cases c : x.taken (x.s n).id (x.s n).start k with
          | false => rfl
          | true => exact absurd hc (cn.2 ⟨q, c⟩)
      have inw : ∀ j, x.v.findIdx? (ownV (x.s n).id k) = some j → (k : Int) ∈ (x.s n).wrote := fun j ho => Classical.byContradiction fun c => by
        have := g.own_none n8 id0 c
        rw [ho] at this
        cases this
      by_cases k4 : kind = 4
      · subst k4
        rw [wr_ok n ⟨4, k, 0, val⟩ hno ok (fun c => c.1 rfl)]
        left
        refine ⟨rfl, fun w a => ?_⟩
        rcases sq with ⟨e1, e2⟩ | ⟨j, v, e1, e2, e3, e4⟩
        · exact absurd (.inr ⟨by decide, e1⟩) hno
        · refine (write_del a n8 ht k64 v1 val e3 hc).mono fun e w' q => (LdRes.fin rfl q).mono ?_
          rintro z' rfl
          obtain ⟨L', l', p, hp, pe, pm⟩ := l.endV g n8 ht k64 hc e2 e4
          have fin := l'.keepW n8 ht k hp pe (.inr pm)
          have ev : MoI.wroteV x.v (x.s n).id ⟨4, k, 0, val⟩ (some j) (x.v.findIdx? (ownV (x.s n).id k)) = setV x.v j fun y => { y with ended := (x.s n).id } := by
            cases ho : x.v.findIdx? (ownV (x.s n).id k) with
            | none => rw [wroteV_end, if_pos rfl, List.append_nil]
            | some i =>
              have q := g.own_seen n8 id0 (inw i ho) e1
              rw [ho] at q
              cases q
              rw [wroteV_own (fun i q => q), if_pos rfl]
          refine ⟨L', io, ?_⟩
          show LrL L' io _ ({ (if (k : Int) ∈ (x.s n).wrote then x else x.keepW n k) with v := MoI.wroteV x.v (x.s n).id ⟨4, k, 0, val⟩ (seesI x.v (x.s n).id (x.s n).start k) (x.v.findIdx? (ownV (x.s n).id k)) } : MoI)
          rw [keepW_eq, e1, ev]
          exact fin
      · cases ho : x.v.findIdx? (ownV (x.s n).id k) with
        | some j =>
          obtain ⟨v, hj, hm, hx, hf⟩ := l.find_some k64 (l.q_made n8 ht k) ho
          have hm : v.mr = t.f := of_decide_eq_true hm
          have hw := inw j ho
          have hst : stopO z.F v.en = 0 := by
            have vo := (g.ver _ (l.mem (List.mem_of_getElem? hj))).by'
            have e : (verOf z.F io (k, v)).bY = t.id := by
              show (if (z.F v.mr).st = 3 then 0 else io v.mr) = t.id
              rw [hm, if_neg (by rw [ts.st]; decide), ts.io]
            exact (vo (by rw [e]; exact ts.nz)).1
          rw [wr_ok n ⟨kind, k, 0, val⟩ hno ok (fun c => by have := c.2.1; rw [show x.v.findIdx? (ownV (x.s n).id (⟨kind, k, 0, val⟩ : OpI).key) = some j from ho] at this; cases this)]
          left
          refine ⟨rfl, fun w a => ?_⟩
          refine (write_put a n8 ht k64 v1 kind val k4 hr hc re0 _ fun w1 a1 => (put_own a1 n8 ht k64 v1 hf val _).mono fun e w' => LdRes.fin rfl).mono fun e w' q => q.mono ?_
          rintro z' rfl
          obtain ⟨L', l', p, hp, pe, pm⟩ := l.valV n8 ht k64 hc hj hm hst val
          have fin := l'.keepW n8 ht k hp pe (.inl pm)
          have ev : MoI.wroteV x.v (x.s n).id ⟨kind, k, 0, val⟩ (seesI x.v (x.s n).id (x.s n).start k) (some j) = setV x.v j fun y => { y with ended := 0, val := val } := by
            rw [wroteV_own (fun i hi => by have := g.own_seen n8 id0 hw hi; rw [ho] at this; exact this)]
            exact if_neg k4
          refine ⟨L', io, ?_⟩
          show LrL L' io _ ({ (if (k : Int) ∈ (x.s n).wrote then x else x.keepW n k) with v := MoI.wroteV x.v (x.s n).id ⟨kind, k, 0, val⟩ (seesI x.v (x.s n).id (x.s n).start k) (x.v.findIdx? (ownV (x.s n).id k)) } : MoI)
          rw [keepW_eq, ho, ev]
          exact fin
        | none =>
          have hq : (z.k k).find? (madeV t) = none := l.find_none k64 (l.q_made n8 ht k) ho
          have c1 := l.c1
          have gl := g.len
          by_cases hf : x.slots ≤ x.v.length
          · rw [wr_full n ⟨kind, k, 0, val⟩ hno ok k4 ho hf]
            right
            have hs : (usedL z 64 : Int) = z.slots := by rw [u1, ← c1]; omega
            refine ⟨show (4 : Int) ≠ 0 by decide, fun w a => ?_⟩
            refine (write_put a n8 ht k64 v1 kind val k4 hr hc (MoI.bad 5) _ fun w1 a1 => (put_full a1 n8 ht ts.st k64 v1 hq u2 hs val _).mono fun e w' => LdRes.fin rfl).mono fun e w' q => q.mono ?_
            rintro z' rfl
            exact ⟨L, io, l.gone g n8 ht 0⟩
          · rw [wr_ok n ⟨kind, k, 0, val⟩ hno ok (fun c => hf c.2.2)]
            left
            refine ⟨rfl, fun w a => ?_⟩
            have hs : (usedL z 64 : Int) ≠ z.slots := by rw [u1, ← c1]; omega
            have fr : ∀ nb, o nb = 0 → ∀ k' v, k' < 64 → v ∈ z.k k' → v.b ≠ nb := fun nb hn k' v hk' hv c => by
              have := (a.oV k' v hk' hv).1
              rw [c, hn] at this
              cases this
            have nv : ∀ nb, verOf z.F io (k, ⟨nb, val, t.f, none⟩) = newV k val (x.s n).id := fun nb => by
              unfold verOf Go.Proofs.Ytkkjofefjepodaa.newV endO stopO
              simp [ts.st, ts.io, ts.id]
            rcases sq with ⟨e1, e2⟩ | ⟨j, v, e1, e2, e3, e4⟩
            · refine (write_put a n8 ht k64 v1 kind val k4 hr hc re0 (fun z' => ∃ nb, o nb = 0 ∧ z' = newZ z k ⟨nb, val, t.f, none⟩) fun w1 a1 => ?_).mono fun e w' q => q.mono ?_
              · rw [e2]; exact put_fresh a1 n8 ht k64 u0 hq u2 hs val
              · rintro z' ⟨nb, h0, rfl⟩
                have l' := l.new k64 ⟨nb, val, t.f, none⟩ (fun p hp => fr nb h0 p.1 p.2 (l.lt p hp) (l.in_k hp)) (l.usT g n8 ht) rfl
                rw [nv] at l'
                have fin := l'.keepW n8 ht k (List.mem_append_right _ (List.mem_singleton.2 rfl)) rfl (.inl rfl)
                have ev : MoI.wroteV x.v (x.s n).id ⟨kind, k, 0, val⟩ none none = x.v ++ [newV k val (x.s n).id] := if_neg k4
                refine ⟨L ++ [(k, ⟨nb, val, t.f, none⟩)], io, ?_⟩
                show LrL _ io _ ({ (if (k : Int) ∈ (x.s n).wrote then x else x.keepW n k) with v := MoI.wroteV x.v (x.s n).id ⟨kind, k, 0, val⟩ (seesI x.v (x.s n).id (x.s n).start k) (x.v.findIdx? (ownV (x.s n).id k)) } : MoI)
                rw [keepW_eq, ho, e1, ev]
                exact fin
            · refine (write_put a n8 ht k64 v1 kind val k4 hr hc re0 (fun z' => ∃ nb, o nb = 0 ∧ z' = newZ (turnZ z k v.b (endV t.f)) k ⟨nb, val, t.f, none⟩) fun w1 a1 => ?_).mono fun e w' q => q.mono ?_
              · rw [e3]; exact put_seen a1 n8 ht k64 u0 hq u2 hs (List.mem_of_find?_eq_some e3) val
              · rintro z' ⟨nb, h0, rfl⟩
                obtain ⟨L', l', p, hp, pe, pm⟩ := l.endV g n8 ht k64 hc e2 e4
                have l2 := l'.new k64 ⟨nb, val, t.f, none⟩ (fun p hp => by
                  have a1 := l'.in_k hp
                  have a2 := l'.lt p hp
                  have a1 : p.2 ∈ putK z.k k (turnB v.b (fun u => { u with en := some t.f }) (z.k k)) p.1 := a1
                  by_cases c : p.1 = k
                  · rw [c, putK_self] at a1
                    obtain ⟨q, hq, e⟩ := List.mem_map.1 a1
                    rw [← e]
                    have := fr nb h0 k q k64 hq
                    by_cases c2 : q.b = v.b
                    · rw [if_pos c2]; exact this
                    · rw [if_neg c2]; exact this
                  · rw [putK_ne _ _ c] at a1
                    exact fr nb h0 p.1 p.2 a2 a1) (l.usT g n8 ht) rfl
                have nv2 : verOf ({ z with k := putK z.k k (turnB v.b (fun u => { u with en := some t.f }) (z.k k)) } : LdI).F io (k, ⟨nb, val, t.f, none⟩) = newV k val (x.s n).id := nv nb
                rw [nv2] at l2
                have fin := l2.keepW n8 ht k (List.mem_append_right _ (List.mem_singleton.2 rfl)) rfl (.inl rfl)
                have ev : MoI.wroteV x.v (x.s n).id ⟨kind, k, 0, val⟩ (some j) none = (setV x.v j fun y => { y with ended := (x.s n).id }) ++ [newV k val (x.s n).id] := by
                  rw [wroteV_end]
                  exact congrArg _ (if_neg k4)
                refine ⟨L' ++ [(k, ⟨nb, val, t.f, none⟩)], io, ?_⟩
                show LrL _ io _ ({ (if (k : Int) ∈ (x.s n).wrote then x else x.keepW n k) with v := MoI.wroteV x.v (x.s n).id ⟨kind, k, 0, val⟩ (seesI x.v (x.s n).id (x.s n).start k) (x.v.findIdx? (ownV (x.s n).id k)) } : MoI)
                rw [keepW_eq, ho, e1, ev]
                exact fin
    · obtain ⟨q1, q2⟩ := cn.1 hc
      rw [wr_con n ⟨kind, k, 0, val⟩ hno q1 q2]
      right
      refine ⟨show (4 : Int) ≠ 0 by decide, fun w a => ?_⟩
      obtain ⟨v, hv⟩ := Option.ne_none_iff_exists'.1 hc
      refine (lwrite_con a n8 ht ts.st k64 v1 kind val hr hv).mono fun e w' q => (LdRes.fin rfl q).mono ?_
      rintro z' rfl
      exact ⟨L, io, l.gone g n8 ht 0⟩
theorem dox_write (a : LdAt w m K o z) (l : LrL L io z x) (g : Good x) {n : Nat} (n8 : n < 8) (ht : z.s n = some t) (hop : (x.s n).ops < 12) (kind val : Int) (hk : kind = 2 ∨ kind = 3 ∨ kind = 4) {k : Nat} (k64 : k < 64) (hok : okI ⟨kind, k, 0, val⟩ = true) : DoX w m K o z n ⟨kind, k, 0, val⟩ ((x.count n).write n ⟨kind, k, 0, val⟩).1 ((x.count n).write n ⟨kind, k, 0, val⟩).2 := by
 have ts := l.ts n t n8 ht
 have id0 : (x.s n).id ≠ 0 := by rw [ts.id]; exact ts.nz
 have hops := ts.ops
 have so := (g.ses n n8).ops
 have lc : LrL L io (setT z n (opsT t)) (x.count n) := l.count n8 ht
 have gc := good_count g n8 id0 hop
 have hs1 : (setT z n (opsT t)).s n = some (opsT t) := putT_self _ _ _
 have h67 : decide (kind = 6 ∨ kind = 7) = false := by rw [decide_eq_false_iff_not]; omega
 unfold DoX
 rcases lwr_any (m := m) (K := K) (o := o) lc gc n8 hs1 kind val hk k64 with ⟨h0, hP⟩ | ⟨h0, hP⟩
 ·exact do_stay a n n8 ht ⟨kind, k, 0, val⟩ hok false h67 (.inr (by omega)) _ h0 _ fun w1 a1 => exec_write a1 n8 ht kind k 0 val hk (by omega) _ _ fun w2 a2 => hP w2 a2
 ·refine (do_over a n n8 ht ⟨kind, k, 0, val⟩ hok false h67 (.inr (by omega)) _ h0 _ fun w1 a1 => exec_write a1 n8 ht kind k 0 val hk (by omega) _ _ fun w2 a2 => hP w2 a2).mono fun e w' hd => hd.mono ?_
  rintro z' ⟨z0, q, rfl⟩
  exact q
end
end Go.Proofs.Ytkkjofefjepodaa
/- Package model as landed, its laws' face: Do, whole. Condition: numbers that fit. -/
namespace Go.Proofs.Ytkkjofefjepodaa
open Go.ChangeShapes Go.WideShapes Go.ChangeAt Go.RowKit
set_option linter.unusedVariables false
set_option linter.unusedSimpArgs false
section
variable {W w w' : World} {m : Nat} {S S' T : Nat → Prop} {x y : MoI} {K : Nat → Value} {o : Nat → Nat} {z : LdI} {t : TtI} {L : List (Nat × VeI)} {io : Nat → Int}
theorem okI_le7 {o : OpI} (h : okI o = true) : o.kind ≤ 7 := by
 unfold okI at h
 split at h
 ·omega
 ·split at h
  ·omega
  ·split at h
   ·omega
   ·split at h
    ·omega
    ·cases h
theorem ldo_any (a : LdAt w m K o z) (l : LrL L io z x) (g : Good x) (s : Int) (op : OpI) : Calls Try.prog 19 #[.pointer (some ⟨m, 0, none⟩), .int .i64 s, opV op] w (DoEnd w m o (x.doR s op) (x.doE s op) fun z' => Lr z' (x.doM s op)) := by
  by_cases hb : s < 0 ∨ 7 < s
  · have e : x.doE s op = 1 := by unfold MoI.doE; rw [if_pos hb]
    have e1 : x.doR s op = re0 := by unfold MoI.doR; rw [e]; rfl
    have e2 : x.doM s op = x := by unfold MoI.doM; rw [e]; rfl
    rw [e, e1, e2]
    exact (do_arg a s hb op).mono fun e w' hd => hd.mono fun z' q => by rw [q]; exact ⟨L, io, l⟩
  · obtain ⟨n, rfl⟩ : ∃ n : Nat, s = (n : Int) := ⟨s.toNat, by omega⟩
    have n8 : n < 8 := by omega
    by_cases hbad : (x.s n).id = 0 ∨ okI op = false
    · have e : x.doE n op = 9 := by unfold MoI.doE; rw [if_neg hb]; exact if_pos hbad
      have e1 : x.doR n op = re0 := by unfold MoI.doR; rw [e]; rfl
      have e2 : x.doM n op = x := by unfold MoI.doM; rw [e]; rfl
      rw [e, e1, e2]
      cases ht : z.s n with
      | none => exact (do_none a n n8 ht op).mono fun e w' hd => hd.mono fun z' q => by rw [q]; exact ⟨L, io, l⟩
      | some t =>
        have ts := l.ts n t n8 ht
        have hok : okI op = false := hbad.resolve_left (by rw [ts.id]; exact ts.nz)
        exact (do_bad a n n8 ht op hok).mono fun e w' hd => hd.mono fun z' q => by rw [q]; exact ⟨L, io, l⟩
    · have hid : (x.s n).id ≠ 0 := fun c => hbad (.inl c)
      obtain ⟨t, ht⟩ := l.sess n8 hid
      have ts := l.ts n t n8 ht
      have hok : okI op = true := by
        cases c : okI op with
        | true => rfl
        | false => exact absurd (.inr c) hbad
      have so := (g.ses n n8).ops
      have hops := ts.ops
      by_cases k67 : op.kind = 7 ∨ op.kind = 6
      · have e : x.doE n op = 0 := by unfold MoI.doE; rw [if_neg hb]; exact (if_neg hbad).trans (if_pos k67)
        have e1 : x.doR n op = (x.run n op).1 := by unfold MoI.doR; rw [e]; rfl
        have e2 : x.doM n op = (x.run n op).2 := by unfold MoI.doM; rw [e]; rfl
        rw [e, e1, e2]
        obtain ⟨kind, key, hi, val⟩ := op
        rcases k67 with q | q
        · have q : kind = 7 := q
          subst q
          have r : x.run n ⟨7, key, hi, val⟩ = (⟨0, 0, [], 4, 1⟩, x.over n) := by unfold MoI.run; rw [if_pos rfl]
          rw [r]
          exact dox_over a l g n8 ht key hi val hok
        · have q : kind = 6 := q
          subst q
          have r : x.run n ⟨6, key, hi, val⟩ = x.commit n := by unfold MoI.run; rw [if_neg (show ¬ (6 : Int) = 7 by decide), if_pos rfl]
          rw [r]
          exact dox_commit a l g n8 ht key hi val hok
      · have kd : decide (op.kind = 6 ∨ op.kind = 7) = false := by rw [decide_eq_false_iff_not]; omega
        by_cases hm : 12 ≤ (x.s n).ops
        · have e : x.doE n op = 65 := by unfold MoI.doE; rw [if_neg hb]; exact (if_neg hbad).trans ((if_neg k67).trans (if_pos hm))
          have e1 : x.doR n op = re0 := by unfold MoI.doR; rw [e]; rfl
          have e2 : x.doM n op = x := by unfold MoI.doM; rw [e]; rfl
          rw [e, e1, e2]
          exact (do_many a n n8 ht op hok kd (by omega)).mono fun e w' hd => hd.mono fun z' q => by rw [q]; exact ⟨L, io, l⟩
        · have e : x.doE n op = 0 := by unfold MoI.doE; rw [if_neg hb]; exact (if_neg hbad).trans ((if_neg k67).trans (if_neg hm))
          have e1 : x.doR n op = (x.run n op).1 := by unfold MoI.doR; rw [e]; rfl
          have e2 : x.doM n op = (x.run n op).2 := by unfold MoI.doM; rw [e]; rfl
          have hop : (x.s n).ops < 12 := by omega
          rw [e, e1, e2]
          obtain ⟨kind, key, hi, val⟩ := op
          have hkk : kind ≤ 5 := by have : kind ≤ 7 := okI_le7 hok; have q : ¬ (kind = 7 ∨ kind = 6) := k67; omega
          obtain ⟨h1, k0, k63, h5, _⟩ := okI_key hok hkk
          have h1 : 1 ≤ kind := h1
          have k0 : 0 ≤ key := k0
          have k63 : key ≤ 63 := k63
          obtain ⟨k, rfl⟩ : ∃ k : Nat, key = (k : Int) := ⟨key.toNat, by omega⟩
          have k64 : k < 64 := by omega
          by_cases k1 : kind = 1
          · subst k1
            have r : x.run n ⟨1, k, hi, val⟩ = (x.count n).get n ⟨1, k, hi, val⟩ := by unfold MoI.run; rw [if_neg (show ¬ (1 : Int) = 7 by decide), if_neg (show ¬ (1 : Int) = 6 by decide), if_pos rfl]
            rw [r]
            exact dox_get a l g n8 ht hop k k64 hi val hok
          · by_cases k5 : kind = 5
            · subst k5
              have r : x.run n ⟨5, k, hi, val⟩ = (x.count n).scan n ⟨5, k, hi, val⟩ := by unfold MoI.run; rw [if_neg (show ¬ (5 : Int) = 7 by decide), if_neg (show ¬ (5 : Int) = 6 by decide), if_neg (show ¬ (5 : Int) = 1 by decide), if_pos rfl]
              rw [r]
              obtain ⟨q1, q2⟩ := h5 rfl
              have q1 : (k : Int) ≤ hi := q1
              have q2 : hi ≤ 63 := q2
              obtain ⟨hh, rfl⟩ : ∃ hh : Nat, hi = (hh : Int) := ⟨hi.toNat, by omega⟩
              exact dox_scan a l g n8 ht hop k hh (by omega) (by omega) val hok
            · have hk : kind = 2 ∨ kind = 3 ∨ kind = 4 := by omega
              have hi0 : hi = 0 := by
                unfold okI at hok
                rcases hk with c | c | c
                · subst c; have := of_decide_eq_true hok; exact this.2.2.2.2
                · subst c; have := of_decide_eq_true hok; exact this.2.2.2.2
                · subst c; have := of_decide_eq_true hok; exact this.2.2.1
              subst hi0
              have r : x.run n ⟨kind, k, 0, val⟩ = (x.count n).write n ⟨kind, k, 0, val⟩ := by unfold MoI.run; rw [if_neg (show ¬ kind = 7 by omega), if_neg (show ¬ kind = 6 by omega), if_neg k1, if_neg k5]
              rw [r]
              exact dox_write a l g n8 ht hop kind val hk k64 hok
theorem md_do (h : Md W w m S x) (s : Int) (o : OpI) (hs : I64 s) (ho : OpB o) (r : ReI) (e0 : Int) (y : MoI) (hr : x.doR s o = r) (he : x.doE s o = e0) (hy : x.doM s o = y) :
  Calls Try.prog 19 #[.pointer (some ⟨m, 0, none⟩), .int .i64 s, opV o] w (MdTold W w m S (fun u => .tuple #[reV r u, .int .i64 e0]) (fun w' u => OwnPr w' u r.pairs) y) := by
 subst hr; subst he; subst hy
 obtain ⟨K, ow, z, a, ⟨L, io, l⟩, e⟩ := h.ld
 refine (ldo_any a l h.gd s o).mono ?_
 rintro e2 w' ⟨u, z', K', o', rfl, lr, ou, og, a2, k2, n3⟩
 obtain ⟨m1, m2⟩ := h.step e (good_do h.gd s o) a2 lr k2 n3
 exact ⟨u, _, rfl, ou, fun g hg => ⟨(og g hg).1, fun c => c (og g hg).2⟩, m1, m2⟩
end
end Go.Proofs.Ytkkjofefjepodaa
