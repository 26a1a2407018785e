/- Package model as landed, its laws' face: the contracts over a Model in plain lists. Condition: numbers that fit. -/
import Derived.Test.YtkkjofefjepodaaLdJ
import Derived.Test.YtkkjofefjepodaaLdL
import Derived.Test.YtkkjofefjepodaaLdB2
import Derived.Test.YtkkjofefjepodaaLdB3
import Derived.Test.YtkkjofefjepodaaMdG
import Derived.Test.YtkkjofefjepodaaPushN
namespace Go.Proofs.Ytkkjofefjepodaa
open Go.ChangeShapes Go.WideShapes Go.ChangeAt Go.RowKit
set_option linter.unusedVariables false
set_option linter.unusedSimpArgs false

def I64 (x : Int) : Prop := -9223372036854775808 ≤ x ∧ x ≤ 9223372036854775807
/-- A call's numbers fit. -/
structure OpB (o : OpI) : Prop where
  a : I64 o.kind
  b : I64 o.key
  c : I64 o.hi
  d : I64 o.val
/-- Since W a Model m has been made, in new blocks S; it is x; nothing of W has turned. -/
structure Md (W w : World) (m : Nat) (S : Nat → Prop) (x : MoI) : Prop where
  gd : Good x
  g : ∀ k, S k → W.heap.size ≤ k
  lt : ∀ k, S k → k < w.heap.size
  b : Below W.heap.size W w
  ld : ∃ K o z, LdAt w m K o z ∧ Lr z x ∧ ∀ k, o k ≠ 0 ↔ S k
section
variable {W w w' : World} {m : Nat} {S S' T : Nat → Prop} {x y : MoI} {K : Nat → Value} {o : Nat → Nat} {z : LdI}
theorem Md.own (h : Md W w m S x) {X : Nat → Prop} (kk : Keep X w w') (hX : ∀ g, X g → ¬ S g ∧ W.heap.size ≤ g) : Md W w' m S x := by
  obtain ⟨K, o, z, a, l, e⟩ := h.ld
  exact ⟨h.gd, h.g, fun x hx => Nat.lt_of_lt_of_le (h.lt x hx) kk.size, h.b.trans (kk.below h.b.size (fun g hg => (hX g hg).2)), K, o, z, a.keep kk (fun g hg c => (hX g c).1 ((e g).1 hg)), l, e⟩
theorem Md.quiet (h : Md W w m S x) (kk : Keep (fun _ => False) w w') : Md W w' m S x := h.own kk (fun g hg => hg.elim)
/-- A call that leaves a Model, and nothing else. -/
def MdPost (W w : World) (m : Nat) (S : Nat → Prop) (v : Value) (y : MoI) (e : Ending) (w' : World) : Prop := e = .returned v ∧ ∃ S', Md W w' m S' y ∧ VKeep S S' w w'
/-- A call that leaves a Model, and tells a slice of its own. -/
def MdTold (W w : World) (m : Nat) (S : Nat → Prop) (v : Value → Value) (P : World → Value → Prop) (y : MoI) (e : Ending) (w' : World) : Prop :=
  ∃ u S', e = .returned (v u) ∧ P w' u ∧ (∀ g, u.ownBlock = some g → w.heap.size ≤ g ∧ ¬ S' g) ∧ Md W w' m S' y ∧ VKeep S S' w w'
/-- What a call leaves, out of its cells. -/
theorem Md.step (h : Md W w m S x) (e : ∀ k, o k ≠ 0 ↔ S k) {K' : Nat → Value} {o' : Nat → Nat} {z' : LdI} (gd : Good y) (a : LdAt w' m K' o' z') (l : Lr z' y) (k : Keep (fun g => o g ≠ 0) w w') (n : ∀ g, o' g ≠ 0 → o g ≠ 0 ∨ w.heap.size ≤ g) :
    Md W w' m (fun g => o' g ≠ 0) y ∧ VKeep S (fun g => o' g ≠ 0) w w' := by
  have ks : Keep S w w' := k.mono fun g hg => (e g).1 hg
  have ns : ∀ g, o' g ≠ 0 → S g ∨ w.heap.size ≤ g := fun g hg => (n g hg).imp (e g).1 id
  refine ⟨⟨gd, fun g hg => ?_, fun g hg => a.lt g hg, h.b.trans (ks.below h.b.size h.g), K', o', z', a, l, fun _ => Iff.rfl⟩, ks, ns⟩
  rcases ns g hg with q | q
  · exact h.g g q
  · exact Nat.le_trans h.b.size q
theorem Md.stay (h : Md W w m S x) (k : Keep (fun _ => False) w w') : Md W w' m S x ∧ VKeep S S w w' := ⟨h.quiet k, k.mono fun _ e => e.elim, fun _ hk => .inl hk⟩
theorem lr_len (g : Good x) (l : Lr z x) : (∀ k, k < 64 → (z.k k).length ≤ 99999) ∧ usedL z 64 = x.v.length ∧ usedL z 64 ≤ 100000 := by
  obtain ⟨L, io, h⟩ := l
  have u := h.used
  have hl := g.len
  have hc := g.conf
  have e : usedL z 64 = x.v.length := u
  refine ⟨fun k hk => ?_, e, by omega⟩
  have := usedL_le z (show k + 1 ≤ 64 from hk)
  rw [usedL_succ] at this
  omega
theorem md_new (w : World) (slots limit : Int) (hs : I64 slots) (hl : U64 limit) (h : confI slots limit = true) : Calls Try.prog 25 #[cfV slots limit] w fun e w' => ∃ m S, e = .returned (.tuple #[.pointer (some ⟨m, 0, none⟩), .int .i64 0]) ∧ Md w w' m S (new0 slots limit) := by
  refine (new_yes slots limit h w).mono ?_
  rintro e w' ⟨m, o, rfl, hm, a, hg, k⟩
  exact ⟨m, fun g => o g ≠ 0, rfl, good_new h, fun g q => by rw [hg g q]; exact hm, fun g q => a.lt g q, (Below.refl _ w).trans (k.below (Nat.le_refl _) fun _ e => e.elim), _, o, _, a, lr_new _ _ _, fun _ => Iff.rfl⟩
theorem md_none (w : World) (slots limit : Int) (hs : I64 slots) (hl : U64 limit) (h : confI slots limit = false) : Calls Try.prog 25 #[cfV slots limit] w fun e w' => e = .returned (.tuple #[.pointer none, .int .i64 1]) ∧ Below w.heap.size w w' := by
  refine (new_no slots limit h w).mono ?_
  rintro e w' ⟨rfl, k⟩
  exact ⟨rfl, (Below.refl _ w).trans (k.below (Nat.le_refl _) fun _ e => e.elim)⟩
theorem md_begin (h : Md W w m S x) (s level : Int) (hs : I64 s) (hl : I64 level) (n e0 : Int) (y : MoI) (hn : x.begN s level = n) (he : x.begE s level = e0) (hy : x.beg s level = y) :
    Calls Try.prog 22 #[.pointer (some ⟨m, 0, none⟩), .int .i64 s, .int .i64 level] w (MdPost W w m S (.tuple #[.int .i64 n, .int .i64 e0]) y) := by
  subst hn; subst he; subst hy
  obtain ⟨K, o, z, a, ⟨L, io, l⟩, e⟩ := h.ld
  have no : ∀ c : Int, x.begE s level = c → c ≠ 0 → x.begN s level = 0 ∧ x.beg s level = x := fun c hc h0 => by
    unfold MoI.begN MoI.beg
    rw [if_neg (by rw [hc]; exact h0), if_neg (by rw [hc]; exact h0)]
    exact ⟨rfl, rfl⟩
  have c1 := l.c1
  have c2 := l.c2
  have c3 := l.c3
  have c4 := l.c4
  have mm := h.gd.made
  have tt := h.gd.time
  have cf := h.gd.conf
  by_cases hb : s < 0 ∨ 7 < s ∨ level < 1 ∨ 3 < level
  · have e1 : x.begE s level = 1 := by unfold MoI.begE; rw [if_pos hb]
    obtain ⟨n1, n2⟩ := no 1 e1 (by decide)
    rw [e1, n1, n2]
    refine (begin_arg s level hb w).mono ?_
    rintro e2 w' ⟨rfl, rfl⟩
    exact ⟨rfl, S, h.stay (Keep.refl _ _)⟩
  · obtain ⟨i, rfl⟩ : ∃ i : Nat, s = (i : Int) := ⟨s.toNat, by omega⟩
    have i8 : i < 8 := by omega
    have lv : 1 ≤ level ∧ level ≤ 3 := by omega
    by_cases hid : (x.s i).id = 0
    · have zn := (l.ses0 i8).2 hid
      by_cases hm : 2000 ≤ x.made
      · have e1 : x.begE i level = 65 := by unfold MoI.begE; rw [if_neg hb, Int.toNat_natCast, if_neg (fun c => c hid), if_pos hm]
        obtain ⟨n1, n2⟩ := no 65 e1 (by decide)
        rw [e1, n1, n2]
        refine (begin_many a i i8 level lv zn (by omega)).mono ?_
        rintro e2 w' ⟨rfl, rfl⟩
        exact ⟨rfl, S, h.stay (Keep.refl _ _)⟩
      · by_cases ht : x.limit ≤ x.time
        · have e1 : x.begE i level = 16 := by unfold MoI.begE; rw [if_neg hb, Int.toNat_natCast, if_neg (fun c => c hid), if_neg hm, if_pos ht]
          obtain ⟨n1, n2⟩ := no 16 e1 (by decide)
          rw [e1, n1, n2]
          refine (begin_late a i i8 level lv zn (by omega) (by omega)).mono ?_
          rintro e2 w' ⟨rfl, k⟩
          exact ⟨rfl, S, h.stay k⟩
        · have e1 : x.begE i level = 0 := by unfold MoI.begE; rw [if_neg hb, Int.toNat_natCast, if_neg (fun c => c hid), if_neg hm, if_neg ht]
          have gb := good_beg h.gd i level
          have n1 : x.begN i level = z.begun + 1 := by unfold MoI.begN; rw [if_pos e1, c4]
          have n2 : x.beg i level = { x with time := x.time + 1, made := x.made + 1, s := putS x.s i ⟨x.made + 1, level, 0, x.time + 1, [], []⟩ } := by unfold MoI.beg; rw [if_pos e1, Int.toNat_natCast]
          rw [n2] at gb
          rw [e1, n1, n2]
          refine (begin_ok a i i8 level lv zn (by omega) (by omega) (by omega) (by omega) (by omega) (by omega)).mono ?_
          rintro e2 w' ⟨rfl, tb, tf, o', ob, of, a2, k2, n3⟩
          have lab : ∀ p ∈ L, o p.2.mr = 81 ∧ ∀ d, p.2.en = some d → o d = 81 := fun p hp => by
            have p64 := l.lt p hp
            have : p.2 ∈ z.k p.1 := by rw [l.k p.1 p64]; exact List.mem_map.2 ⟨p, List.mem_filter.2 ⟨hp, decide_eq_true rfl⟩, rfl⟩
            exact (a.oV p.1 p.2 p64 this).2
          have bl := l.beg h.gd i8 zn ⟨tb, z.begun + 1, level, z.clock + 1, 0, fun _ => false, tf⟩ rfl rfl (fun _ => rfl) (fun p hp => ⟨fun c => absurd ((congrArg o c).symm.trans (lab p hp).1) (by rw [of]; decide), fun c => absurd ((lab p hp).2 _ c) (by rw [of]; decide)⟩) (fun j u hj hu c => absurd ((congrArg o c).symm.trans (a.oT j u hj hu).2) (by rw [of]; decide)) 0
          rw [c3, c4] at gb ⊢
          exact ⟨rfl, _, h.step e gb a2 ⟨_, _, bl⟩ k2 n3⟩
    · obtain ⟨t, ht⟩ := l.sess i8 hid
      have e1 : x.begE i level = 9 := by unfold MoI.begE; rw [if_neg hb, Int.toNat_natCast, if_pos hid]
      obtain ⟨n1, n2⟩ := no 9 e1 (by decide)
      rw [e1, n1, n2]
      refine (begin_live a i i8 level lv ht).mono ?_
      rintro e2 w' ⟨rfl, rfl⟩
      exact ⟨rfl, S, h.stay (Keep.refl _ _)⟩
theorem lowN_eq {L : List (Nat × VeI)} {io : Nat → Int} (h : LrL L io z x) : lowN z 8 = lowL x := by
  have key : ∀ n, n ≤ 8 → lowN z n = (List.range n).foldl (fun a i => if (x.s i).id ≠ 0 then min a (x.s i).start else a) 18446744073709551615 := fun n => by
    induction n with
    | zero => intro _; rfl
    | succ n ih =>
      intro hn
      rw [lowN_succ, List.range_succ, List.foldl_append, List.foldl_cons, List.foldl_nil, ih (by omega)]
      cases ht : z.s n with
      | none =>
        have := (h.ses0 (show n < 8 by omega)).1 ht
        rw [if_neg (fun c => c this)]
      | some t =>
        have ts := h.ts n t (by omega) ht
        rw [if_pos (by rw [ts.id]; exact ts.nz), ts.start]
  exact key 8 (Nat.le_refl _)
theorem md_collect (h : Md W w m S x) (n : Int) (y : MoI) (hn : x.collected = n) (hy : x.collect = y) :
    Calls Try.prog 21 #[.pointer (some ⟨m, 0, none⟩)] w (MdPost W w m S (.int .i64 n) y) := by
  subst hn; subst hy
  obtain ⟨K, o, z, a, ⟨L, io, l⟩, e⟩ := h.ld
  obtain ⟨_, u1, u2⟩ := lr_len h.gd ⟨L, io, l⟩
  have tt := h.gd.time
  have cf := h.gd.conf
  have ub : ∀ i t, i < 8 → z.s i = some t → U64 t.start := fun i t hi ht => by
    have ts := l.ts i t hi ht
    have := (h.gd.ses i hi).lv (by rw [ts.id]; exact ts.nz)
    rw [ts.start] at this
    exact ⟨by omega, by omega⟩
  have lo := lowN_eq l
  have lc := l.collect h.gd
  have ec : sweptL z (lowN z 8) 64 = { z with k := fun k => if k < 64 then (z.k k).filter fun v => !garbV z.F (lowL x) v else z.k k } := by unfold sweptL; rw [lo]
  have lc2 : LrL (L.filter fun p => !garbV z.F (lowL x) p.2) io (sweptL z (lowN z 8) 64) x.collect := by
    rw [ec]
    exact ⟨lc.c1, lc.c2, lc.c3, lc.c4, lc.v, fun k hk => by show (if k < 64 then _ else _) = _; rw [if_pos hk]; exact lc.k k hk, lc.lt, lc.nd, lc.mu, lc.en, lc.no, lc.ts⟩
  have gc := good_collect h.gd
  have u3 : usedL (sweptL z (lowN z 8) 64) 64 = x.collect.v.length := lc2.used
  refine (collect_any a u2 ub).mono ?_
  rintro e2 w' ⟨rfl, K', a2, k2⟩
  refine ⟨?_, _, h.step e gc a2 ⟨_, _, lc2⟩ k2 fun g hg => .inl hg⟩
  rw [u1, u3]
  rfl
theorem md_used (h : Md W w m S x) (n : Int) (hn : (x.v.length : Int) = n) :
    Calls Try.prog 26 #[.pointer (some ⟨m, 0, none⟩)] w (MdPost W w m S (.int .i64 n) x) := by
  subst hn
  obtain ⟨K, o, z, a, l, e⟩ := h.ld
  obtain ⟨_, u1, u2⟩ := lr_len h.gd l
  refine (used_any a u2).mono ?_
  rintro e2 w' ⟨rfl, k⟩
  exact ⟨by rw [u1], S, h.stay k⟩
theorem md_now (h : Md W w m S x) (t : Int) (ht : x.time = t) :
    Calls Try.prog 29 #[.pointer (some ⟨m, 0, none⟩)] w (MdPost W w m S (.int .u64 t) x) := by
  subst ht
  obtain ⟨K, o, z, a, ⟨L, io, l⟩, e⟩ := h.ld
  refine (now_any a).mono ?_
  rintro e2 w' ⟨rfl, rfl⟩
  exact ⟨by rw [l.c3], S, h.stay (Keep.refl _ _)⟩
theorem md_pairs (h : Md W w m S x) (at' : Int) (ha : U64 at') (l : List (Int × Int)) (hl : x.pairs at' = l) :
    Calls Try.prog 28 #[.pointer (some ⟨m, 0, none⟩), .int .u64 at'] w (MdTold W w m S id (fun w' u => OwnPr w' u l) x) := by
  subst hl
  obtain ⟨K, o, z, a, lr, e⟩ := h.ld
  obtain ⟨u0, _, _⟩ := lr_len h.gd lr
  obtain ⟨L, io, lr⟩ := lr
  refine (Pairs_any a (fun k hk => by have := u0 k hk; omega) at').mono ?_
  rintro e2 w' ⟨u, rfl, ou, og, k⟩
  rw [lr.pairs h.gd at'] at ou
  exact ⟨u, S, rfl, ou, fun g hg => ⟨og g hg, fun c => by have := h.lt g c; have := og g hg; omega⟩, h.stay k⟩
theorem md_live (h : Md W w m S x) (l : List Int) (hl : x.live = l) :
    Calls Try.prog 24 #[.pointer (some ⟨m, 0, none⟩)] w (MdTold W w m S id (fun w' u => OwnN 0 w' u l) x) := by
  subst hl
  obtain ⟨K, o, z, a, ⟨L, io, lr⟩, e⟩ := h.ld
  have el : liveZ z 8 = x.live := by
    unfold liveZ MoI.live
    congr 1
    refine List.filter_congr fun i hi => ?_
    have i8 := List.mem_range.1 hi
    have := lr.ses0 i8
    rw [Bool.eq_iff_iff, decide_eq_true_iff]
    cases c : z.s i with
    | none => simp [this.1 c]
    | some t => have q : ¬ (x.s i).id = 0 := fun q => by have := this.2 q; rw [c] at this; cases this
                simp [q]
  refine (live_any a).mono ?_
  rintro e2 w' ⟨u, rfl, ou, k⟩
  rw [el] at ou
  have og := fun g hg => (OwnN.lt ou (g := g) hg).1
  obtain ⟨a1, a2⟩ := ou
  refine ⟨u, S, rfl, ⟨a1, a2.imp id fun ⟨g, c, cur, q1, q2, q3⟩ => ⟨g, c, cur, q1, Nat.zero_le _, q3⟩⟩, fun g hg => ⟨og g hg, fun c => by have := h.lt g c; have := og g hg; omega⟩, h.stay k⟩
theorem md_status (h : Md W w m S x) (s : Int) (hs : I64 s) (v : Value) (hv : x.statV s = v) :
    Calls Try.prog 30 #[.pointer (some ⟨m, 0, none⟩), .int .i64 s] w (MdPost W w m S v x) := by
  subst hv
  obtain ⟨K, o, z, a, ⟨L, io, lr⟩, e⟩ := h.ld
  have es : statL z s = x.statV s := by
    unfold statL MoI.statV
    by_cases hb : s < 0 ∨ 7 < s
    · rw [if_pos hb, if_pos hb]
    · rw [if_neg hb, if_neg hb]
      have s8 : s.toNat < 8 := by omega
      have := lr.ses0 s8
      cases c : z.s s.toNat with
      | none => rw [if_pos (this.1 c)]
      | some t =>
        have ts := lr.ts _ t s8 c
        rw [if_neg (by rw [ts.id]; exact ts.nz), ts.id, ts.level, ts.start, ts.ops]
  refine (status_any a s).mono ?_
  rintro e2 w' ⟨rfl, k⟩
  exact ⟨by rw [es], S, h.stay k⟩
end
end Go.Proofs.Ytkkjofefjepodaa
