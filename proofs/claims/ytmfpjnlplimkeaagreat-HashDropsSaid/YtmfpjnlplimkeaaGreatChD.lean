/- A Chain over a Store, as layer 9's statements walk with it: the contracts of package chain, and of the statements' helpers Made and awake; condition: lists of 64 links at most. -/
import Derived.Test.YtmfpjnlplimkeaaGreatRecO
import Derived.Test.YtmfpjnlplimkeaaGreatSame
import Derived.Test.YtmfpjnlplimkeaaGreatChK
namespace Go.Proofs.YtmfpjnlplimkeaaGreat
open Go.ChangeShapes Go.WideShapes Go.ChangeAt Go.RowKit
set_option linter.unusedVariables false

/-- The blocks of a Chain, of its Store and of its Arena. -/
def CFoot (SV : Nat → Prop) (pa qa q : Nat) (j : Nat) : Prop := SV j ∨ Two pa qa j ∨ j = q
/-- Since W a Store p and a Chain q over it have been made, in new blocks; the Store is in state s, the Chain holds l; at most 64 k looks were had; nothing of W has turned. -/
structure Chn (W w : World) (p q : Nat) (S : Nat → Prop) (s : RS) (l : List Int) (k : Nat) : Prop where
  core : ∃ pa qa zs SV C at', CG w p SV s pa qa zs C q at' ∧ zs.getD at' 0 = l.headD 0 ∧ C ≤ 64 * (k : Int) ∧ ∀ j, S j ↔ CFoot SV pa qa q j
  c : s.c ≤ 64 * (k : Int)
  ok : ROk s
  ln : Linked s l
  g : ∀ k, S k → W.heap.size ≤ k
  lt : ∀ k, S k → k < w.heap.size
  b : Below W.heap.size W w
section
variable {W w w' : World} {p q : Nat} {S S' : Nat → Prop} {s s' : RS} {l l' : List Int} {k k' : Nat}
theorem Chn.up (h : Chn W w p q S s l k) {n : Nat} (hk : k ≤ n) : Chn W w p q S s l n := by
  obtain ⟨pa, qa, zs, SV, C, a, h1, h2, h3, h4⟩ := h.core
  exact ⟨⟨pa, qa, zs, SV, C, a, h1, h2, by omega, h4⟩, by have := h.c; omega, h.ok, h.ln, h.g, h.lt, h.b⟩
theorem Chn.own (h : Chn W w p q S s l k) {T : Nat → Prop} (kk : Keep T w w') (hT : ∀ g, T g → ¬ S g ∧ W.heap.size ≤ g) : Chn W w' p q S s l k := by
  obtain ⟨pa, qa, zs, SV, C, a, h1, h2, h3, h4⟩ := h.core
  exact ⟨⟨pa, qa, zs, SV, C, a, h1.keep kk (fun g hg x => (hT g x).1 ((h4 g).2 (.inl hg))) (fun x => (hT _ x).1 ((h4 _).2 (.inr (.inl (.inl rfl))))) (fun x => (hT _ x).1 ((h4 _).2 (.inr (.inl (.inr rfl))))) (fun x => (hT _ x).1 ((h4 _).2 (.inr (.inr rfl)))), h2, h3, h4⟩, h.c, h.ok, h.ln, h.g, fun x hx => Nat.lt_of_lt_of_le (h.lt x hx) kk.size, h.b.trans (kk.below h.b.size (fun g hg => (hT g hg).2))⟩
theorem Chn.quiet (h : Chn W w p q S s l k) (kk : Keep (fun _ => False) w w') : Chn W w' p q S s l k := h.own kk (fun g hg => hg.elim)
/-- Behind a call. -/
theorem Chn.turn_at (h : Chn W w p q S s l k) {pa qa a : Nat} {zs' : List Int} {SV SV' : Nat → Prop} {C' : Int} (hS : ∀ j, S j ↔ CFoot SV pa qa q j) (h1 : CG w' p SV' s' pa qa zs' C' q a) (t : Turn pa qa SV SV' w w') (hz : zs'.getD a 0 = l'.headD 0) (hC : C' ≤ 64 * (k' : Int)) (hc : s'.c ≤ 64 * (k' : Int)) (ln : Linked s' l') :
    Chn W w' p q (CFoot SV' pa qa q) s' l' k' ∧ VKeep S (CFoot SV' pa qa q) w w' := by
  have kk : Keep S w w' := t.k.mono (fun j hj => (hS j).2 (by rcases hj with x | x; exact .inl x; exact .inr (.inl x)))
  have hg : ∀ j, CFoot SV' pa qa q j → S j ∨ w.heap.size ≤ j := fun j hj => by
    rcases hj with x | x | x
    · rcases t.g j x with y | y
      · exact .inl ((hS j).2 (.inl y))
      · exact .inr y
    · exact .inl ((hS j).2 (.inr (.inl x)))
    · exact .inl ((hS j).2 (.inr (.inr x)))
  have bs := h.b.size
  refine ⟨⟨⟨pa, qa, zs', SV', C', a, h1, hz, hC, fun j => Iff.rfl⟩, hc, h1.ok, ln, fun j hj => ?_, fun j hj => ?_, h.b.trans (kk.below bs h.g)⟩, kk, hg⟩
  · rcases hg j hj with y | y
    · exact h.g j y
    · omega
  · rcases hj with x | (x | x) | x
    · exact h1.hv.lt j x
    · rw [x]; exact h1.la.1
    · rw [x]; exact h1.la.2.1
    · rw [x]; exact h1.la.2.2
theorem Chn.turn (h : Chn W w p q S s l k) {pa qa a : Nat} {zs' : List Int} {SV SV' : Nat → Prop} {C' : Int} (hS : ∀ j, S j ↔ CFoot SV pa qa q j) (h1 : CG w' p SV' s' pa qa zs' C' q a) (t : Turn pa qa SV SV' w w') (hz : zs'.getD a 0 = l'.headD 0) (hC : C' ≤ 64 * (k' : Int)) (hc : s'.c ≤ 64 * (k' : Int)) (ln : Linked s' l') :
    ∃ S', Chn W w' p q S' s' l' k' ∧ VKeep S S' w w' := ⟨_, h.turn_at hS h1 t hz hC hc ln⟩
theorem h_make (h : Chn W w p q S s l k) (hk : k ≤ 900000000) (key val b e : Int) (hb : U64 b) (he : U64 e) (x f : Int) (s' : RS) (hs : s.make key val b e = (x, f, s')) :
    Calls Tryz.prog 8 #[.pointer (some ⟨p, 0, none⟩), .int .i64 key, .int .i64 val, .int .u64 b, .int .u64 e] w fun y w' => y = .returned (.tuple #[.int .u64 x, .int .i64 f]) ∧ ∃ S', Chn W w' p q S' s' l (k + 1000) ∧ VKeep S S' w w' := by
  obtain ⟨pa, qa, zs, SV, C, a, h1, h2, h3, h4⟩ := h.core
  have ok := rOk_make h.ok key val b e hb he
  have cc := make_c s key val b e
  have ln := h.ln.make h.ok key val b e
  have hc := h.c
  refine (vmake_any h1.hv h.ok (by omega) key val b e hb he).mono ?_
  rw [hs] at ok cc ln ⊢
  rintro y w1 ⟨rfl, S1, v1, k1, g1⟩
  exact ⟨rfl, h.turn h4 (h1.store v1 ok ⟨k1, g1⟩) (Turn.store ⟨k1, g1⟩) h2 (by omega) (by rw [cc]; omega) ln⟩
theorem more_c (s : RS) (n : Nat) : (s.more n).c = s.c + 64 * (n : Int) := rfl
theorem h_push (h : Chn W w p q S s l k) (hk : k ≤ 900000000) (hl : l.length ≤ 64) (x : Int) (hx : U64 x) (r : Bool) (l' : List Int) (hs : pushI s.s l x = (r, l')) :
    Calls Tryz.prog 9 #[.pointer (some ⟨q, 0, none⟩), .int .u64 x] w fun y w' => y = .returned (.bool r) ∧ ∃ S' s', s'.s = s.s ∧ Chn W w' p q S' s' l' (k + 1000) ∧ VKeep S S' w w' := by
  obtain ⟨pa, qa, zs, SV, C, a, h1, h2, h3, h4⟩ := h.core
  have hc := h.c
  by_cases hm : x ∈ l
  · obtain ⟨rfl, rfl⟩ : r = false ∧ l' = l := by
      unfold pushI at hs; rw [if_neg (fun z => z.2 hm)] at hs; cases hs; exact ⟨rfl, rfl⟩
    refine (cpush_in h1 (by omega) (by omega) h.ln (by omega) h2 x hm).mono ?_
    rintro y w1 ⟨rfl, S1, g1, t1⟩
    obtain ⟨S', a1, a2⟩ := h.turn (k' := k + 1000) h4 g1 t1 h2 (by omega) (by rw [more_c]; omega) (h.ln.more _)
    refine ⟨rfl, S', _, ?_, a1, a2⟩
    rfl
  · cases hd : s.s.live x with
    | false =>
      obtain ⟨rfl, rfl⟩ : r = false ∧ l' = l := by
        unfold pushI at hs; rw [if_neg (by simp [hd])] at hs; cases hs; exact ⟨rfl, rfl⟩
      refine (cpush_dead h1 (by omega) (by omega) h.ln (by omega) h2 x hx hd).mono ?_
      rintro y w1 ⟨rfl, S1, g1, t1⟩
      obtain ⟨S', a1, a2⟩ := h.turn (k' := k + 1000) h4 g1 t1 h2 (by omega) (by rw [more_c]; omega) (h.ln.more _)
      refine ⟨rfl, S', _, ?_, a1, a2⟩
      rfl
    | true =>
      obtain ⟨rfl, rfl⟩ : r = true ∧ l' = x :: l := by
        unfold pushI at hs; rw [if_pos ⟨hd, hm⟩] at hs; cases hs; exact ⟨rfl, rfl⟩
      refine (cpush_ok h1 (by omega) (by omega) h.ln (by omega) h2 x hd hm).mono ?_
      rintro y w1 ⟨rfl, S1, g1, t1⟩
      obtain ⟨S', a1, a2⟩ := h.turn (k' := k + 1000) h4 g1 t1 (by rw [getD_setI _ _ _ _ h1.lt, if_pos rfl]; rfl) (by omega) (by show s.c + 64 * ((l.length + 1 : Nat) : Int) + 64 ≤ _; omega) ((h.ln.more _).push (h.ok.more _) hd hm)
      refine ⟨rfl, S', _, ?_, a1, a2⟩
      rfl
theorem h_cut (h : Chn W w p q S s l k) (hk : k ≤ 900000000) (hl : l.length ≤ 64) (x : Int) (hx : U64 x) (r : Bool) (l' : List Int) (hs : cutI l x = (r, l')) :
    Calls Tryz.prog 11 #[.pointer (some ⟨q, 0, none⟩), .int .u64 x] w fun y w' => y = .returned (.bool r) ∧ ∃ S' s', s'.s = s.s ∧ Chn W w' p q S' s' l' (k + 1000) ∧ VKeep S S' w w' := by
  obtain ⟨pa, qa, zs, SV, C, a, h1, h2, h3, h4⟩ := h.core
  have hc := h.c
  rcases first_or x l with hm | ⟨i, hi⟩
  · obtain ⟨rfl, rfl⟩ : r = false ∧ l' = l := by
      unfold cutI at hs; rw [if_neg hm] at hs; cases hs; exact ⟨rfl, rfl⟩
    refine (ccut_no h1 (by omega) (by omega) h.ln (by omega) h2 x hm).mono ?_
    rintro y w1 ⟨rfl, S1, g1, t1⟩
    obtain ⟨S', a1, a2⟩ := h.turn (k' := k + 1000) h4 g1 t1 h2 (by omega) (by rw [more_c]; omega) (h.ln.more _)
    refine ⟨rfl, S', _, ?_, a1, a2⟩
    rfl
  · obtain ⟨rfl, rfl⟩ : r = true ∧ l' = l.eraseIdx i := by
      unfold cutI at hs; rw [if_pos hi.mem] at hs; cases hs
      exact ⟨rfl, by rw [← erase_idx h.ln.nd hi.lt, hi.eq]⟩
    cases i with
    | zero =>
      obtain ⟨t, rfl⟩ : ∃ t, l = x :: t := by
        cases l with
        | nil => have := hi.lt; simp at this
        | cons b t => exact ⟨t, by have := hi.eq; simp at this; rw [this]⟩
      have hl : t.length + 1 ≤ 64 := hl
      refine (ccut_first h1 (by omega) (by omega) x h.ln (by omega) h2).mono ?_
      rintro y w1 ⟨rfl, S1, g1, t1⟩
      obtain ⟨S', a1, a2⟩ := h.turn (k' := k + 1000) (l' := t) h4 g1 t1 (by rw [getD_setI _ _ _ _ h1.lt, if_pos rfl]) (by omega) (by rw [more_c]; omega) (h.ln.cut_first.more _)
      refine ⟨rfl, S', _, ?_, a1, a2⟩
      rfl
    | succ j =>
      have hj := hi.lt
      refine (ccut_mid h1 (by omega) (by omega) h.ln (by omega) h2 x j hj hi.eq _ rfl _ _ rfl rfl).mono ?_
      rintro y w1 ⟨rfl, S1, g1, t1⟩
      have ln2 := ((h.ln.more (l.length + 2)).cut (h.ok.more _) j hj).more l.length
      obtain ⟨S', a1, a2⟩ := h.turn (k' := k + 1000) (l' := l.eraseIdx (j + 1)) h4 g1 t1 (by rw [h2]; cases l <;> rfl) (by omega) (by show s.c + 64 * ((l.length + 2 : Nat) : Int) + 64 + 64 * (l.length : Int) ≤ _; omega) ln2
      refine ⟨rfl, S', _, ?_, a1, a2⟩
      rfl
theorem h_head (h : Chn W w p q S s l k) (hk : k ≤ 900000000) (hl : l.length ≤ 64) (x : Int) (hs : l.headD 0 = x) :
    Calls Tryz.prog 12 #[.pointer (some ⟨q, 0, none⟩)] w fun y w' => y = .returned (.int .u64 x) ∧ ∃ S' s', s'.s = s.s ∧ Chn W w' p q S' s' l (k + 1000) ∧ VKeep S S' w w' := by
  obtain ⟨pa, qa, zs, SV, C, a, h1, h2, h3, h4⟩ := h.core
  have hc := h.c
  refine (chead h1 (by omega) x (by rw [h2, hs])).mono ?_
  rintro y w1 ⟨rfl, g1, k1⟩
  obtain ⟨S', a1, a2⟩ := h.turn (k' := k + 1000) h4 g1 (Turn.arena k1) h2 (by omega) (by omega) h.ln
  refine ⟨rfl, S', _, ?_, a1, a2⟩
  rfl
theorem h_len (h : Chn W w p q S s l k) (hk : k ≤ 900000000) (hl : l.length ≤ 64) (x : Int) (hs : (l.length : Int) = x) :
    Calls Tryz.prog 14 #[.pointer (some ⟨q, 0, none⟩)] w fun y w' => y = .returned (.int .i64 x) ∧ ∃ S' s', s'.s = s.s ∧ Chn W w' p q S' s' l (k + 1000) ∧ VKeep S S' w w' := by
  obtain ⟨pa, qa, zs, SV, C, a, h1, h2, h3, h4⟩ := h.core
  have hc := h.c
  subst hs
  refine (clen h1 (by omega) (by omega) h.ln (by omega) h2).mono ?_
  rintro y w1 ⟨S1, rfl, g1, t1⟩
  obtain ⟨S', a1, a2⟩ := h.turn (k' := k + 1000) h4 g1 t1 h2 (by omega) (by rw [more_c]; omega) (h.ln.more _)
  refine ⟨rfl, S', _, ?_, a1, a2⟩
  rfl
theorem h_links (h : Chn W w p q S s l k) (hk : k ≤ 900000000) (hl : l.length ≤ 64) :
    Calls Tryz.prog 36 #[.pointer (some ⟨q, 0, none⟩)] w fun y w' => ∃ v S' s', y = .returned v ∧ OwnU w.heap.size w' v l ∧ (∀ g, v.ownBlock = some g → ¬ S' g) ∧ s'.s = s.s ∧ Chn W w' p q S' s' l (k + 1000) ∧ VKeep S S' w w' := by
  obtain ⟨pa, qa, zs, SV, C, a, h1, h2, h3, h4⟩ := h.core
  have hc := h.c
  have la := h1.la
  refine (clinks h1 (by omega) (by omega) h.ln (by omega) h2).mono ?_
  rintro y w1 ⟨v, S1, rfl, o, dv, g1, t1⟩
  have a3 := h.turn_at (k' := k + 1000) h4 g1 t1 h2 (by omega) (by rw [more_c]; omega) (h.ln.more _)
  refine ⟨v, CFoot S1 pa qa q, _, rfl, o, fun g hg x => ?_, ?_, a3.1, a3.2⟩
  rotate_left
  · rfl
  have hge : w.heap.size ≤ g := (OwnU.lt o hg).1
  rcases x with x | (x | x) | x
  · exact dv g hg x
  · have := la.1; omega
  · have := la.2.1; omega
  · have := la.2.2; omega
end
/-- A Chain, and blocks V of the law's own, which no call turns. -/
structure ChV (W w : World) (p q : Nat) (S : Nat → Prop) (s : RS) (l : List Int) (k : Nat) (V : Nat → Prop) : Prop where
  r : Chn W w p q S s l k
  v : ∀ g, V g → ¬ S g ∧ g < w.heap.size
section
variable {W w w' : World} {p q : Nat} {S S' : Nat → Prop} {s s' : RS} {l l' : List Int} {k k' : Nat} {V : Nat → Prop}
theorem ChV.step (h : ChV W w p q S s l k V) (hr : Chn W w' p q S' s' l' k') (kk : VKeep S S' w w') : ChV W w' p q S' s' l' k' V ∧ VSame V w w' :=
  ⟨⟨hr, fun g hg => ⟨fun x => by rcases kk.2 g x with y | y; exact (h.v g hg).1 y; have := (h.v g hg).2; omega, Nat.lt_of_lt_of_le (h.v g hg).2 kk.1.size⟩⟩, fun g hg => kk.1.block g (h.v g hg).2 (h.v g hg).1⟩
end
/-- A Chain and a list of words of the law's own. -/
structure ChU (W w : World) (p q : Nat) (S : Nat → Prop) (s : RS) (l : List Int) (k : Nat) (v : Value) (zs : List Int) : Prop where
  r : Chn W w p q S s l k
  ow : OwnU W.heap.size w v zs
  dv : ∀ g, v.ownBlock = some g → ¬ S g
section
variable {W w w' : World} {p q : Nat} {S S' : Nat → Prop} {s s' : RS} {l l' : List Int} {k k' : Nat} {v v' : Value} {zs zs' : List Int}
theorem ChU.start (h : Chn W w p q S s l k) : ChU W w p q S s l k (.slice none 0 0) [] := ⟨h, World.ownsRow_nil _ _ _ _, by simp [Value.ownBlock]⟩
theorem ChU.step (h : ChU W w p q S s l k v zs) (hr : Chn W w' p q S' s' l' k') (kk : VKeep S S' w w') : ChU W w' p q S' s' l' k' v zs :=
  ⟨hr, OwnU.keep h.ow kk.1 h.dv, fun g hg x => by rcases kk.2 g x with y | y; exact h.dv g hg y; have := (OwnU.lt h.ow hg).2; omega⟩
theorem ChU.quiet (h : ChU W w p q S s l k v zs) (kk : Keep (fun _ => False) w w') : ChU W w' p q S s l k v zs := ⟨h.r.quiet kk, OwnU.keep h.ow kk (by simp), h.dv⟩
/-- The list is made anew, or goes on: what has turned is its own block alone, and new ones. -/
theorem ChU.anew (h : ChU W w p q S s l k v zs) {T : Nat → Prop} (o : OwnU W.heap.size w' v' zs') (kk : Keep T w w') (hT : ∀ g, T g → v.ownBlock = some g ∨ w.heap.size ≤ g) (hv : ∀ g, v'.ownBlock = some g → v.ownBlock = some g ∨ w.heap.size ≤ g) : ChU W w' p q S s l k v' zs' :=
  ⟨h.r.own kk (fun g hg => by
    rcases hT g hg with y | y
    · exact ⟨h.dv g y, (OwnU.lt h.ow y).1⟩
    · exact ⟨fun x => by have := h.r.lt g x; omega, Nat.le_trans h.r.b.size y⟩), o, fun g hg x => by
    rcases hv g hg with y | y
    · exact h.dv g y x
    · have := h.r.lt g x; omega⟩
theorem ChU.up (h : ChU W w p q S s l k v zs) {n : Nat} (hk : k ≤ n) : ChU W w p q S s l n v zs := ⟨h.r.up hk, h.ow, h.dv⟩
end
theorem Fill.same {s s' : RS} {n k : Nat} (h : Fill s n k) (e : s'.s = s.s) : Fill s' n k := ⟨by rw [e]; exact h.gv, by rw [e]; exact h.fr, by rw [e]; exact h.tg, fun j hj => by rw [e]; exact h.tk j hj, by rw [e]; exact h.ct⟩
end Go.Proofs.YtmfpjnlplimkeaaGreat
