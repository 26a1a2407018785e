/- For BondPlays: Bonds of package bond, the document's own, and an op, each in blocks of its own; what each call answers of both. -/
import Derived.Test.YtjobphjpfknfeaaDoorBnT
import Derived.Test.YtjobphjpfknfeaaDoorRfG
namespace Go.Proofs.YtjobphjpfknfeaaDoor
open Go.ChangeShapes Go.WideShapes Go.ChangeAt Go.RowKit
set_option linter.unusedVariables false
open Classical

structure BB (W w : World) (p : Nat) (S : Nat → Prop) (s : BdS) (r : Nat) (vs : Nat → Value) (t : BdS) (ob : Nat) (a b : Int) : Prop where
  bd : Bd W w p S s
  q : RB w r vs t
  gr : W.heap.size ≤ r
  d : ∀ g, S g → ¬ RFt r vs g
  o1 : w.cell? ⟨ob, 1, none⟩ = some (.int .i64 a)
  o2 : w.cell? ⟨ob, 2, none⟩ = some (.int .i64 b)
  nS : ¬ S ob
  nF : ¬ RFt r vs ob
section
variable {W w w' : World} {p r ob : Nat} {S S' : Nat → Prop} {s s' t t' : BdS} {vs vs' : Nat → Value} {a b c : Int} {l : List Int}
theorem BB.lt (h : BB W w p S s r vs t ob a b) : ob < w.heap.size := lt_of_cell (a := ⟨ob, 1, none⟩) h.o1
theorem BB.quiet (h : BB W w p S s r vs t ob a b) (k : Keep (fun _ => False) w w') : BB W w' p S s r vs t ob a b :=
  ⟨h.bd.later k, h.q.later k, h.gr, h.d, k.cell h.o1 (fun q => q), k.cell h.o2 (fun q => q), h.nS, h.nF⟩
theorem BB.bstep (h : BB W w p S s r vs t ob a b) (n : Bd W w' p S' s') (k : VKeep S S' w w') : BB W w' p S' s' r vs t ob a b :=
  ⟨n, h.q.keep k.1 (fun g hg hs => h.d g hs hg), h.gr, fun g hs hg => by
    rcases k.2 g hs with z | z
    · exact h.d g z hg
    · have := (h.q.foot hg).2; omega, k.1.cell h.o1 h.nS, k.1.cell h.o2 h.nS, fun hs => by
    rcases k.2 ob hs with z | z
    · exact h.nS z
    · have := h.lt; omega, h.nF⟩
theorem BB.qstep (h : BB W w p S s r vs t ob a b) (n : RB w' r vs' t') (k : VKeep (RFt r vs) (RFt r vs') w w') : BB W w' p S s r vs' t' ob a b :=
  ⟨h.bd.keep k.1 (fun g hs hg => h.d g hs hg) (fun g hg => Nat.le_trans h.gr (h.q.foot hg).1), n, h.gr, fun g hs hg => by
    rcases k.2 g hg with z | z
    · exact h.d g hs z
    · have := h.bd.lt g hs; omega, k.1.cell h.o1 h.nF, k.1.cell h.o2 h.nF, h.nS, fun hg => by
    rcases k.2 ob hg with z | z
    · exact h.nF z
    · have := h.lt; omega⟩
theorem BB.one (h : BB W w p S s r vs t ob a b) (n : RB w' r vs t') (k : Keep (fun q => (vs 1).ownBlock = some q) w w') : BB W w' p S s r vs t' ob a b :=
  h.qstep n ⟨k.mono (fun q e => .inr ⟨1, by omega, e⟩), fun _ q => .inl q⟩
/-- Another op. -/
theorem BB.op {ob' : Nat} {a' b' : Int} (h : BB W w p S s r vs t ob a b) (k : Keep (fun _ => False) w w') (h1 : w'.cell? ⟨ob', 1, none⟩ = some (.int .i64 a')) (h2 : w'.cell? ⟨ob', 2, none⟩ = some (.int .i64 b')) (hn : w.heap.size ≤ ob') : BB W w' p S s r vs t ob' a' b' :=
  ⟨h.bd.later k, h.q.later k, h.gr, h.d, h1, h2, fun hs => by have := h.bd.lt _ hs; omega, fun hg => by have := (h.q.foot hg).2; omega⟩
theorem bb_open (h : BB W w p S s r vs t ob a b) (ia : I64 a) (hs : s.open a = (c, s')) : Calls Tryd.prog 11 #[.pointer (some ⟨p, 0, .none⟩), .int .i64 a] w fun e w' => e = .returned (.int .i64 c) ∧ ∃ S', BB W w' p S' s' r vs t ob a b :=
  (bd_open h.bd ia hs).mono fun _ _ ⟨e, S', n, k⟩ => ⟨e, S', h.bstep n k⟩
theorem bb_bind (h : BB W w p S s r vs t ob a b) (ia : I64 a) (ib : I64 b) (hs : s.bind a b = (c, s')) : Calls Tryd.prog 12 #[.pointer (some ⟨p, 0, .none⟩), .int .i64 a, .int .i64 b] w fun e w' => e = .returned (.int .i64 c) ∧ ∃ S', BB W w' p S' s' r vs t ob a b :=
  (bd_bind h.bd ia ib hs).mono fun _ _ ⟨e, S', n, k⟩ => ⟨e, S', h.bstep n k⟩
theorem bb_good (h : BB W w p S s r vs t ob a b) (ia : I64 a) (hs : s.good a = ((l, c), s')) : Calls Tryd.prog 14 #[.pointer (some ⟨p, 0, .none⟩), .int .i64 a] w fun e w' => ∃ u, e = .returned (.tuple #[u, .int .i64 c]) ∧ OwnN w.heap.size w' u l ∧ (∀ g, u.ownBlock = some g → ¬ RFt r vs g) ∧ ∃ S', BB W w' p S' s' r vs t ob a b :=
  (bd_good h.bd ia hs).mono fun _ _ ⟨u, e, o, S', n, k⟩ => ⟨u, e, o, fun g e1 e2 => by have := (OwnN.lt o e1).1; have := (h.q.foot e2).2; omega, S', h.bstep n k⟩
theorem bb_bad (h : BB W w p S s r vs t ob a b) (ia : I64 a) (hs : s.bad a = ((l, c), s')) : Calls Tryd.prog 17 #[.pointer (some ⟨p, 0, .none⟩), .int .i64 a] w fun e w' => ∃ u, e = .returned (.tuple #[u, .int .i64 c]) ∧ OwnN w.heap.size w' u l ∧ (∀ g, u.ownBlock = some g → ¬ RFt r vs g) ∧ ∃ S', BB W w' p S' s' r vs t ob a b :=
  (bd_bad h.bd ia hs).mono fun _ _ ⟨u, e, o, S', n, k⟩ => ⟨u, e, o, fun g e1 e2 => by have := (OwnN.lt o e1).1; have := (h.q.foot e2).2; omega, S', h.bstep n k⟩
theorem rr_open (h : BB W w p S s r vs t ob a b) (room : t.ids.length + 1 ≤ 60) (hs : t.open a = (c, t')) : Calls Tryd.prog 19 #[.pointer (some ⟨r, 0, .none⟩), .int .i64 a] w fun e w' => e = .returned (.int .i64 c) ∧ ∃ vs', BB W w' p S s r vs' t' ob a b :=
  (ropen_any h.q room hs).mono fun _ _ ⟨e, vs', n, k⟩ => ⟨e, vs', h.qstep n k⟩
theorem rr_bind (h : BB W w p S s r vs t ob a b) (room : t.ed.length + 1 ≤ 60) (hs : t.bind a b = (c, t')) : Calls Tryd.prog 20 #[.pointer (some ⟨r, 0, .none⟩), .int .i64 a, .int .i64 b] w fun e w' => e = .returned (.int .i64 c) ∧ ∃ vs', BB W w' p S s r vs' t' ob a b :=
  (rbind_any h.q room hs).mono fun _ _ ⟨e, vs', n, k⟩ => ⟨e, vs', h.qstep n k⟩
theorem rr_good (h : BB W w p S s r vs t ob a b) (hs : t.good a = ((l, c), t')) : Calls Tryd.prog 21 #[.pointer (some ⟨r, 0, .none⟩), .int .i64 a] w fun e w' => ∃ u, e = .returned (.tuple #[u, .int .i64 c]) ∧ OwnN w.heap.size w' u l ∧ Keep (RFt r vs) w w' ∧ BB W w' p S s r vs t' ob a b :=
  (rgood_any h.q hs).mono fun _ _ ⟨u, e, o, n, k⟩ => ⟨u, e, o, k.mono (fun q e => .inr ⟨1, by omega, e⟩), h.one n k⟩
theorem rr_bad (h : BB W w p S s r vs t ob a b) (hs : t.bad a = ((l, c), t')) : Calls Tryd.prog 22 #[.pointer (some ⟨r, 0, .none⟩), .int .i64 a] w fun e w' => ∃ u, e = .returned (.tuple #[u, .int .i64 c]) ∧ OwnN w.heap.size w' u l ∧ Keep (RFt r vs) w w' ∧ BB W w' p S s r vs t' ob a b :=
  (rbad_any h.q hs).mono fun _ _ ⟨u, e, o, n, k⟩ => ⟨u, e, o, k.mono (fun q e => .inr ⟨1, by omega, e⟩), h.one n k⟩
/-- How much a call may add. -/
theorem grow_open (hs : s.open a = (c, s')) : s'.ids.length ≤ s.ids.length + 1 ∧ s'.ed.length ≤ s.ed.length + 1 := by
  unfold BdS.open at hs
  split at hs
  · obtain ⟨_, rfl⟩ := Prod.mk.inj hs; omega
  · split at hs
    · obtain ⟨_, rfl⟩ := Prod.mk.inj hs; omega
    · split at hs
      · obtain ⟨_, rfl⟩ := Prod.mk.inj hs; omega
      · obtain ⟨_, rfl⟩ := Prod.mk.inj hs; simp
theorem doom_len : (s.doom a).ids.length = s.ids.length ∧ (s.doom a).ed = s.ed := ⟨by simp [BdS.doom], rfl⟩
theorem put_len2 {v : Int} : (s.put a v).ids.length = s.ids.length ∧ (s.put a v).ed = s.ed := ⟨by simp [BdS.put], rfl⟩
theorem grow_bind (hs : s.bind a b = (c, s')) : s'.ids.length ≤ s.ids.length + 1 ∧ s'.ed.length ≤ s.ed.length + 1 := by
  have d1 := (doom_len (s := s) (a := a)).1
  have d2 := (doom_len (s := s) (a := a)).2
  unfold BdS.bind at hs
  split at hs
  · obtain ⟨_, rfl⟩ := Prod.mk.inj hs; omega
  · split at hs
    · obtain ⟨_, rfl⟩ := Prod.mk.inj hs; omega
    · split at hs
      · obtain ⟨_, rfl⟩ := Prod.mk.inj hs; omega
      · split at hs
        · obtain ⟨_, rfl⟩ := Prod.mk.inj hs; omega
        · split at hs
          · obtain ⟨_, rfl⟩ := Prod.mk.inj hs; rw [d1, d2]; omega
          · split at hs
            · obtain ⟨_, rfl⟩ := Prod.mk.inj hs; omega
            · obtain ⟨_, rfl⟩ := Prod.mk.inj hs
              split
              · exact ⟨by show (s.doom a).ids.length ≤ _; omega, by simp⟩
              · exact ⟨by show s.ids.length ≤ _; omega, by simp⟩
theorem grow_good (hs : s.good a = ((l, c), s')) : s'.ids.length = s.ids.length ∧ s'.ed.length = s.ed.length := by
  unfold BdS.good at hs
  split at hs
  · obtain ⟨_, rfl⟩ := Prod.mk.inj hs; exact ⟨rfl, rfl⟩
  · split at hs
    · obtain ⟨_, rfl⟩ := Prod.mk.inj hs; exact ⟨rfl, rfl⟩
    · split at hs
      · obtain ⟨_, rfl⟩ := Prod.mk.inj hs; exact ⟨rfl, rfl⟩
      · obtain ⟨_, rfl⟩ := Prod.mk.inj hs; exact ⟨put_len2.1, by rw [put_len2.2]⟩
theorem grow_bad (hs : s.bad a = ((l, c), s')) : s'.ids.length = s.ids.length ∧ s'.ed.length = s.ed.length := by
  unfold BdS.bad at hs
  split at hs
  · obtain ⟨_, rfl⟩ := Prod.mk.inj hs; exact ⟨rfl, rfl⟩
  · split at hs
    · obtain ⟨_, rfl⟩ := Prod.mk.inj hs; exact ⟨rfl, rfl⟩
    · obtain ⟨_, rfl⟩ := Prod.mk.inj hs; exact ⟨by rw [put_len2.1, doom_len.1], by rw [put_len2.2, doom_len.2]⟩
/-- The ids are of 64 bits. -/
def Ids64 (s : BdS) : Prop := ∀ x ∈ s.ids.map Prod.fst, I64 x
theorem doom_ids : (s.doom a).ids.map Prod.fst = s.ids.map Prod.fst := by
  unfold BdS.doom
  rw [List.map_map]
  refine List.map_congr_left fun p _ => ?_
  show (if p.2 = 1 ∧ (p.1 = a ∨ s.Rch p.1 a) then (p.1, (2 : Int)) else p).1 = p.1
  split <;> rfl
theorem ids_open (h : Ids64 s) (ia : I64 a) (hs : s.open a = (c, s')) : Ids64 s' := by
  unfold BdS.open at hs
  split at hs
  · obtain ⟨_, rfl⟩ := Prod.mk.inj hs; exact h
  · split at hs
    · obtain ⟨_, rfl⟩ := Prod.mk.inj hs; exact h
    · split at hs
      · obtain ⟨_, rfl⟩ := Prod.mk.inj hs; exact h
      · obtain ⟨_, rfl⟩ := Prod.mk.inj hs
        intro x hx
        have hx : x ∈ (s.ids ++ [(a, 1)]).map Prod.fst := hx
        rw [List.map_append, List.mem_append] at hx
        rcases hx with hx | hx
        · exact h x hx
        · have : x = a := by simpa using hx
          rw [this]; exact ia
theorem ids_bind (h : Ids64 s) (hs : s.bind a b = (c, s')) : Ids64 s' := by
  have d : Ids64 (s.doom a) := by unfold Ids64; rw [doom_ids]; exact h
  unfold BdS.bind at hs
  split at hs
  · obtain ⟨_, rfl⟩ := Prod.mk.inj hs; exact h
  · split at hs
    · obtain ⟨_, rfl⟩ := Prod.mk.inj hs; exact h
    · split at hs
      · obtain ⟨_, rfl⟩ := Prod.mk.inj hs; exact h
      · split at hs
        · obtain ⟨_, rfl⟩ := Prod.mk.inj hs; exact h
        · split at hs
          · obtain ⟨_, rfl⟩ := Prod.mk.inj hs; exact d
          · split at hs
            · obtain ⟨_, rfl⟩ := Prod.mk.inj hs; exact h
            · obtain ⟨_, rfl⟩ := Prod.mk.inj hs
              split
              · exact d
              · exact h
theorem ids_put {v : Int} (h : Ids64 s) : Ids64 (s.put a v) := by unfold Ids64; rw [put_ids]; exact h
theorem ids_good (h : Ids64 s) (hs : s.good a = ((l, c), s')) : Ids64 s' := by
  unfold BdS.good at hs
  split at hs
  · obtain ⟨_, rfl⟩ := Prod.mk.inj hs; exact h
  · split at hs
    · obtain ⟨_, rfl⟩ := Prod.mk.inj hs; exact h
    · split at hs
      · obtain ⟨_, rfl⟩ := Prod.mk.inj hs; exact h
      · obtain ⟨_, rfl⟩ := Prod.mk.inj hs; exact ids_put h
theorem ids_bad (h : Ids64 s) (hs : s.bad a = ((l, c), s')) : Ids64 s' := by
  unfold BdS.bad at hs
  split at hs
  · obtain ⟨_, rfl⟩ := Prod.mk.inj hs; exact h
  · split at hs
    · obtain ⟨_, rfl⟩ := Prod.mk.inj hs; exact h
    · obtain ⟨_, rfl⟩ := Prod.mk.inj hs; exact ids_put (by unfold Ids64; rw [doom_ids]; exact h)
theorem rise_len {P : Int → Prop} {m : List Int} : (riseB P m).length ≤ m.length :=
  nodup_le (List.Pairwise.imp (fun h => by omega) (rise_rises : (riseB P m).Pairwise (· < ·))) fun x hx => (mem_rise.1 hx).1
theorem len_good (hs : s.good a = ((l, c), s')) : l.length ≤ s.ids.length := by
  unfold BdS.good at hs
  split at hs
  · obtain ⟨h1, _⟩ := Prod.mk.inj hs; obtain ⟨rfl, _⟩ := Prod.mk.inj h1; simp
  · split at hs
    · obtain ⟨h1, _⟩ := Prod.mk.inj hs; obtain ⟨rfl, _⟩ := Prod.mk.inj h1; simp
    · split at hs
      · obtain ⟨h1, _⟩ := Prod.mk.inj hs; obtain ⟨rfl, _⟩ := Prod.mk.inj h1; simp
      · obtain ⟨h1, _⟩ := Prod.mk.inj hs; obtain ⟨rfl, _⟩ := Prod.mk.inj h1
        exact Nat.le_trans rise_len (by simp)
theorem len_bad (hs : s.bad a = ((l, c), s')) : l.length ≤ s.ids.length := by
  unfold BdS.bad at hs
  split at hs
  · obtain ⟨h1, _⟩ := Prod.mk.inj hs; obtain ⟨rfl, _⟩ := Prod.mk.inj h1; simp
  · split at hs
    · obtain ⟨h1, _⟩ := Prod.mk.inj hs; obtain ⟨rfl, _⟩ := Prod.mk.inj h1; simp
    · obtain ⟨h1, _⟩ := Prod.mk.inj hs; obtain ⟨rfl, _⟩ := Prod.mk.inj h1
      refine Nat.le_trans (List.length_filter_le _ _) (Nat.le_trans rise_len (by simp))
/-- Both, and no op. -/
structure BP (W w : World) (p : Nat) (S : Nat → Prop) (s : BdS) (r : Nat) (vs : Nat → Value) (k : Nat) : Prop where
  bd : Bd W w p S s
  q : RB w r vs s
  gr : W.heap.size ≤ r
  d : ∀ g, S g → ¬ RFt r vs g
  n1 : s.ids.length ≤ k
  n2 : s.ed.length ≤ k
  i : Ids64 s
theorem BP.quiet {k : Nat} (h : BP W w p S s r vs k) (kk : Keep (fun _ => False) w w') : BP W w' p S s r vs k := ⟨h.bd.later kk, h.q.later kk, h.gr, h.d, h.n1, h.n2, h.i⟩
theorem BP.op {k : Nat} (h : BP W w p S s r vs k) (kk : Keep (fun _ => False) w w') (h1 : w'.cell? ⟨ob, 1, none⟩ = some (.int .i64 a)) (h2 : w'.cell? ⟨ob, 2, none⟩ = some (.int .i64 b)) (hn : w.heap.size ≤ ob) : BB W w' p S s r vs s ob a b :=
  ⟨h.bd.later kk, h.q.later kk, h.gr, h.d, h1, h2, fun hs => by have := h.bd.lt _ hs; omega, fun hg => by have := (h.q.foot hg).2; omega⟩
theorem BB.bp {k : Nat} (h : BB W w p S s r vs s ob a b) (n1 : s.ids.length ≤ k) (n2 : s.ed.length ≤ k) (i : Ids64 s) : BP W w p S s r vs k := ⟨h.bd, h.q, h.gr, h.d, n1, n2, i⟩
end
end Go.Proofs.YtjobphjpfknfeaaDoor
