/- Several texts, one behind the other: PoolE, PoolC, RecV, RecF, RecG, RecM, SameN. -/
import Derived.Test.YtmfpjnlplimkeaaGreatLawHashPlaysZad
import Derived.Test.YtmfpjnlplimkeaaGreatLawHashPlaysZae
import Derived.Test.YtmfpjnlplimkeaaGreatLawHashPlaysZab
import Derived.Deep.QuietTactic
import Derived.BigQuiet
/- Contract of All of package pool: the links of the taken slots, in a slice of the call's own; condition: a state that calls can bring about. -/
namespace Go.Proofs.YtmfpjnlplimkeaaGreat
open Go.ChangeShapes Go.WideShapes Go.ChangeAt Go.RowKit
set_option linter.unusedVariables false

section
variable {w : World} {p b1 : Nat} {d m : Int} {vf : Value} {u : Int} {s : St}
def AllP (zs : List Int) (w : World) (e : Ending) (w' : World) : Prop := ∃ v, e = .returned v ∧ OwnU w.heap.size w' v zs ∧ Below w.heap.size w w'
end
end Go.Proofs.YtmfpjnlplimkeaaGreat
/- The contracts of package pool as the laws want them: a Pool in its blocks and in its state; what each call answers, in which state it leaves the Pool, and that it turns the Pool's own blocks alone; condition: a state that calls can bring about. -/
namespace Go.Proofs.YtmfpjnlplimkeaaGreat
open Go.ChangeShapes Go.WideShapes Go.ChangeAt Go.RowKit
set_option linter.unusedVariables false

theorem Free.keep {w w' : World} {p b1 : Nat} {s : St} {d : Int} {vf : Value} {T : Nat → Prop} (h : Free w p b1 s d vf) (k : Keep T w w') (hn : ∀ g, vf.ownBlock = some g → ¬ T g) : Free w' p b1 s d vf := by
  cases h with
  | not hg hf => exact .not hg hf
  | made b2 o q1 q2 => exact .made b2 (o.keep k hn) q1 q2
/-- A Pool at block p, in the blocks S, in state s. -/
def PoolAt (w : World) (p : Nat) (S : Nat → Prop) (s : St) : Prop :=
  ∃ b1 d vf, Core w p b1 d 0 vf (cnt s.taken) s ∧ Free w p b1 s d vf ∧ ∀ k, S k ↔ (k = p ∨ k = b1 ∨ vf.ownBlock = some k)
theorem PoolAt.keep {w w' : World} {p : Nat} {S T : Nat → Prop} {s : St} (h : PoolAt w p S s) (k : Keep T w w') (hn : ∀ g, S g → ¬ T g) : PoolAt w' p S s := by
  obtain ⟨b1, d, vf, c, f, hS⟩ := h
  exact ⟨b1, d, vf, c.keep k (hn p ((hS p).2 (.inl rfl))) (hn b1 ((hS b1).2 (.inr (.inl rfl)))), f.keep k (fun g hg => hn g ((hS g).2 (.inr (.inr hg)))), hS⟩
theorem PoolAt.lt {w : World} {p : Nat} {S : Nat → Prop} {s : St} (h : PoolAt w p S s) (k : Nat) (hk : S k) : k < w.heap.size := by
  obtain ⟨b1, d, vf, c, f, hS⟩ := h
  rcases (hS k).1 hk with rfl | rfl | hk
  · exact c.lp
  · exact c.lb
  · cases f with
    | not => simp [Value.ownBlock] at hk
    | made b2 o => exact o.lt hk
/-- The value v; the Pool now in state s; only its own blocks, and new ones, have turned. -/
def PPost (v : Value) (p : Nat) (S : Nat → Prop) (s : St) (w : World) (e : Ending) (w' : World) : Prop :=
  e = .returned v ∧ ∃ S', PoolAt w' p S' s ∧ Keep S w w' ∧ ∀ k, S' k → S k ∨ w.heap.size ≤ k
def PNew (n : Nat) (most : Int) (w : World) (e : Ending) (w' : World) : Prop :=
  ∃ p S, e = .returned (.tuple #[.pointer (some ⟨p, 0, none⟩), .int .i64 0]) ∧ PoolAt w' p S (St.new n most) ∧ (∀ k, S k → w.heap.size ≤ k) ∧ Below w.heap.size w w'
def PAll (zs : List Int) (p : Nat) (S : Nat → Prop) (s : St) (w : World) (e : Ending) (w' : World) : Prop :=
  ∃ v S', e = .returned v ∧ w'.ownsRow w.heap.size 32 1 v zs.length (zs.map (Value.int .u64)) ∧ PoolAt w' p S' s ∧ Keep S w w' ∧ (∀ k, S' k → S k ∨ w.heap.size ≤ k) ∧ ∀ g, v.ownBlock = some g → ¬ S' g
theorem pnew_no (n m : Int) (w : World) (h : n < 1 ∨ (¬ n < 1 ∧ 4096 < n) ∨ (¬ n < 1 ∧ ¬ 4096 < n ∧ m < 0) ∨ (¬ n < 1 ∧ ¬ 4096 < n ∧ ¬ m < 0 ∧ 65535 < m)) : Calls Tryz.prog 21 #[.int .i64 n, .int .i64 m] w fun e w' => e = .returned (.tuple #[.pointer none, .int .i64 1]) ∧ w = w' := qnew_no n m w h
theorem pnew_ok (n : Nat) (m : Int) (w : World) (h0 : 1 ≤ n) (h1 : n ≤ 4096) (m0 : 0 ≤ m) (m1 : m ≤ 65535) : Calls Tryz.prog 21 #[.int .i64 n, .int .i64 m] w (PNew n m w) := by
  refine (qnew_ok n m w h0 h1 m0 m1).mono ?_
  rintro e w' ⟨p, b1, rfl, c, lp, lb, bl⟩
  refine ⟨p, fun k => k = p ∨ k = b1, rfl, ⟨b1, 0, _, ?_, .not rfl rfl, fun k => by simp [Value.ownBlock]⟩, fun k hk => by rcases hk with rfl | rfl <;> assumption, bl⟩
  rw [show cnt (St.new n m).taken = 0 from cnt_rep n]
  exact c
section
variable {w : World} {p : Nat} {S : Nat → Prop} {s : St}
theorem stack_len (ok : Ok s) : (s.stack.length : Int) = s.tags.length - cnt s.taken - s.worn := by
  have ct := ok.ct
  have f0 := ok.f0
  have f1 := ok.f1
  simp [St.stack]
  omega
theorem cnt_b (ok : Ok s) : 0 ≤ cnt s.taken ∧ cnt s.taken ≤ 4096 := by
  have := cnt_nonneg s.taken
  have := cnt_le s.taken
  have := ok.tl
  have := ok.n1
  omega
theorem stack_b (ok : Ok s) : s.stack.length ≤ 4096 := by
  have := stack_len ok
  have := cnt_b ok
  have := ok.w0
  have := ok.n1
  omega
theorem cnt_take (ok : Ok s) {i : Nat} (hi : i < s.tags.length) (hk : s.tk i = false) : cnt (s.taken.set i true) = cnt s.taken + 1 := by
  have := cnt_set s.taken i (by rw [ok.tl]; exact hi) true
  have hk' : s.taken.getD i false = false := hk
  simp only [hk'] at this
  simpa using this
theorem cnt_give (ok : Ok s) {i : Nat} (hi : i < s.tags.length) (hk : s.tk i = true) : cnt (s.taken.set i false) = cnt s.taken - 1 := by
  have := cnt_set s.taken i (by rw [ok.tl]; exact hi) false
  have hk' : s.taken.getD i false = true := hk
  simp only [hk'] at this
  simpa using this
theorem stack_given {gs : List Int} {i : Nat} (hg : s.given = gs ++ [(i : Int)]) : s.stack = ({ s with taken := s.taken.set i true, given := gs } : St).stack ++ [(i : Int)] := by
  simp [St.stack, hg]
theorem stack_fresh {i : Nat} (hg : s.given = []) (hi : s.fresh = i) (hf : i < s.tags.length) : s.stack = ({ s with taken := s.taken.set i true, fresh := (i : Int) + 1 } : St).stack ++ [(i : Int)] := by
  have e : s.tags.length - i = s.tags.length - (i + 1) + 1 := by omega
  have e2 : ((i : Int) + 1).toNat = i + 1 := by omega
  simp only [St.stack, hg, hi, Int.toNat_natCast, e, e2, List.range_succ, List.map_append, List.append_nil]
  simp
  omega
theorem stack_full (hg : s.given = []) (hf : s.fresh = s.tags.length) : s.stack = [] := by simp [St.stack, hg, hf]
theorem ptop (h : PoolAt w p S s) (ok : Ok s) (s' : St) (i : Nat) (hs : s.stack = s'.stack ++ [(i : Int)]) (hi : i < s.tags.length) (hk : s.tk i = false) (gs : List Int) (fr : Int) (e : s' = { s with taken := s.taken.set i true, given := gs, fresh := fr }) :
    Calls Tryz.prog 28 #[.pointer (some ⟨p, 0, none⟩)] w (PPost (.tuple #[.int .u64 (s.link i), .int .i64 0]) p S s' w) := by
  obtain ⟨b1, d, vf, c, f, hS⟩ := h
  have cb := cnt_b ok
  have sb := stack_b ok
  have ce := cnt_take ok hi hk
  have sl : s'.stack.length ≤ 4096 := by rw [hs] at sb; simp at sb; omega
  refine (qtake_top c f ok cb.1 cb.2 s'.stack i hs sl hi).mono ?_
  rintro e1 w' ⟨rfl, b2, c2, o, q1, q2, k, g⟩
  have tl : s'.tags.length = s.tags.length := by rw [e]
  have c3 : Core w' p b1 1 0 (.slice (some ⟨b2, 0, none⟩) s'.stack.length s.tags.length) (cnt s'.taken) s' := by
    rw [show cnt s'.taken = cnt s.taken + 1 by rw [e]; exact ce]
    have := (c2.cutGiven gs).fresh fr
    rw [show ({ s with taken := s.taken.set i true, given := gs, fresh := fr } : St) = s' from e.symm] at this
    exact this
  rw [← tl] at c3 o
  refine ⟨rfl, fun k => k = p ∨ k = b1 ∨ k = b2, ⟨b1, 1, _, c3, .made b2 o q1 q2, fun k => by simp [Value.ownBlock, eq_comm]⟩, k.mono (fun k hk => (hS k).2 (by rcases hk with hk | hk; exact .inl hk; exact .inr (.inl hk))), ?_⟩
  rintro k (hk | hk | rfl)
  · exact .inl ((hS k).2 (.inl hk))
  · exact .inl ((hS k).2 (.inr (.inl hk)))
  · rcases g with g | g
    · exact .inl ((hS k).2 (.inr (.inr g)))
    · exact .inr g
theorem ptake_given (h : PoolAt w p S s) (ok : Ok s) (gs : List Int) (i : Nat) (hg : s.given = gs ++ [(i : Int)]) : Calls Tryz.prog 28 #[.pointer (some ⟨p, 0, none⟩)] w (PPost (.tuple #[.int .u64 (s.link i), .int .i64 0]) p S { s with taken := s.taken.set i true, given := gs } w) := by
  obtain ⟨hi, hk, _⟩ := ok_takeGiven ok hg
  exact ptop h ok _ i (stack_given hg) hi hk gs s.fresh rfl
theorem ptake_fresh (h : PoolAt w p S s) (ok : Ok s) (hg : s.given = []) (i : Nat) (hi : s.fresh = i) (hf : i < s.tags.length) : Calls Tryz.prog 28 #[.pointer (some ⟨p, 0, none⟩)] w (PPost (.tuple #[.int .u64 (s.link i), .int .i64 0]) p S { s with taken := s.taken.set i true, fresh := (i : Int) + 1 } w) :=
  ptop h ok _ i (stack_fresh hg hi hf) hf (ok.ft i (by omega)) s.given ((i : Int) + 1) rfl
theorem ptake_full (h : PoolAt w p S s) (ok : Ok s) (hg : s.given = []) (hf : s.fresh = s.tags.length) : Calls Tryz.prog 28 #[.pointer (some ⟨p, 0, none⟩)] w (PPost (.tuple #[.int .u64 0, .int .i64 15]) p S s w) := by
  obtain ⟨b1, d, vf, c, f, hS⟩ := h
  refine (qtake_full c f ok (stack_full hg hf)).mono ?_
  rintro e1 w' ⟨rfl, b2, c2, o, q1, q2, k, g⟩
  refine ⟨rfl, fun k => k = p ∨ k = b1 ∨ k = b2, ⟨b1, 1, _, c2, .made b2 o q1 q2, fun k => by simp [Value.ownBlock, eq_comm]⟩, k.mono (fun k hk => (hS k).2 (by rcases hk with hk | hk; exact .inl hk; exact .inr (.inl hk))), ?_⟩
  rintro k (hk | hk | rfl)
  · exact .inl ((hS k).2 (.inl hk))
  · exact .inl ((hS k).2 (.inr (.inl hk)))
  · rcases g with g | g
    · exact .inl ((hS k).2 (.inr (.inr g)))
    · exact .inr g
theorem PPost.same (h : PoolAt w p S s) {v : Value} {e : Ending} {w' : World} (he : e = .returned v) (hw : w = w') : PPost v p S s w e w' := by
  subst hw
  exact ⟨he, S, h, Keep.refl _ _, fun k hk => .inl hk⟩
/-- Where a slot is taken the list is made. -/
theorem list_made {b1 : Nat} {d : Int} {vf : Value} (f : Free w p b1 s d vf) (ok : Ok s) {i : Nat} (ht : s.tk i = true) :
    d = 1 ∧ ∃ b2, vf = .slice (some ⟨b2, 0, none⟩) s.stack.length s.tags.length ∧ OwnP w (.slice (some ⟨b2, 0, none⟩) s.stack.length s.tags.length) s.stack ∧ p ≠ b2 ∧ b1 ≠ b2 := by
  cases f with
  | not hg hf =>
    have := ok.ft i (by omega)
    rw [ht] at this
    cases this
  | made b2 o q1 q2 => exact ⟨rfl, b2, rfl, o, q1, q2⟩
theorem plive_yes (h : PoolAt w p S s) (ok : Ok s) (i : Nat) (hi : i < s.tags.length) (ht : s.tk i = true) : Calls Tryz.prog 50 #[.pointer (some ⟨p, 0, none⟩), .int .u64 (s.link i)] w (PPost (.bool true) p S s w) := by
  obtain ⟨b1, d, vf, c, f, hS⟩ := id h
  exact (qlive_yes c ok i hi ht).mono fun e w' ⟨a, b⟩ => PPost.same h a b
theorem plive_no (h : PoolAt w p S s) (ok : Ok s) (l : Int) (h0 : 0 ≤ l) (h1 : l ≤ 18446744073709551615) (hl : s.live l = false) : Calls Tryz.prog 50 #[.pointer (some ⟨p, 0, none⟩), .int .u64 l] w (PPost (.bool false) p S s w) := by
  obtain ⟨b1, d, vf, c, f, hS⟩ := id h
  exact (qlive_no c ok l h0 h1 hl).mono fun e w' ⟨a, b⟩ => PPost.same h a b
end
end Go.Proofs.YtmfpjnlplimkeaaGreat
/- What a Store of package rec is in memory: a Pool of package pool and an Arena of package arena, five words a slot; kept where other blocks turn; what becomes of it behind a call of either. No condition. -/
namespace Go.Proofs.YtmfpjnlplimkeaaGreat
open Go.ChangeShapes Go.WideShapes Go.ChangeAt Go.RowKit
set_option linter.unusedVariables false

def Ver.f (x : Ver) : Nat → Int
  | 0 => x.k
  | 1 => x.v
  | 2 => x.b
  | 3 => x.e
  | _ => x.n
/-- The words zs are those of the versions r, five a version. -/
structure Lay (zs : List Int) (r : List Ver) : Prop where
  len : zs.length = r.length * 5
  c : ∀ i j, i < r.length → j < 5 → zs.getD (i * 5 + j) 0 = (r.getD i ⟨0, 0, 0, 0, 0⟩).f j
theorem getD_setI (l : List Int) (i j : Nat) (x : Int) (h : i < l.length) : (l.set i x).getD j 0 = if i = j then x else l.getD j 0 := by
  simp only [List.getD_eq_getElem?_getD, List.getElem?_set]
  by_cases e : i = j
  · subst e; simp [h]
  · simp [e]
theorem getD_setV (l : List Ver) (i j : Nat) (x : Ver) (h : i < l.length) : (l.set i x).getD j ⟨0, 0, 0, 0, 0⟩ = if i = j then x else l.getD j ⟨0, 0, 0, 0, 0⟩ := by
  simp only [List.getD_eq_getElem?_getD, List.getElem?_set]
  by_cases e : i = j
  · subst e; simp [h]
  · simp [e]
theorem Lay.set {zs : List Int} {r : List Ver} (h : Lay zs r) (i j : Nat) (hi : i < r.length) (hj : j < 5) (x : Int) (y : Ver) (hy : ∀ m, m < 5 → y.f m = if m = j then x else (r.getD i ⟨0, 0, 0, 0, 0⟩).f m) : Lay (zs.set (i * 5 + j) x) (r.set i y) := by
  have hl := h.len
  refine ⟨by simpa using hl, fun a b ha hb => ?_⟩
  rw [List.length_set] at ha
  rw [getD_setI _ _ _ _ (by omega), getD_setV _ _ _ _ hi]
  have ea := h.c a b ha hb
  by_cases e : i = a
  · subst e
    rw [if_pos rfl, hy b hb]
    by_cases eb : b = j
    · subst eb
      rw [if_pos rfl, if_pos rfl]
    · rw [if_neg (by omega), if_neg eb]
      exact ea
  · rw [if_neg (by omega), if_neg e]
    exact ea
theorem lay_new (n : Nat) : Lay (List.replicate (n * 5) 0) (List.replicate n ⟨0, 0, 0, 0, 0⟩) := by
  refine ⟨by simp, fun i j hi hj => ?_⟩
  rw [getD_zero, getD_rep]
  rcases (by omega : j = 0 ∨ j = 1 ∨ j = 2 ∨ j = 3 ∨ j = 4) with rfl | rfl | rfl | rfl | rfl <;> rfl
/-- A Store at block p; its Pool at pp, in the blocks Sp; its Arena at pa, its words zs at qa, c its count. -/
structure VCore (w : World) (p pp : Nat) (Sp : Nat → Prop) (pa qa : Nat) (c : Int) (zs : List Int) (s : RS) : Prop where
  c0 : w.cell? ⟨p, 0, none⟩ = some (.pointer (some ⟨pp, 0, none⟩))
  c1 : w.cell? ⟨p, 1, none⟩ = some (.pointer (some ⟨pa, 0, none⟩))
  hp : PoolAt w pp Sp s.s
  ha : Ar w pa qa zs c
  lay : Lay zs s.r
  n0 : 0 ≤ c
  n1 : c ≤ s.c
  d0 : ¬ Sp p
  d1 : ¬ Sp pa
  d2 : ¬ Sp qa
  e1 : p ≠ pa
  e2 : p ≠ qa
section
variable {w w' : World} {p pp pa qa : Nat} {Sp Sp' : Nat → Prop} {c c' : Int} {zs zs' : List Int} {s s' : RS}
theorem VCore.lp (h : VCore w p pp Sp pa qa c zs s) : p < w.heap.size := lt_of_cell (a := ⟨p, 0, none⟩) h.c0
theorem VCore.keep (h : VCore w p pp Sp pa qa c zs s) {T : Nat → Prop} (k : Keep T w w') (h0 : ¬ T p) (h1 : ∀ g, Sp g → ¬ T g) (h2 : ¬ T pa) (h3 : ¬ T qa) : VCore w' p pp Sp pa qa c zs s :=
  ⟨k.cell h.c0 h0, k.cell h.c1 h0, h.hp.keep k h1, h.ha.keep k h2 h3, h.lay, h.n0, h.n1, h.d0, h.d1, h.d2, h.e1, h.e2⟩
theorem VCore.more (h : VCore w p pp Sp pa qa c zs s) (e1 : s'.s = s.s) (e2 : s'.r = s.r) (e3 : s.c ≤ s'.c) : VCore w p pp Sp pa qa c zs s' :=
  ⟨h.c0, h.c1, by rw [e1]; exact h.hp, h.ha, by rw [e2]; exact h.lay, h.n0, by have := h.n1; omega, h.d0, h.d1, h.d2, h.e1, h.e2⟩
/-- The Arena has turned. -/
theorem VCore.arena (h : VCore w p pp Sp pa qa c zs s) (ha : Ar w' pa qa zs' c') (k : Keep (Two pa qa) w w') (lay : Lay zs' s'.r) (es : s'.s = s.s) (n0 : 0 ≤ c') (n1 : c' ≤ s'.c) : VCore w' p pp Sp pa qa c' zs' s' :=
  have hn : ¬ Two pa qa p := fun x => by rcases x with x | x; exact h.e1 x; exact h.e2 x
  ⟨k.cell h.c0 hn, k.cell h.c1 hn, by rw [es]; exact h.hp.keep k (fun g hg x => by rcases x with x | x; exact h.d1 (x ▸ hg); exact h.d2 (x ▸ hg)), ha, lay, n0, n1, h.d0, h.d1, h.d2, h.e1, h.e2⟩
/-- The Pool has turned. -/
theorem VCore.pool (h : VCore w p pp Sp pa qa c zs s) (hp : PoolAt w' pp Sp' s'.s) (k : Keep Sp w w') (g : ∀ k, Sp' k → Sp k ∨ w.heap.size ≤ k) (er : s'.r = s.r) (ec : s.c ≤ s'.c) : VCore w' p pp Sp' pa qa c zs s' := by
  have lp := h.lp
  have la := h.ha.lt
  have lq := h.ha.ws.lt
  exact ⟨k.cell h.c0 h.d0, k.cell h.c1 h.d0, hp, h.ha.keep k h.d1 h.d2, by rw [er]; exact h.lay, h.n0, by have := h.n1; omega, fun x => by rcases g _ x with y | y; exact h.d0 y; omega, fun x => by rcases g _ x with y | y; exact h.d1 y; omega, fun x => by rcases g _ x with y | y; exact h.d2 y; omega, h.e1, h.e2⟩
end
/-- The blocks of a Store. -/
def VFoot (p pa qa : Nat) (Sp : Nat → Prop) (k : Nat) : Prop := k = p ∨ Sp k ∨ k = pa ∨ k = qa
/-- A Store at block p, in the blocks S, in state s. -/
def VAt (w : World) (p : Nat) (S : Nat → Prop) (s : RS) : Prop := ∃ pp Sp pa qa c zs, VCore w p pp Sp pa qa c zs s ∧ ∀ k, S k ↔ VFoot p pa qa Sp k
theorem VAt.keep {w w' : World} {p : Nat} {S T : Nat → Prop} {s : RS} (h : VAt w p S s) (k : Keep T w w') (hn : ∀ g, S g → ¬ T g) : VAt w' p S s := by
  obtain ⟨pp, Sp, pa, qa, c, zs, h, hS⟩ := h
  exact ⟨pp, Sp, pa, qa, c, zs, h.keep k (hn _ ((hS _).2 (.inl rfl))) (fun g hg => hn _ ((hS _).2 (.inr (.inl hg)))) (hn _ ((hS _).2 (.inr (.inr (.inl rfl))))) (hn _ ((hS _).2 (.inr (.inr (.inr rfl))))), hS⟩
theorem VAt.lt {w : World} {p : Nat} {S : Nat → Prop} {s : RS} (h : VAt w p S s) (k : Nat) (hk : S k) : k < w.heap.size := by
  obtain ⟨pp, Sp, pa, qa, c, zs, h, hS⟩ := h
  rcases (hS k).1 hk with rfl | hk | rfl | rfl
  · exact h.lp
  · exact h.hp.lt k hk
  · exact h.ha.lt
  · exact h.ha.ws.lt
/-- The value r; the Store now in state s; only its own blocks, and new ones, have turned. -/
def VPost (r : Value) (p : Nat) (S : Nat → Prop) (s : RS) (w : World) (e : Ending) (w' : World) : Prop :=
  e = .returned r ∧ ∃ S', VAt w' p S' s ∧ Keep S w w' ∧ ∀ k, S' k → S k ∨ w.heap.size ≤ k
/-- Of a Store whose Arena alone has turned, or nothing. -/
theorem VPost.of {w w' : World} {p pp pa qa : Nat} {Sp : Nat → Prop} {c' : Int} {zs' : List Int} {s' : RS} {S : Nat → Prop} {r : Value} {e : Ending} (he : e = .returned r) (h : VCore w' p pp Sp pa qa c' zs' s') (hS : ∀ k, S k ↔ VFoot p pa qa Sp k) (k : Keep (Two pa qa) w w') : VPost r p S s' w e w' :=
  ⟨he, S, ⟨pp, Sp, pa, qa, c', zs', h, hS⟩, k.mono (fun g hg => (hS g).2 (by rcases hg with x | x; exact .inr (.inr (.inl x)); exact .inr (.inr (.inr x)))), fun g hg => .inl hg⟩
/-- Of a Store whose Pool has turned, and then its Arena, or nothing. -/
theorem VPost.of2 {w w' : World} {p pp pa qa : Nat} {Sp Sp' : Nat → Prop} {c' : Int} {zs' : List Int} {s' : RS} {S : Nat → Prop} {r : Value} {e : Ending} (he : e = .returned r) (h : VCore w' p pp Sp' pa qa c' zs' s') (hS : ∀ k, S k ↔ VFoot p pa qa Sp k) (g : ∀ k, Sp' k → Sp k ∨ w.heap.size ≤ k) (k : Keep (fun j => Sp j ∨ Two pa qa j) w w') : VPost r p S s' w e w' :=
  ⟨he, VFoot p pa qa Sp', ⟨pp, Sp', pa, qa, c', zs', h, fun k => Iff.rfl⟩, k.mono (fun g hg => (hS g).2 (by rcases hg with x | x | x; exact .inr (.inl x); exact .inr (.inr (.inl x)); exact .inr (.inr (.inr x)))), fun j hj => by
    rcases hj with x | x | x | x
    · exact .inl ((hS j).2 (.inl x))
    · rcases g j x with y | y
      · exact .inl ((hS j).2 (.inr (.inl y)))
      · exact .inr y
    · exact .inl ((hS j).2 (.inr (.inr (.inl x))))
    · exact .inl ((hS j).2 (.inr (.inr (.inr x))))⟩
def VNewP (n : Nat) (w : World) (e : Ending) (w' : World) : Prop :=
  ∃ p S, e = .returned (.tuple #[.pointer (some ⟨p, 0, none⟩), .int .i64 0]) ∧ VAt w' p S (RS.new n) ∧ (∀ k, S k → w.heap.size ≤ k) ∧ Below w.heap.size w w'
def VLinks (zs : List Int) (p : Nat) (S : Nat → Prop) (s : RS) (w : World) (e : Ending) (w' : World) : Prop :=
  ∃ v S', e = .returned v ∧ OwnU w.heap.size w' v zs ∧ VAt w' p S' s ∧ Keep S w w' ∧ (∀ k, S' k → S k ∨ w.heap.size ≤ k) ∧ ∀ g, v.ownBlock = some g → ¬ S' g
def verV (x : Ver) : Value := .agg #[.int .i64 x.k, .int .i64 x.v, .int .u64 x.b, .int .u64 x.e, .int .u64 x.n]
def RS.get (s : RS) (l : Int) : Value := if s.s.live l = true then .tuple #[verV (s.ver (slotOf l)), .bool true] else .tuple #[verV ⟨0, 0, 0, 0, 0⟩, .bool false]
end Go.Proofs.YtmfpjnlplimkeaaGreat
/- Package rec: first, isKey, isValue; New, Free, Used, Links; conditions: the Store is one that calls have made of an empty one, its count of accesses is below 2^62. -/
namespace Go.Proofs.YtmfpjnlplimkeaaGreat
open Go.ChangeShapes Go.WideShapes Go.ChangeAt Go.RowKit
set_option linter.unusedVariables false

theorem iskey_any (k : Int) (w : World) : Calls Tryz.prog 26 #[.int .i64 k] w fun e w' => e = .returned (.bool (decide (0 ≤ k ∧ k ≤ 63))) ∧ w = w' := by
  by_cases h0 : 0 ≤ k
  · by_cases h1 : k ≤ 63
    · rw [show decide (0 ≤ k ∧ k ≤ 63) = true from decide_eq_true ⟨h0, h1⟩]
      go_enter Tryz.func26, Tryz.ntmps26
      go_wp2
      go_ret
      exact ⟨rfl, rfl⟩
    · rw [show decide (0 ≤ k ∧ k ≤ 63) = false from decide_eq_false (by omega)]
      go_enter Tryz.func26, Tryz.ntmps26
      go_wp2
      go_ret
      exact ⟨rfl, rfl⟩
  · rw [show decide (0 ≤ k ∧ k ≤ 63) = false from decide_eq_false (by omega)]
    go_enter Tryz.func26, Tryz.ntmps26
    go_wp2
    go_ret
    exact ⟨rfl, rfl⟩
theorem isval_any (k : Int) (w : World) : Calls Tryz.prog 27 #[.int .i64 k] w fun e w' => e = .returned (.bool (decide (0 ≤ k ∧ k ≤ 65535))) ∧ w = w' := by
  by_cases h0 : 0 ≤ k
  · by_cases h1 : k ≤ 65535
    · rw [show decide (0 ≤ k ∧ k ≤ 65535) = true from decide_eq_true ⟨h0, h1⟩]
      go_enter Tryz.func27, Tryz.ntmps27
      go_wp2
      go_ret
      exact ⟨rfl, rfl⟩
    · rw [show decide (0 ≤ k ∧ k ≤ 65535) = false from decide_eq_false (by omega)]
      go_enter Tryz.func27, Tryz.ntmps27
      go_wp2
      go_ret
      exact ⟨rfl, rfl⟩
  · rw [show decide (0 ≤ k ∧ k ≤ 65535) = false from decide_eq_false (by omega)]
    go_enter Tryz.func27, Tryz.ntmps27
    go_wp2
    go_ret
    exact ⟨rfl, rfl⟩
section
variable {w : World} {p pp pa qa : Nat} {Sp : Nat → Prop} {c : Int} {zs : List Int} {s : RS}
theorem vfirst_no (h : VCore w p pp Sp pa qa c zs s) (ok : ROk s) (l : Int) (hl : U64 l) (hd : s.s.live l = false) :
    Calls Tryz.prog 29 #[.pointer (some ⟨p, 0, none⟩), .int .u64 l] w fun e w' => e = .returned (.tuple #[.int .i64 0, .bool false]) ∧ w = w' := by
  have c0 := h.c0
  obtain ⟨b1, d, vf, cr, f, hS⟩ := id h.hp
  go_enter Tryz.func29, Tryz.ntmps29
  go_wp2_with (go_at_call 50; refine (qlive_no cr ok.p l hl.1 hl.2 hd).mono ?_; rintro e w' ⟨rfl, rfl⟩)
  go_ret2
  exact ⟨rfl, rfl⟩
theorem vfirst_yes (h : VCore w p pp Sp pa qa c zs s) (ok : ROk s) (l : Int) (hd : s.s.live l = true) (m : Nat) (hm : slotOf l * 5 = m) :
    Calls Tryz.prog 29 #[.pointer (some ⟨p, 0, none⟩), .int .u64 l] w fun e w' => e = .returned (.tuple #[.int .i64 m, .bool true]) ∧ w = w' := by
  have c0 := h.c0
  obtain ⟨b1, d, vf, cr, f, hS⟩ := id h.hp
  obtain ⟨hi, ht, el⟩ := slot_live hd
  obtain ⟨i, ei⟩ : ∃ i, slotOf l = i := ⟨_, rfl⟩
  rw [ei] at hi ht el hm
  subst hm
  have n1 := ok.p.n1
  have lm := link_mod s.s i (by omega)
  have lb := link_b ok.p i hi
  have hL := qlive_yes cr ok.p i hi ht
  rw [← el] at lm lb hL
  have hU := unlink_any l (by omega) (by omega) w
  rw [show uslot l = i by unfold uslot; omega] at hU
  clear lm ei el
  go_enter Tryz.func29, Tryz.ntmps29
  go_wp2_with (first | (go_at_call 50; refine hL.mono ?_; rintro e w' ⟨rfl, rfl⟩) | (go_at_call 51; refine hU.mono ?_; rintro e w' ⟨rfl, rfl⟩))
  go_ret2
  exact ⟨rfl, rfl⟩
end
section
variable {w : World} {p : Nat} {S : Nat → Prop} {s : RS}
end
theorem vnew_no (n : Int) (w : World) (h : n < 1 ∨ 4096 < n) : Calls Tryz.prog 5 #[.int .i64 n] w fun e w' => e = .returned (.tuple #[.pointer none, .int .i64 1]) ∧ Below w.heap.size w w' := by
  have hN := pnew_no n 65535 w (by omega)
  go_enter Tryz.func5, Tryz.ntmps5
  go_wp2_with fail
  refine hN.mono ?_
  rintro e w1 ⟨rfl, rfl⟩
  go_wp2
  go_ret2
  exact ⟨rfl, Below.refl _ _⟩
set_option maxRecDepth 100000 in
theorem vnew_ok (n : Nat) (w : World) (h0 : 1 ≤ n) (h1 : n ≤ 4096) : Calls Tryz.prog 5 #[.int .i64 n] w (VNewP n w) := by
  have ec : IntKind.i64.wrap ((n : Int) * 5) = ((n * 5 : Nat) : Int) := by rw [IntWalk.i64_in _ (by omega)]; omega
  go_enter Tryz.func5, Tryz.ntmps5
  go_wp2_with fail
  refine (pnew_ok n 65535 w h0 h1 (by omega) (by omega)).mono ?_
  rintro e w1 ⟨pp, Sp, rfl, hp, gp, b1⟩
  go_wp2_with fail
  refine (new_ok (n * 5) _ (by omega) (by omega)).mono ?_
  rintro e w2 ⟨pa, qa, rfl, ha, ga, gq, b2⟩
  go_wp2
  go_ret2
  have s1 := b1.size
  have s2 := b2.size
  have k := Keep.alloc (Keep.refl (fun _ => False) w2) (.cells #[.pointer (some ⟨pp, 0, none⟩), .pointer (some ⟨pa, 0, none⟩)] 61)
  have la := ha.lt
  have lq := ha.ws.lt
  have hp2 := hp.keep (Keep.of_below b2 (fun _ => False)) (by simp)
  refine ⟨w2.heap.size, VFoot w2.heap.size pa qa Sp, rfl, ⟨pp, Sp, pa, qa, 0, _, ⟨by simp, by simp, hp2.keep k (by simp), ha.keep k (by simp) (by simp), lay_new n, by omega, by simp [RS.new], fun x => ?_, fun x => ?_, fun x => ?_, by omega, by omega⟩, fun k => Iff.rfl⟩, fun x hx => ?_, ?_⟩
  · have := hp2.lt _ x; omega
  · have := hp.lt _ x; omega
  · have := hp.lt _ x; omega
  · rcases hx with rfl | hx | rfl | rfl
    · omega
    · exact gp _ hx
    · omega
    · omega
  · exact (b1.trans (b2.mono s1)).trans (k.below (by omega) (by simp))
end Go.Proofs.YtmfpjnlplimkeaaGreat
/- Package rec: Set, Next, Begin, End, Make; conditions: the Store is one that calls have made of an empty one, its count of accesses is at most 2^62, the words are of 64 bits. -/
namespace Go.Proofs.YtmfpjnlplimkeaaGreat
open Go.ChangeShapes Go.WideShapes Go.ChangeAt Go.RowKit
set_option linter.unusedVariables false

section
variable {w : World} {p pp pa qa : Nat} {Sp : Nat → Prop} {c : Int} {zs : List Int} {s : RS}
/-- The slot of a link that is live: its words lie in the Arena. -/
theorem VCore.word (h : VCore w p pp Sp pa qa c zs s) (ok : ROk s) {l : Int} (hd : s.s.live l = true) (j : Nat) (hj : j < 5) : slotOf l * 5 + j < zs.length ∧ zs.getD (slotOf l * 5 + j) 0 = (s.ver (slotOf l)).f j ∧ slotOf l * 5 + j ≤ 20480 := by
  have hi := (slot_live hd).1
  have e := ok.l
  have n1 := ok.p.n1
  refine ⟨by rw [h.lay.len]; omega, h.lay.c _ _ (by omega) hj, by omega⟩
theorem VCore.put (h : VCore w p pp Sp pa qa c zs s) {w' : World} (i j : Nat) (hi : i < s.r.length) (hj : j < 5) (x : Int) (y : Ver) (hy : ∀ m, m < 5 → y.f m = if m = j then x else (s.ver i).f m) {s' : RS} (es : s'.s = s.s) (er : s'.r = s.r.set i y) (ec : s.c + 1 ≤ s'.c) (ha : Ar w' pa qa (zs.set (i * 5 + j) x) (c + 1)) (k : Keep (Two pa qa) w w') : VCore w' p pp Sp pa qa (c + 1) (zs.set (i * 5 + j) x) s' :=
  h.arena ha k (by rw [er]; exact h.lay.set i j hi hj x y hy) es (by have := h.n0; omega) (by have := h.n1; omega)
end
section
variable {w : World} {p : Nat} {S : Nat → Prop} {s : RS}
theorem vnext_any (h : VAt w p S s) (ok : ROk s) (hc : s.c ≤ 4611686018427387904) (l t : Int) (hl : U64 l) (ht : U64 t) : Calls Tryz.prog 33 #[.pointer (some ⟨p, 0, none⟩), .int .u64 l, .int .u64 t] w (VPost (.int .i64 (s.next l t).1) p S (s.next l t).2 w) := by
  obtain ⟨pp, Sp, pa, qa, c, zs, h, hS⟩ := h
  have cc := ok.c0
  by_cases hd : s.s.live l = true
  · have hf := vfirst_yes h ok l hd
    obtain ⟨b0, b1, b2⟩ := h.word ok hd 4 (by omega)
    have c1 := h.c1
    have n0 := h.n0
    have n1 := h.n1
    have hi : slotOf l < s.r.length := by rw [ok.l]; exact (slot_live hd).1
    obtain ⟨m, em⟩ : ∃ m, slotOf l * 5 = m := ⟨_, rfl⟩
    have hf := hf m em
    rw [em] at b0 b1 b2
    have e : s.next l t = (0, s.put (slotOf l) { s.ver (slotOf l) with n := t }) := by unfold RS.next; rw [if_pos hd]
    rw [e]
    have hst := store_in pa qa zs c (m + 4) t w h.ha b0 n0 (by omega) ht.1 ht.2
    clear e
    go_enter Tryz.func33, Tryz.ntmps33
    go_wp2_with fail
    refine (hf).mono ?_
    rintro e w1 ⟨rfl, rfl⟩
    go_wp2_with fail
    refine hst.mono ?_
    rintro e w1 ⟨rfl, a1, k1⟩
    go_wp2
    go_ret
    subst em
    exact VPost.of rfl (h.put (slotOf l) 4 hi (by omega) t { s.ver (slotOf l) with n := t } (by
      intro m hm
      rcases (by omega : m = 0 ∨ m = 1 ∨ m = 2 ∨ m = 3 ∨ m = 4) with rfl | rfl | rfl | rfl | rfl <;> rfl) rfl rfl (by show s.c + 1 ≤ s.c + 64; omega) a1 k1) hS k1
  · have hd : s.s.live l = false := by simpa using hd
    have hf := vfirst_no h ok l hl hd
    have e : s.next l t = (8, s.tick) := by unfold RS.next; rw [if_neg (by simp [hd])]
    rw [e]
    go_enter Tryz.func33, Tryz.ntmps33
    go_wp2_with fail
    refine hf.mono ?_
    rintro e w1 ⟨rfl, rfl⟩
    go_wp2
    go_ret
    exact VPost.of rfl (h.more rfl rfl (by show s.c ≤ s.c + 64; omega)) hS (Keep.refl _ _)
end
end Go.Proofs.YtmfpjnlplimkeaaGreat
/- Package rec: Make; conditions: the Store is one that calls have made of an empty one, its count of accesses is at most 2^62, the words are of 64 bits. -/
namespace Go.Proofs.YtmfpjnlplimkeaaGreat
open Go.ChangeShapes Go.WideShapes Go.ChangeAt Go.RowKit
set_option linter.unusedVariables false

theorem VCore.put2 {w w' : World} {p pp pa qa : Nat} {Sp : Nat → Prop} {c : Int} {zs : List Int} {s : RS} (h : VCore w p pp Sp pa qa c zs s) (i j : Nat) (hi : i < s.r.length) (hj : j < 5) (x : Int) (y0 y : Ver) (hv : s.ver i = y0) (hy : ∀ m, m < 5 → y.f m = if m = j then x else y0.f m) (ha : Ar w' pa qa (zs.set (i * 5 + j) x) (c + 1)) (k : Keep (Two pa qa) w w') :
    VCore w' p pp Sp pa qa (c + 1) (zs.set (i * 5 + j) x) ⟨s.s, s.r.set i y, s.c + 1⟩ ∧ RS.ver ⟨s.s, s.r.set i y, s.c + 1⟩ i = y :=
  ⟨h.put i j hi hj x y (by rw [hv]; exact hy) rfl rfl (Int.le_refl _) ha k, by rw [show RS.ver ⟨s.s, s.r.set i y, s.c + 1⟩ i = (s.r.set i y).getD i ⟨0, 0, 0, 0, 0⟩ from rfl, RS.ver_set s i i y hi, if_pos rfl]⟩
section
variable {w : World} {p : Nat} {S : Nat → Prop} {s : RS}
theorem vmake_no (h : VAt w p S s) (k v b e : Int) (hb : k < 0 ∨ 63 < k ∨ v < 0 ∨ 65535 < v) : Calls Tryz.prog 8 #[.pointer (some ⟨p, 0, none⟩), .int .i64 k, .int .i64 v, .int .u64 b, .int .u64 e] w (VPost (.tuple #[.int .u64 0, .int .i64 1]) p S s.tick w) := by
  obtain ⟨pp, Sp, pa, qa, c, zs, h, hS⟩ := h
  have hk := iskey_any k
  have hv := isval_any v
  by_cases h1 : 0 ≤ k ∧ k ≤ 63
  · rw [show decide (0 ≤ k ∧ k ≤ 63) = true from decide_eq_true h1] at hk
    rw [show decide (0 ≤ v ∧ v ≤ 65535) = false from decide_eq_false (by omega)] at hv
    clear hb
    go_enter Tryz.func8, Tryz.ntmps8
    go_wp2_with (first | (go_at_call 26; refine (hk _).mono ?_; rintro e w' ⟨rfl, rfl⟩) | (go_at_call 27; refine (hv _).mono ?_; rintro e w' ⟨rfl, rfl⟩))
    go_ret2
    exact VPost.of rfl (h.more rfl rfl (by show s.c ≤ s.c + 64; omega)) hS (Keep.refl _ _)
  · rw [show decide (0 ≤ k ∧ k ≤ 63) = false from decide_eq_false h1] at hk
    clear hb
    go_enter Tryz.func8, Tryz.ntmps8
    go_wp2_with (first | (go_at_call 26; refine (hk _).mono ?_; rintro e w' ⟨rfl, rfl⟩) | (go_at_call 27; refine (hv _).mono ?_; rintro e w' ⟨rfl, rfl⟩))
    go_ret2
    exact VPost.of rfl (h.more rfl rfl (by show s.c ≤ s.c + 64; omega)) hS (Keep.refl _ _)
theorem vmake_full (h : VAt w p S s) (ok : ROk s) (k v b e : Int) (hb : ¬ (k < 0 ∨ 63 < k ∨ v < 0 ∨ 65535 < v)) (ht : s.s.top = none) : Calls Tryz.prog 8 #[.pointer (some ⟨p, 0, none⟩), .int .i64 k, .int .i64 v, .int .u64 b, .int .u64 e] w (VPost (.tuple #[.int .u64 0, .int .i64 15]) p S s.tick w) := by
  obtain ⟨pp, Sp, pa, qa, c, zs, h, hS⟩ := h
  have hk := iskey_any k
  have hv := isval_any v
  rw [show decide (0 ≤ k ∧ k ≤ 63) = true from decide_eq_true (by omega)] at hk
  rw [show decide (0 ≤ v ∧ v ≤ 65535) = true from decide_eq_true (by omega)] at hv
  clear hb
  have c0 := h.c0
  have hT : Calls Tryz.prog 28 #[.pointer (some ⟨pp, 0, none⟩)] w (PPost (.tuple #[.int .u64 0, .int .i64 15]) pp Sp s.s w) := by
    rcases top_cases ok.p with ⟨h1, hg, hf⟩ | ⟨j, gs, h1, _⟩ | ⟨j, h1, _⟩
    · exact ptake_full h.hp ok.p hg hf
    · rw [ht] at h1; cases h1
    · rw [ht] at h1; cases h1
  go_enter Tryz.func8, Tryz.ntmps8
  go_wp2_with (first | (go_at_call 26; refine (hk _).mono ?_; rintro e w' ⟨rfl, rfl⟩) | (go_at_call 27; refine (hv _).mono ?_; rintro e w' ⟨rfl, rfl⟩))
  refine hT.mono ?_
  rintro e w1 ⟨rfl, Sp1, h1, k1, g1⟩
  go_wp2
  go_ret2
  exact VPost.of2 rfl (h.pool (s' := s.tick) h1 k1 g1 rfl (by show s.c ≤ s.c + 64; omega)) hS g1 (k1.mono fun j hj => .inl hj)
set_option maxRecDepth 100000 in
theorem vmake_ok (h : VAt w p S s) (ok : ROk s) (hc : s.c ≤ 4611686018427387904) (k v b e : Int) (ub : U64 b) (ue : U64 e) (hb : ¬ (k < 0 ∨ 63 < k ∨ v < 0 ∨ 65535 < v)) (i : Nat) (ht : s.s.top = some i) :
    Calls Tryz.prog 8 #[.pointer (some ⟨p, 0, none⟩), .int .i64 k, .int .i64 v, .int .u64 b, .int .u64 e] w (VPost (.tuple #[.int .u64 (s.s.link i), .int .i64 0]) p S ⟨s.s.took, s.r.set i ⟨k, v, b, e, 0⟩, s.c + 64⟩ w) := by
  obtain ⟨pp, Sp, pa, qa, c, zs, h, hS⟩ := h
  have hk := iskey_any k
  have hv := isval_any v
  rw [show decide (0 ≤ k ∧ k ≤ 63) = true from decide_eq_true (by omega)] at hk
  rw [show decide (0 ≤ v ∧ v ≤ 65535) = true from decide_eq_true (by omega)] at hv
  have k0 : 0 ≤ k := by omega
  have k1 : k ≤ 63 := by omega
  have v0 : 0 ≤ v := by omega
  have v1 : v ≤ 65535 := by omega
  clear hb
  have c0 := h.c0
  have hT : Calls Tryz.prog 28 #[.pointer (some ⟨pp, 0, none⟩)] w (PPost (.tuple #[.int .u64 (s.s.link i), .int .i64 0]) pp Sp s.s.took w) := by
    rcases top_cases ok.p with ⟨h1, _⟩ | ⟨j, gs, h1, hg, et, _⟩ | ⟨j, h1, hg, hf, et, hj, _⟩
    · rw [ht] at h1; cases h1
    · rw [ht] at h1; cases h1
      rw [et]
      exact ptake_given h.hp ok.p gs i hg
    · rw [ht] at h1; cases h1
      rw [et]
      exact ptake_fresh h.hp ok.p hg i hf hj
  obtain ⟨hi, htk, ok1, et1, et2, et3⟩ := ok_took ok.p ht
  have n1 := ok.p.n1
  have rl := ok.l
  have hir : i < s.r.length := by omega
  have okA : ROk ⟨s.s.took, s.r, s.c⟩ := ⟨ok1, et3.trans ok.m, by show s.r.length = s.s.took.tags.length; rw [et1]; exact rl, ok.v, ok.c0⟩
  have elk : s.s.link i = s.s.took.link i := by unfold St.link St.tag; rw [et1]
  have hsl : slotOf (s.s.link i) = i := slot_link _ _ (by omega)
  have hlv : s.s.took.live (s.s.link i) = true := by
    rw [elk]
    refine (live_iff _ _).2 ⟨i, by rw [et1]; exact hi, ?_, rfl, link_mod _ _ (by omega)⟩
    show s.s.took.taken.getD i false = true
    rw [et2]
    simp [List.getD_eq_getElem?_getD, show i < s.s.taken.length by rw [ok.p.tl]; exact hi]
  obtain ⟨l, el⟩ : ∃ l, s.s.link i = l := ⟨_, rfl⟩
  rw [el] at hT hsl hlv ⊢
  clear elk el
  obtain ⟨m, em⟩ : ∃ m, i * 5 = m := ⟨_, rfl⟩
  have zl : zs.length = s.r.length * 5 := h.lay.len
  have n0 := h.n0
  have nc := h.n1
  go_enter Tryz.func8, Tryz.ntmps8
  go_wp2_with (first | (go_at_call 26; refine (hk _).mono ?_; rintro e w' ⟨rfl, rfl⟩) | (go_at_call 27; refine (hv _).mono ?_; rintro e w' ⟨rfl, rfl⟩))
  refine hT.mono ?_
  rintro e' w1 ⟨rfl, Sp1, hp1, kk, g1⟩
  have h1 := h.pool (s' := ⟨s.s.took, s.r, s.c⟩) hp1 kk g1 rfl (Int.le_refl _)
  clear h c0 hp1 hT
  go_wp2_with fail
  refine (vfirst_yes h1 okA l hlv m (by rw [hsl]; exact em)).mono ?_
  rintro e' w' ⟨rfl, rfl⟩
  have c1 := h1.c1
  go_wp2_with fail
  refine (store_in pa qa zs c m k w1 h1.ha (by omega) n0 (by omega) k0 (by omega)).mono ?_
  rintro e' w2 ⟨rfl, a2, k2⟩
  subst em
  obtain ⟨h2, v2⟩ := h1.put2 i 0 hir (by omega) k (s.ver i) { s.ver i with k := k } rfl (by
    intro m hm
    rcases (by omega : m = 0 ∨ m = 1 ∨ m = 2 ∨ m = 3 ∨ m = 4) with rfl | rfl | rfl | rfl | rfl <;> rfl) a2 k2
  clear c1 a2 h1
  have c1 := h2.c1
  go_wp2_with fail
  refine (store_in pa qa _ _ (i * 5 + 1) v w2 h2.ha (by simp only [List.length_set]; omega) (by omega) (by omega) v0 (by omega)).mono ?_
  rintro e' w3 ⟨rfl, a3, k3⟩
  obtain ⟨h3, v3⟩ := h2.put2 i 1 (by simpa using hir) (by omega) v _ { s.ver i with k := k, v := v } v2 (by
    intro m hm
    rcases (by omega : m = 0 ∨ m = 1 ∨ m = 2 ∨ m = 3 ∨ m = 4) with rfl | rfl | rfl | rfl | rfl <;> rfl) a3 k3
  clear c1 a3 h2
  have c1 := h3.c1
  go_wp2_with fail
  refine (store_in pa qa _ _ (i * 5 + 2) b w3 h3.ha (by simp only [List.length_set]; omega) (by omega) (by omega) ub.1 ub.2).mono ?_
  rintro e' w4 ⟨rfl, a4, k4⟩
  obtain ⟨h4, v4⟩ := h3.put2 i 2 (by simpa using hir) (by omega) b _ { s.ver i with k := k, v := v, b := b } v3 (by
    intro m hm
    rcases (by omega : m = 0 ∨ m = 1 ∨ m = 2 ∨ m = 3 ∨ m = 4) with rfl | rfl | rfl | rfl | rfl <;> rfl) a4 k4
  clear c1 a4 h3
  have c1 := h4.c1
  go_wp2_with fail
  refine (store_in pa qa _ _ (i * 5 + 3) e w4 h4.ha (by simp only [List.length_set]; omega) (by omega) (by omega) ue.1 ue.2).mono ?_
  rintro e' w5 ⟨rfl, a5, k5⟩
  obtain ⟨h5, v5⟩ := h4.put2 i 3 (by simpa using hir) (by omega) e _ { s.ver i with k := k, v := v, b := b, e := e } v4 (by
    intro m hm
    rcases (by omega : m = 0 ∨ m = 1 ∨ m = 2 ∨ m = 3 ∨ m = 4) with rfl | rfl | rfl | rfl | rfl <;> rfl) a5 k5
  clear c1 a5 h4
  have c1 := h5.c1
  go_wp2_with fail
  refine (store_in pa qa _ _ (i * 5 + 4) 0 w5 h5.ha (by simp only [List.length_set]; omega) (by omega) (by omega) (by omega) (by omega)).mono ?_
  rintro e' w6 ⟨rfl, a6, k6⟩
  obtain ⟨h6, v6⟩ := h5.put2 i 4 (by simpa using hir) (by omega) 0 _ ⟨k, v, b, e, 0⟩ v5 (by
    intro m hm
    rcases (by omega : m = 0 ∨ m = 1 ∨ m = 2 ∨ m = 3 ∨ m = 4) with rfl | rfl | rfl | rfl | rfl <;> rfl) a6 k6
  clear c1 a6 h5
  go_wp2
  go_ret2
  have kt := ((((k2.trans k3).trans k4).trans k5).trans k6).mono (T := fun j => Sp j ∨ Two pa qa j) (fun j hj => .inr hj)
  exact VPost.of2 rfl (h6.more rfl (by simp only [List.set_set]) (by show s.c + 1 + 1 + 1 + 1 + 1 ≤ s.c + 64; omega)) hS g1 ((kk.mono (fun j hj => .inl hj)).trans kt)
theorem vmake_any (h : VAt w p S s) (ok : ROk s) (hc : s.c ≤ 4611686018427387904) (k v b e : Int) (hb : U64 b) (he : U64 e) : Calls Tryz.prog 8 #[.pointer (some ⟨p, 0, none⟩), .int .i64 k, .int .i64 v, .int .u64 b, .int .u64 e] w (VPost (.tuple #[.int .u64 (s.make k v b e).1, .int .i64 (s.make k v b e).2.1]) p S (s.make k v b e).2.2 w) := by
  by_cases hbad : k < 0 ∨ 63 < k ∨ v < 0 ∨ 65535 < v
  · have e1 : s.make k v b e = (0, 1, s.tick) := by unfold RS.make; rw [if_pos hbad]
    rw [e1]
    exact vmake_no h k v b e hbad
  · cases ht : s.s.top with
    | none =>
      have e1 : s.make k v b e = (0, 15, s.tick) := by unfold RS.make; rw [if_neg hbad, ht]
      rw [e1]
      exact vmake_full h ok k v b e hbad ht
    | some i =>
      have e1 : s.make k v b e = (s.s.link i, 0, ⟨s.s.took, s.r.set i ⟨k, v, b, e, 0⟩, s.c + 64⟩) := by unfold RS.make; rw [if_neg hbad, ht]
      rw [e1]
      exact vmake_ok h ok hc k v b e hb he hbad i ht
end
end Go.Proofs.YtmfpjnlplimkeaaGreat
/- Contract of vinculumref1.SameInts: two rows of the same ints: it answers true; no further condition. -/
namespace Go.Proofs.YtmfpjnlplimkeaaGreat
open Go.ChangeShapes Go.WideShapes Go.ChangeAt Go.RowKit
set_option linter.unusedVariables false

def SameNPost (w : World) (e : Ending) (w' : World) : Prop := e = .returned (.bool true) ∧ ∃ d, w' = w.drewN d
theorem sameN_yes (b b2 o o2 c1 c2 : Nat) (xs : List Int) (w : World) (hl : xs.length ≤ 100000)
    (h1 : ∀ i, i < xs.length → w.cell? ⟨b, o + i, none⟩ = some (.int .i64 (xs.getD i 0))) (h2 : ∀ i, i < xs.length → w.cell? ⟨b2, o2 + i, none⟩ = some (.int .i64 (xs.getD i 0))) :
    Calls Tryz.prog 19 #[.slice (some ⟨b, o, none⟩) xs.length c1, .slice (some ⟨b2, o2, none⟩) xs.length c2] w (SameNPost w) := by
  go_enter Tryz.func19, Tryz.ntmps19
  go_wp2
  go_loopw [5] (fun i wr => ∃ k d : Nat, k ≤ xs.length ∧ i = .int .i64 k ∧ wr = w.drewN d) (fun i _ => xs.length - (intOf i).toNat)
  case atStart => exact ⟨0, 0, Nat.zero_le _, rfl, rfl⟩
  case round =>
    obtain ⟨k, d, hk, rfl, rfl⟩ := hrel
    by_cases hlt : k < xs.length
    · have c1 := h1 k hlt
      have c2 := h2 k hlt
      obtain ⟨y, ey⟩ : ∃ y, xs.getD k 0 = y := ⟨_, rfl⟩
      rw [ey] at c1 c2
      clear ey h1 h2
      go_wp2_with fail
      go_quiet (fail)
      go_wp2
      go_roundw
      case rel => exact ⟨k + 1, _, by omega, by go_num, rfl⟩
      case measure => simp [intOf]; omega
    · obtain rfl : k = xs.length := by omega
      clear h1 h2
      go_wp2
      go_ret
      exact ⟨rfl, d, rfl⟩
/-- A slice of the call's own, written out but for where it lies. -/
theorem OwnN.out {B : Nat} {w : World} {v : Value} {zs : List Int} (h : OwnN B w v zs) : ∃ A c, v = .slice A zs.length c ∧ (A = none → zs = []) ∧ ∀ ad, A = some ad → ∃ g, ad = ⟨g, 0, none⟩ := by
  obtain ⟨h1, h2⟩ := id h
  rcases h2 with ⟨h3, h4⟩ | ⟨g, c, cur, hv, _⟩
  · exact ⟨none, 0, by rw [h4]; exact h3, fun _ => List.length_eq_zero_iff.1 h4, fun ad h => by cases h⟩
  · exact ⟨some ⟨g, 0, none⟩, c, hv, fun h => (by cases h), fun ad h => by cases h; exact ⟨g, rfl⟩⟩
theorem sameN_nil (A1 A2 : Option Addr) (c1 c2 : Nat) (w : World) : Calls Tryz.prog 19 #[.slice A1 0 c1, .slice A2 0 c2] w (SameNPost w) := by
  go_enter Tryz.func19, Tryz.ntmps19
  go_wp2
  go_loopw [5] (fun i wr => i = .int .i64 0 ∧ wr = w) (fun _ _ => 0)
  case atStart => exact ⟨rfl, rfl⟩
  case round =>
    obtain ⟨rfl, rfl⟩ := hrel
    go_wp2
    go_ret
    exact ⟨rfl, 0, rfl⟩
theorem sameN_own {B B2 : Nat} {w : World} {v1 v2 : Value} {zs : List Int} (h1 : OwnN B w v1 zs) (h2 : OwnN B2 w v2 zs) (hl : zs.length ≤ 100000) : Calls Tryz.prog 19 #[v1, v2] w (SameNPost w) := by
  obtain ⟨A1, c1, e1, n1, s1⟩ := h1.out
  obtain ⟨A2, c2, e2, n2, s2⟩ := h2.out
  subst e1; subst e2
  by_cases h0 : zs = []
  · subst h0
    exact sameN_nil A1 A2 c1 c2 w
  · cases A1 with
    | none => exact absurd (n1 rfl) h0
    | some a1 =>
      cases A2 with
      | none => exact absurd (n2 rfl) h0
      | some a2 =>
        obtain ⟨g1, rfl⟩ := s1 _ rfl
        obtain ⟨g2, rfl⟩ := s2 _ rfl
        exact sameN_yes g1 g2 0 0 c1 c2 zs w hl (fun i hi => by rw [Nat.zero_add]; exact h1.cell i hi) (fun i hi => by rw [Nat.zero_add]; exact h2.cell i hi)
end Go.Proofs.YtmfpjnlplimkeaaGreat
