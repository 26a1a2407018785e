/- What a Store of package rec is in memory: a Pool of package pool and an Arena of package arena, five words a slot; kept where other blocks turn; what becomes of it behind a call of either. No condition. -/
import Derived.Test.YtmfpjnlplimkeaaGreatRs
import Derived.Test.YtmfpjnlplimkeaaGreatPoolC
import Derived.Test.YtmfpjnlplimkeaaGreatMeth
namespace Go.Proofs.YtmfpjnlplimkeaaGreat
open Go.ChangeShapes Go.WideShapes Go.ChangeAt Go.RowKit
set_option linter.unusedVariables false

def Ver.f (x : Ver) : Nat → Int
  | 0 => x.k
  | 1 => x.v
  | 2 => x.b
  | 3 => x.e
  | _ => x.n
/-- The words zs are those of the versions r, five a version. -/
structure Lay (zs : List Int) (r : List Ver) : Prop where
  len : zs.length = r.length * 5
  c : ∀ i j, i < r.length → j < 5 → zs.getD (i * 5 + j) 0 = (r.getD i ⟨0, 0, 0, 0, 0⟩).f j
theorem getD_setI (l : List Int) (i j : Nat) (x : Int) (h : i < l.length) : (l.set i x).getD j 0 = if i = j then x else l.getD j 0 := by
  simp only [List.getD_eq_getElem?_getD, List.getElem?_set]
  by_cases e : i = j
  · subst e; simp [h]
  · simp [e]
theorem getD_setV (l : List Ver) (i j : Nat) (x : Ver) (h : i < l.length) : (l.set i x).getD j ⟨0, 0, 0, 0, 0⟩ = if i = j then x else l.getD j ⟨0, 0, 0, 0, 0⟩ := by
  simp only [List.getD_eq_getElem?_getD, List.getElem?_set]
  by_cases e : i = j
  · subst e; simp [h]
  · simp [e]
theorem Lay.set {zs : List Int} {r : List Ver} (h : Lay zs r) (i j : Nat) (hi : i < r.length) (hj : j < 5) (x : Int) (y : Ver) (hy : ∀ m, m < 5 → y.f m = if m = j then x else (r.getD i ⟨0, 0, 0, 0, 0⟩).f m) : Lay (zs.set (i * 5 + j) x) (r.set i y) := by
  have hl := h.len
  refine ⟨by simpa using hl, fun a b ha hb => ?_⟩
  rw [List.length_set] at ha
  rw [getD_setI _ _ _ _ (by omega), getD_setV _ _ _ _ hi]
  have ea := h.c a b ha hb
  by_cases e : i = a
  · subst e
    rw [if_pos rfl, hy b hb]
    by_cases eb : b = j
    · subst eb
      rw [if_pos rfl, if_pos rfl]
    · rw [if_neg (by omega), if_neg eb]
      exact ea
  · rw [if_neg (by omega), if_neg e]
    exact ea
theorem lay_new (n : Nat) : Lay (List.replicate (n * 5) 0) (List.replicate n ⟨0, 0, 0, 0, 0⟩) := by
  refine ⟨by simp, fun i j hi hj => ?_⟩
  rw [getD_zero, getD_rep]
  rcases (by omega : j = 0 ∨ j = 1 ∨ j = 2 ∨ j = 3 ∨ j = 4) with rfl | rfl | rfl | rfl | rfl <;> rfl
/-- A Store at block p; its Pool at pp, in the blocks Sp; its Arena at pa, its words zs at qa, c its count. -/
structure VCore (w : World) (p pp : Nat) (Sp : Nat → Prop) (pa qa : Nat) (c : Int) (zs : List Int) (s : RS) : Prop where
  c0 : w.cell? ⟨p, 0, none⟩ = some (.pointer (some ⟨pp, 0, none⟩))
  c1 : w.cell? ⟨p, 1, none⟩ = some (.pointer (some ⟨pa, 0, none⟩))
  hp : PoolAt w pp Sp s.s
  ha : Ar w pa qa zs c
  lay : Lay zs s.r
  n0 : 0 ≤ c
  n1 : c ≤ s.c
  d0 : ¬ Sp p
  d1 : ¬ Sp pa
  d2 : ¬ Sp qa
  e1 : p ≠ pa
  e2 : p ≠ qa
section
variable {w w' : World} {p pp pa qa : Nat} {Sp Sp' : Nat → Prop} {c c' : Int} {zs zs' : List Int} {s s' : RS}
theorem VCore.lp (h : VCore w p pp Sp pa qa c zs s) : p < w.heap.size := lt_of_cell (a := ⟨p, 0, none⟩) h.c0
theorem VCore.keep (h : VCore w p pp Sp pa qa c zs s) {T : Nat → Prop} (k : Keep T w w') (h0 : ¬ T p) (h1 : ∀ g, Sp g → ¬ T g) (h2 : ¬ T pa) (h3 : ¬ T qa) : VCore w' p pp Sp pa qa c zs s :=
  ⟨k.cell h.c0 h0, k.cell h.c1 h0, h.hp.keep k h1, h.ha.keep k h2 h3, h.lay, h.n0, h.n1, h.d0, h.d1, h.d2, h.e1, h.e2⟩
theorem VCore.more (h : VCore w p pp Sp pa qa c zs s) (e1 : s'.s = s.s) (e2 : s'.r = s.r) (e3 : s.c ≤ s'.c) : VCore w p pp Sp pa qa c zs s' :=
  ⟨h.c0, h.c1, by rw [e1]; exact h.hp, h.ha, by rw [e2]; exact h.lay, h.n0, by have := h.n1; omega, h.d0, h.d1, h.d2, h.e1, h.e2⟩
/-- The Arena has turned. -/
theorem VCore.arena (h : VCore w p pp Sp pa qa c zs s) (ha : Ar w' pa qa zs' c') (k : Keep (Two pa qa) w w') (lay : Lay zs' s'.r) (es : s'.s = s.s) (n0 : 0 ≤ c') (n1 : c' ≤ s'.c) : VCore w' p pp Sp pa qa c' zs' s' :=
  have hn : ¬ Two pa qa p := fun x => by rcases x with x | x; exact h.e1 x; exact h.e2 x
  ⟨k.cell h.c0 hn, k.cell h.c1 hn, by rw [es]; exact h.hp.keep k (fun g hg x => by rcases x with x | x; exact h.d1 (x ▸ hg); exact h.d2 (x ▸ hg)), ha, lay, n0, n1, h.d0, h.d1, h.d2, h.e1, h.e2⟩
/-- The Pool has turned. -/
theorem VCore.pool (h : VCore w p pp Sp pa qa c zs s) (hp : PoolAt w' pp Sp' s'.s) (k : Keep Sp w w') (g : ∀ k, Sp' k → Sp k ∨ w.heap.size ≤ k) (er : s'.r = s.r) (ec : s.c ≤ s'.c) : VCore w' p pp Sp' pa qa c zs s' := by
  have lp := h.lp
  have la := h.ha.lt
  have lq := h.ha.ws.lt
  exact ⟨k.cell h.c0 h.d0, k.cell h.c1 h.d0, hp, h.ha.keep k h.d1 h.d2, by rw [er]; exact h.lay, h.n0, by have := h.n1; omega, fun x => by rcases g _ x with y | y; exact h.d0 y; omega, fun x => by rcases g _ x with y | y; exact h.d1 y; omega, fun x => by rcases g _ x with y | y; exact h.d2 y; omega, h.e1, h.e2⟩
end
/-- The blocks of a Store. -/
def VFoot (p pa qa : Nat) (Sp : Nat → Prop) (k : Nat) : Prop := k = p ∨ Sp k ∨ k = pa ∨ k = qa
/-- A Store at block p, in the blocks S, in state s. -/
def VAt (w : World) (p : Nat) (S : Nat → Prop) (s : RS) : Prop := ∃ pp Sp pa qa c zs, VCore w p pp Sp pa qa c zs s ∧ ∀ k, S k ↔ VFoot p pa qa Sp k
theorem VAt.keep {w w' : World} {p : Nat} {S T : Nat → Prop} {s : RS} (h : VAt w p S s) (k : Keep T w w') (hn : ∀ g, S g → ¬ T g) : VAt w' p S s := by
  obtain ⟨pp, Sp, pa, qa, c, zs, h, hS⟩ := h
  exact ⟨pp, Sp, pa, qa, c, zs, h.keep k (hn _ ((hS _).2 (.inl rfl))) (fun g hg => hn _ ((hS _).2 (.inr (.inl hg)))) (hn _ ((hS _).2 (.inr (.inr (.inl rfl))))) (hn _ ((hS _).2 (.inr (.inr (.inr rfl))))), hS⟩
theorem VAt.lt {w : World} {p : Nat} {S : Nat → Prop} {s : RS} (h : VAt w p S s) (k : Nat) (hk : S k) : k < w.heap.size := by
  obtain ⟨pp, Sp, pa, qa, c, zs, h, hS⟩ := h
  rcases (hS k).1 hk with rfl | hk | rfl | rfl
  · exact h.lp
  · exact h.hp.lt k hk
  · exact h.ha.lt
  · exact h.ha.ws.lt
/-- The value r; the Store now in state s; only its own blocks, and new ones, have turned. -/
def VPost (r : Value) (p : Nat) (S : Nat → Prop) (s : RS) (w : World) (e : Ending) (w' : World) : Prop :=
  e = .returned r ∧ ∃ S', VAt w' p S' s ∧ Keep S w w' ∧ ∀ k, S' k → S k ∨ w.heap.size ≤ k
/-- Of a Store whose Arena alone has turned, or nothing. -/
theorem VPost.of {w w' : World} {p pp pa qa : Nat} {Sp : Nat → Prop} {c' : Int} {zs' : List Int} {s' : RS} {S : Nat → Prop} {r : Value} {e : Ending} (he : e = .returned r) (h : VCore w' p pp Sp pa qa c' zs' s') (hS : ∀ k, S k ↔ VFoot p pa qa Sp k) (k : Keep (Two pa qa) w w') : VPost r p S s' w e w' :=
  ⟨he, S, ⟨pp, Sp, pa, qa, c', zs', h, hS⟩, k.mono (fun g hg => (hS g).2 (by rcases hg with x | x; exact .inr (.inr (.inl x)); exact .inr (.inr (.inr x)))), fun g hg => .inl hg⟩
/-- Of a Store whose Pool has turned, and then its Arena, or nothing. -/
theorem VPost.of2 {w w' : World} {p pp pa qa : Nat} {Sp Sp' : Nat → Prop} {c' : Int} {zs' : List Int} {s' : RS} {S : Nat → Prop} {r : Value} {e : Ending} (he : e = .returned r) (h : VCore w' p pp Sp' pa qa c' zs' s') (hS : ∀ k, S k ↔ VFoot p pa qa Sp k) (g : ∀ k, Sp' k → Sp k ∨ w.heap.size ≤ k) (k : Keep (fun j => Sp j ∨ Two pa qa j) w w') : VPost r p S s' w e w' :=
  ⟨he, VFoot p pa qa Sp', ⟨pp, Sp', pa, qa, c', zs', h, fun k => Iff.rfl⟩, k.mono (fun g hg => (hS g).2 (by rcases hg with x | x | x; exact .inr (.inl x); exact .inr (.inr (.inl x)); exact .inr (.inr (.inr x)))), fun j hj => by
    rcases hj with x | x | x | x
    · exact .inl ((hS j).2 (.inl x))
    · rcases g j x with y | y
      · exact .inl ((hS j).2 (.inr (.inl y)))
      · exact .inr y
    · exact .inl ((hS j).2 (.inr (.inr (.inl x))))
    · exact .inl ((hS j).2 (.inr (.inr (.inr x))))⟩
def VNewP (n : Nat) (w : World) (e : Ending) (w' : World) : Prop :=
  ∃ p S, e = .returned (.tuple #[.pointer (some ⟨p, 0, none⟩), .int .i64 0]) ∧ VAt w' p S (RS.new n) ∧ (∀ k, S k → w.heap.size ≤ k) ∧ Below w.heap.size w w'
def VLinks (zs : List Int) (p : Nat) (S : Nat → Prop) (s : RS) (w : World) (e : Ending) (w' : World) : Prop :=
  ∃ v S', e = .returned v ∧ OwnU w.heap.size w' v zs ∧ VAt w' p S' s ∧ Keep S w w' ∧ (∀ k, S' k → S k ∨ w.heap.size ≤ k) ∧ ∀ g, v.ownBlock = some g → ¬ S' g
def verV (x : Ver) : Value := .agg #[.int .i64 x.k, .int .i64 x.v, .int .u64 x.b, .int .u64 x.e, .int .u64 x.n]
def RS.get (s : RS) (l : Int) : Value := if s.s.live l = true then .tuple #[verV (s.ver (slotOf l)), .bool true] else .tuple #[verV ⟨0, 0, 0, 0, 0⟩, .bool false]
end Go.Proofs.YtmfpjnlplimkeaaGreat
