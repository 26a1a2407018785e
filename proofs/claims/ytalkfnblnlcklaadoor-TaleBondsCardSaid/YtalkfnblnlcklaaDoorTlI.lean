/- Package tale in plain lists: events, a history, what may follow it, the Deals. No dump; no condition. -/
import Derived.Test.YtalkfnblnlcklaaDoorAxI
namespace Go.Proofs.YtalkfnblnlcklaaDoor
set_option linter.unusedVariables false
/-- An event. -/
@[ext] structure EvI where
  kind : Int
  t : Int
  n : Int
  o : OpI
  r : ReI
deriving DecidableEq
/-- What a history has told of a transaction; bonds: places of others. -/
@[ext] structure TnI where
  level : Int
  start : Int
  stop : Int
  bonds : List Nat
  state : Int
deriving DecidableEq
@[ext] structure HsI where
  tx : List TnI
  last : Int
deriving DecidableEq
def hs0 : HsI := ⟨[], 0⟩
namespace HsI
def at' (h : HsI) (k : Nat) : TnI := h.tx.getD k ⟨0, 0, 0, [], 0⟩
def put (h : HsI) (k : Nat) (t : TnI) : HsI := { h with tx := h.tx.set k t }
/-- Whether all that one waits for are committed. -/
def free (h : HsI) (k : Nat) : Bool := (h.at' k).bonds.all fun j => decide ((h.at' j).state = 3)
/-- Whether an event may follow; the history behind it. -/
def addE (h : HsI) (v : EvI) : Bool :=
  if v.kind = 1 then decide (v.t = h.tx.length + 1) && decide (h.last < v.n)
  else if v.t < 1 ∨ (h.tx.length : Int) < v.t then false
  else
    let k := (v.t - 1).toNat
    let x := h.at' k
    if v.kind = 2 then decide (x.state = 1) && decide (x.stop = 0)
    else if v.kind = 3 then decide (x.state = 1) && decide (x.stop = 0) && decide (h.last < v.n)
    else if v.kind = 4 then decide (x.state = 1) && (decide (1 ≤ v.n) && decide (v.n ≤ h.tx.length) && (let j := (v.n - 1).toNat; decide (k ≠ j) && decide ((h.at' j).state ≠ 4) && !(decide (x.stop ≠ 0) && decide (x.stop ≤ (h.at' j).stop))))
    else if v.kind = 5 then h.free k && decide (x.stop ≠ 0) && decide (x.state = 1)
    else if v.kind = 6 then decide (x.state = 1)
    else false
def addH (h : HsI) (v : EvI) : HsI :=
  if v.kind = 1 then ⟨h.tx ++ [⟨v.o.val, v.n, 0, [], 1⟩], v.n⟩
  else
    let k := (v.t - 1).toNat
    let x := h.at' k
    if v.kind = 3 then { h.put k { x with stop := v.n } with last := v.n }
    else if v.kind = 4 then h.put k { x with bonds := x.bonds ++ [(v.n - 1).toNat] }
    else if v.kind = 5 then h.put k { x with state := 3 }
    else if v.kind = 6 then h.put k { x with state := 4 }
    else h
/-- A list of events followed as far as it goes. -/
def go (h : HsI) : List EvI → Option HsI
  | [] => some h
  | v :: l => if h.addE v = true then (h.addH v).go l else none
/-- How far. -/
def far (h : HsI) : List EvI → Nat
  | [] => 0
  | v :: l => if h.addE v = true then (h.addH v).far l + 1 else 0
end HsI
/-- Where a history is not possible (below 0: nowhere). -/
def okAt (es : List EvI) : Int := if 20000 < es.length then 20000 else match hs0.go es with | some _ => -1 | none => hs0.far es
/-- The calls of a transaction. -/
def opsOf (es : List EvI) (t : Int) : List (OpI × ReI) := (es.filter fun v => decide (v.kind = 2 ∧ v.t = t)).map fun v => (v.o, v.r)
def dealsOf (h : HsI) (es : List EvI) : List DlI := (List.range h.tx.length).map fun (i : Nat) => ⟨(i : Int) + 1, (h.at' i).level, (h.at' i).state, (h.at' i).start, (h.at' i).stop, opsOf es ((i : Int) + 1)⟩
section
variable {h : HsI} {v : EvI} {l l' : List EvI}
theorem go_nil : h.go [] = some h := rfl
theorem go_cons : h.go (v :: l) = if h.addE v = true then (h.addH v).go l else none := by conv => lhs; unfold HsI.go
theorem far_cons : h.far (v :: l) = if h.addE v = true then (h.addH v).far l + 1 else 0 := by conv => lhs; unfold HsI.far
theorem go_append : h.go (l ++ l') = (h.go l).bind fun h' => h'.go l' := by
  induction l generalizing h with
  | nil => rfl
  | cons v l ih =>
    rw [List.cons_append, go_cons, go_cons]
    split
    · exact ih
    · rfl
theorem far_le : h.far l ≤ l.length := by
  induction l generalizing h with
  | nil => exact Nat.le_refl _
  | cons v l ih =>
    rw [far_cons]
    split
    · have := ih (h := h.addH v)
      rw [List.length_cons]; omega
    · exact Nat.zero_le _
/-- As far as it goes it is possible. -/
theorem go_far : ∃ h', h.go (l.take (h.far l)) = some h' := by
  induction l generalizing h with
  | nil => exact ⟨h, rfl⟩
  | cons v l ih =>
    rw [far_cons]
    split
    · next c =>
      rw [List.take_succ_cons, go_cons, if_pos c]
      exact ih
    · exact ⟨h, rfl⟩
theorem go_take {h' : HsI} (hg : h.go l = some h') (k : Nat) : ∃ h2, h.go (l.take k) = some h2 := by
  have := go_append (h := h) (l := l.take k) (l' := l.drop k)
  rw [List.take_append_drop, hg] at this
  cases c : h.go (l.take k) with
  | some h2 => exact ⟨h2, rfl⟩
  | none => rw [c] at this; cases this
theorem at_lt {k : Nat} (hk : k < h.tx.length) : h.tx[k]? = some (h.at' k) := by
  unfold HsI.at'
  rw [List.getD_eq_getElem?_getD, List.getElem?_eq_getElem hk]
  rfl
theorem put_len (k : Nat) (t : TnI) : (h.put k t).tx.length = h.tx.length := by
  show (h.tx.set k t).length = _
  rw [List.length_set]
theorem addH_len : (h.addH v).tx.length = if v.kind = 1 then h.tx.length + 1 else h.tx.length := by
  unfold HsI.addH
  split
  · simp
  · dsimp only
    split
    · exact put_len _ _
    · split
      · exact put_len _ _
      · split
        · exact put_len _ _
        · split
          · exact put_len _ _
          · rfl
/-- As many transactions as begins. -/
theorem go_len {h' : HsI} (hg : h.go l = some h') : h'.tx.length = h.tx.length + (l.filter fun v => decide (v.kind = 1)).length := by
  induction l generalizing h with
  | nil => cases hg; rfl
  | cons v l ih =>
    rw [go_cons] at hg
    split at hg
    · have := ih hg
      rw [addH_len] at this
      rw [this, List.filter_cons]
      by_cases c : v.kind = 1
      · simp only [c, if_true, decide_true, List.length_cons]; omega
      · simp only [c, if_false, decide_false]; simp
    · cases hg
/-- Every event that may be has a kind. -/
theorem add_kind (h1 : h.addE v = true) : 1 ≤ v.kind ∧ v.kind ≤ 6 := by
  unfold HsI.addE at h1
  by_cases c1 : v.kind = 1
  · omega
  · rw [if_neg c1] at h1
    split at h1
    · cases h1
    · dsimp only at h1
      by_cases c2 : v.kind = 2
      · omega
      · rw [if_neg c2] at h1
        by_cases c3 : v.kind = 3
        · omega
        · rw [if_neg c3] at h1
          by_cases c4 : v.kind = 4
          · omega
          · rw [if_neg c4] at h1
            by_cases c5 : v.kind = 5
            · omega
            · rw [if_neg c5] at h1
              by_cases c6 : v.kind = 6
              · omega
              · rw [if_neg c6] at h1; cases h1
theorem go_kind {h' : HsI} (hg : h.go l = some h') : ∀ v ∈ l, 1 ≤ v.kind ∧ v.kind ≤ 6 := by
  induction l generalizing h with
  | nil => intro v hv; cases hv
  | cons a l ih =>
    rw [go_cons] at hg
    split at hg
    · next c =>
      intro v hv
      rcases List.mem_cons.1 hv with rfl | q
      · exact add_kind c
      · exact ih hg v q
    · cases hg
/-- The first event of a possible history begins the first transaction; without it nothing is possible. -/
theorem first_begin {h' : HsI} (hg : hs0.go (v :: l) = some h') : v.kind = 1 ∧ v.t = 1 ∧ 0 < v.n := by
  rw [go_cons] at hg
  split at hg
  · next c =>
    unfold HsI.addE at c
    by_cases c1 : v.kind = 1
    · rw [if_pos c1, Bool.and_eq_true] at c
      have a := of_decide_eq_true c.1
      have b := of_decide_eq_true c.2
      have a : v.t = (0 : Nat) + 1 := a
      have b : (0 : Int) < v.n := b
      exact ⟨c1, by omega, b⟩
    · rw [if_neg c1] at c
      split at c
      · cases c
      · next q =>
        have q : ¬ (v.t < 1 ∨ ((0 : Nat) : Int) < v.t) := q
        omega
  · cases hg
theorem without_first {a : EvI} {h' : HsI} (hg : hs0.go (v :: a :: l) = some h') : hs0.addE a = false := by
  obtain ⟨k1, t1, n1⟩ := first_begin hg
  rw [go_cons] at hg
  split at hg
  · rw [go_cons] at hg
    split at hg
    · next c =>
      have hl : (hs0.addH v).tx.length = 1 := by
        rw [addH_len, if_pos k1]
        rfl
      cases q : hs0.addE a with
      | false => rfl
      | true =>
        exfalso
        unfold HsI.addE at c q
        by_cases c1 : a.kind = 1
        · rw [if_pos c1, Bool.and_eq_true] at c q
          have e1 := of_decide_eq_true c.1
          have e2 := of_decide_eq_true q.1
          rw [hl] at e1
          have e2 : a.t = ((0 : Nat) : Int) + 1 := e2
          omega
        · rw [if_neg c1] at q
          split at q
          · cases q
          · next z =>
            have z : ¬ (a.t < 1 ∨ ((0 : Nat) : Int) < a.t) := z
            omega
    · cases hg
  · cases hg
end
end Go.Proofs.YtalkfnblnlcklaaDoor
