/- The document's own reckoning with Deals (layers 20, 21) in plain lists: Pairs with calls laid over, what is there at a time, what holds. No dump; no condition. -/
import Derived.Test.YtalkfnblnlcklaaDoorMoI
namespace Go.Proofs.YtalkfnblnlcklaaDoor
set_option linter.unusedVariables false
/-- A call with its answer; a transaction as it is told. -/
structure DlI where
  id : Int
  level : Int
  state : Int
  start : Int
  stop : Int
  ops : List (OpI × ReI)
/-- How many Pairs stand ahead of a key. -/
def cutK (l : List (Int × Int)) (key : Int) : Nat := (l.takeWhile fun p => decide (p.1 < key)).length
def isK (l : List (Int × Int)) (key : Int) : Bool := match l[cutK l key]? with | some p => decide (p.1 = key) | none => false
def setP (l : List (Int × Int)) (key val : Int) (gone : Bool) : List (Int × Int) := l.take (cutK l key) ++ (if gone = true then [] else [(key, val)]) ++ l.drop (if isK l key = true then cutK l key + 1 else cutK l key)
def laidP (l : List (Int × Int)) (c : OpI × ReI) : List (Int × Int) :=
  if c.2.e ≠ 0 then l else if c.1.kind = 2 ∨ c.1.kind = 3 then setP l c.1.key c.1.val false else if c.1.kind = 4 then setP l c.1.key 0 true else l
def findP (l : List (Int × Int)) (key : Int) : Option Int := (l.find? fun p => decide (p.1 = key)).map Prod.snd
def inR (lo hi : Int) (p : Int × Int) : Bool := decide (lo ≤ p.1) && decide (p.1 ≤ hi)
/-- Whether a call answered as a view says. -/
def rightP (c : OpI × ReI) (view : List (Int × Int)) : Bool :=
  let f := findP view c.1.key
  let e := c.2.e
  if c.1.kind = 1 then (decide (e ≠ 0) && decide (e ≠ 11)) || (decide (e = 0) && f.isSome && decide (c.2.val = f.getD 0)) || (decide (e = 11) && !f.isSome)
  else if c.1.kind = 2 then (decide (e ≠ 0) && decide (e ≠ 12)) || (decide (e = 12) == f.isSome)
  else if c.1.kind = 3 ∨ c.1.kind = 4 then (decide (e ≠ 0) && decide (e ≠ 11)) || (decide (e = 11) != f.isSome)
  else if c.1.kind = 5 then decide (e ≠ 0) || decide (c.2.pairs = view.filter (inR c.1.key c.1.hi))
  else true
section
variable {l : List (Int × Int)} {key : Int} {k : Nat}
theorem cut_le (l : List (Int × Int)) (key : Int) : cutK l key ≤ l.length := by
  unfold cutK
  exact (List.takeWhile_sublist _).length_le
theorem cut_lt (h : k < cutK l key) : ∃ p, l[k]? = some p ∧ p.1 < key := by
  unfold cutK at h
  have e : (l.takeWhile fun p => decide (p.1 < key))[k]? = some (l.takeWhile fun p => decide (p.1 < key))[k] := List.getElem?_eq_getElem h
  have pre := List.takeWhile_prefix (p := fun p : Int × Int => decide (p.1 < key)) (l := l)
  obtain ⟨t, ht⟩ := pre
  have e2 := List.getElem?_append_left (l₂ := t) h
  rw [ht, e] at e2
  exact ⟨_, e2, of_decide_eq_true (List.all_eq_true.1 (List.all_takeWhile (l := l) (p := fun p => decide (p.1 < key))) _ (List.getElem_mem h))⟩
theorem cut_at (h : cutK l key < l.length) : ∃ p, l[cutK l key]? = some p ∧ ¬ p.1 < key := by
  unfold cutK at h ⊢
  induction l with
  | nil => cases h
  | cons a l ih =>
    rw [List.takeWhile_cons] at h ⊢
    by_cases c : a.1 < key
    · simp only [decide_eq_true c, if_true, List.length_cons, List.getElem?_cons_succ] at h ⊢
      exact ih (by omega)
    · simp only [decide_eq_false c, Bool.false_eq_true, if_false, List.length_nil, List.getElem?_cons_zero]
      exact ⟨a, rfl, c⟩
theorem setP_len (l : List (Int × Int)) (key val : Int) (gone : Bool) : (setP l key val gone).length ≤ l.length + 1 := by
  unfold setP
  have := cut_le l key
  rw [List.length_append, List.length_append, List.length_take, List.length_drop]
  cases gone
  · simp; split <;> omega
  · simp; split <;> omega
theorem laidP_len (l : List (Int × Int)) (c : OpI × ReI) : (laidP l c).length ≤ l.length + 1 := by
  unfold laidP
  split
  · omega
  · split
    · exact setP_len _ _ _ _
    · split
      · exact setP_len _ _ _ _
      · omega
theorem find_hit {p : Int × Int} (h : l[k]? = some p) (hp : p.1 = key) (hb : ∀ (i : Nat) (q : Int × Int), i < k → l[i]? = some q → q.1 ≠ key) : findP l key = some p.2 := by
  unfold findP
  have : l.find? (fun p => decide (p.1 = key)) = some p := by
    obtain ⟨hk, e⟩ := List.getElem?_eq_some_iff.1 h
    rw [List.find?_eq_some_iff_getElem]
    refine ⟨decide_eq_true hp, k, hk, e, fun j hj => ?_⟩
    have := hb j _ hj (List.getElem?_eq_getElem (by omega))
    simp [this]
  rw [this]
  rfl
theorem find_miss (hb : ∀ (i : Nat) (q : Int × Int), l[i]? = some q → q.1 ≠ key) : findP l key = none := by
  unfold findP
  have : l.find? (fun p => decide (p.1 = key)) = none := List.find?_eq_none.2 fun p hp => by
    obtain ⟨i, hi⟩ := List.mem_iff_getElem?.1 hp
    have := hb i p hi
    simp [this]
  rw [this]
  rfl
end
/-- Whether the transaction at place i comes next, k being the best so far. -/
def candP (ds : List DlI) (t but : Int) (tk : List Bool) (k : Option Nat) (i : Nat) : Bool :=
  match ds[i]? with
  | none => false
  | some d => decide (d.state = 3) && decide ((i : Int) ≠ but) && !(tk.getD i false) && decide (d.stop ≤ t) && (match k with
    | none => true
    | some j => match ds[j]? with | some e => decide (d.stop < e.stop) | none => false)
def pickP (ds : List DlI) (t but : Int) (tk : List Bool) : Nat → Option Nat
  | 0 => none
  | i + 1 => if candP ds t but tk (pickP ds t but tk i) i = true then some i else pickP ds t but tk i
def opsP (ds : List DlI) (k : Nat) : List (OpI × ReI) := match ds[k]? with | some d => d.ops | none => []
def stL (ds : List DlI) (t but : Int) : Nat → List Bool → List (Int × Int) → List (Int × Int)
  | 0, _, out => out
  | f + 1, tk, out => match pickP ds t but tk ds.length with
    | none => out
    | some k => stL ds t but f (tk.set k true) ((opsP ds k).foldl laidP out)
def stateP (ds : List DlI) (t but : Int) : List (Int × Int) := stL ds t but (ds.length + 1) (List.replicate ds.length false) []
section
variable {ds : List DlI} {t but : Int} {tk : List Bool} {i k f : Nat} {out : List (Int × Int)}
def betP (ds : List DlI) (s : Int) : Option Nat → Bool
  | none => true
  | some j => match ds[j]? with | some e => decide (s < e.stop) | none => false
theorem cand_at {x : DlI} {K : Option Nat} (h : ds[i]? = some x) : candP ds t but tk K i = (decide (x.state = 3) && decide ((i : Int) ≠ but) && !(tk.getD i false) && decide (x.stop ≤ t) && betP ds x.stop K) := by
  unfold candP
  rw [h]
  rfl
theorem bet_some {s : Int} {e : DlI} (h : ds[k]? = some e) : betP ds s (some k) = decide (s < e.stop) := by
  show (match ds[k]? with | some e => decide (s < e.stop) | none => false) = _
  rw [h]
theorem cand_lt (h : candP ds t but tk (pickP ds t but tk i) i = true) : i < ds.length := by
  unfold candP at h
  cases c : ds[i]? with
  | none => rw [c] at h; cases h
  | some d => exact (List.getElem?_eq_some_iff.1 c).1
theorem pick_some (h : pickP ds t but tk i = some k) : k < i ∧ k < ds.length ∧ tk.getD k false = false := by
  induction i with
  | zero => cases h
  | succ i ih =>
    unfold pickP at h
    split at h
    · next c =>
      cases h
      refine ⟨by omega, cand_lt c, ?_⟩
      unfold candP at c
      cases q : ds[k]? with
      | none => rw [q] at c; cases c
      | some d =>
        rw [q] at c
        simp only [Bool.and_eq_true, Bool.not_eq_true'] at c
        exact c.1.1.2
    · obtain ⟨a, b, c⟩ := ih h
      exact ⟨by omega, b, c⟩
theorem stL_none (h : pickP ds t but tk ds.length = none) (hf : 0 < f) : stL ds t but f tk out = out := by
  cases f with
  | zero => omega
  | succ f => unfold stL; rw [h]
theorem stL_some (h : pickP ds t but tk ds.length = some k) : stL ds t but (f + 1) tk out = stL ds t but f (tk.set k true) ((opsP ds k).foldl laidP out) := by
  conv => lhs; unfold stL
  rw [h]
theorem count_mark (hk : tk[k]? = some false) : (tk.set k true).count false + 1 = tk.count false := by
  induction tk generalizing k with
  | nil => cases hk
  | cons a l ih =>
    cases k with
    | zero =>
      simp at hk
      subst hk
      simp
    | succ k =>
      have := ih (k := k) (by simpa using hk)
      rw [List.set_cons_succ, List.count_cons, List.count_cons]
      omega
end
def holdsGo (view : List (Int × Int)) : List (OpI × ReI) → Bool
  | [] => true
  | c :: cs => rightP c view && holdsGo (laidP view c) cs
def holdsP (ds : List DlI) (k : Nat) (t : Int) : Bool := holdsGo (stateP ds t k) (opsP ds k)
def doneP (ds : List DlI) (id : Int) : Option Nat := match ds.findIdx? (fun d => decide (d.id = id)) with
  | none => none
  | some i => match ds[i]? with | some d => if d.state = 3 then some i else none | none => none
def beforeI (t : Int) : Int := if t = 0 then 0 else t - 1
def serialP (ds : List DlI) (id : Int) : Bool := match doneP ds id with
  | none => false
  | some k => match ds[k]? with | some d => holdsP ds k (beforeI d.stop) | none => false
def snapP (ds : List DlI) (id : Int) : Bool := match doneP ds id with
  | none => false
  | some k => match ds[k]? with | some d => holdsP ds k d.start | none => false
/-- The least number of one that is not serial (0: none). -/
def replB (ds : List DlI) (bad : Int) : List DlI → Int
  | [] => bad
  | d :: l => replB ds (if d.state = 3 ∧ (bad = 0 ∨ d.id < bad) ∧ serialP ds d.id = false then d.id else bad) l
end Go.Proofs.YtalkfnblnlcklaaDoor
