/- What a set of writes holds in plain lists; lists of pairs by their keys; what it is to lay writes over pairs. No dump; no condition. -/
import Derived.Test.YthojmdjcfkadoaaRows
namespace Go.Proofs.Ythojmdjcfkadoaa
set_option linter.unusedVariables false

structure PrI where
  k : Int
  v : Int
structure WrI where
  k : Int
  v : Int
  g : Bool
def look : List PrI → Int → Option Int
  | [], _ => none
  | p :: l, key => if p.k = key then some p.v else look l key
def wlook : List WrI → Int → Option WrI
  | [], _ => none
  | x :: l, key => if x.k = key then some x else wlook l key
def setW : List WrI → WrI → List WrI
  | [], x => [x]
  | y :: l, x => if y.k = x.k then x :: l else y :: setW l x
def putI (s : List WrI) (key val : Int) : Int × List WrI := if key < 0 ∨ 63 < key ∨ val < 0 ∨ 65535 < val then (1, s) else (0, setW s ⟨key, val, false⟩)
def dropI (s : List WrI) (key : Int) : Int × List WrI := if key < 0 ∨ 63 < key then (1, s) else (0, setW s ⟨key, 0, true⟩)
def getI (s : List WrI) (key : Int) : Int × Bool × Bool := match wlook s key with
  | none => (0, false, false)
  | some x => if x.g then (0, false, true) else (x.v, true, true)
/-- By their keys they rise. -/
def Rising : List PrI → Prop
  | [] => True
  | p :: l => (∀ q ∈ l, p.k < q.k) ∧ Rising l
/-- What is told of a key when writes are laid over. -/
def over (s : List WrI) (lo hi key : Int) (old : Option Int) : Option Int :=
  if lo ≤ key ∧ key ≤ hi then (match wlook s key with | none => old | some x => if x.g then none else some x.v) else old
structure IsOver (s : List WrI) (l : List PrI) (lo hi : Int) (r : List PrI) : Prop where
  rise : Rising r
  tell : ∀ key, look r key = over s lo hi key (look l key)
  len : r.length ≤ l.length + 64
theorem look_none {l : List PrI} {key : Int} (h : ∀ q ∈ l, key < q.k) : look l key = none := by
  induction l with
  | nil => rfl
  | cons p l ih =>
    have := h p (List.mem_cons_self ..)
    unfold look
    rw [if_neg (by omega)]
    exact ih fun q hq => h q (List.mem_cons_of_mem _ hq)
theorem rising_eq : ∀ {l m : List PrI}, Rising l → Rising m → (∀ key, look l key = look m key) → l = m
  | [], [], _, _, _ => rfl
  | [], q :: m, _, _, h => by have := h q.k; simp [look] at this
  | p :: l, [], _, _, h => by have := h p.k; simp [look] at this
  | p :: l, q :: m, hl, hm, h => by
    have e : p.k = q.k := by
      rcases (by omega : p.k < q.k ∨ q.k < p.k ∨ p.k = q.k) with c | c | c
      · have := h p.k
        unfold look at this
        rw [if_pos rfl, if_neg (by omega), look_none (fun x hx => by have := hm.1 x hx; omega)] at this
        cases this
      · have := h q.k
        unfold look at this
        rw [if_pos rfl, if_neg (by omega), look_none (fun x hx => by have := hl.1 x hx; omega)] at this
        cases this
      · exact c
    have ev : p.v = q.v := by
      have := h p.k
      unfold look at this
      rw [if_pos rfl, if_pos e.symm] at this
      exact Option.some.inj this
    have et : l = m := rising_eq hl.2 hm.2 fun key => by
      by_cases hk : p.k = key
      · rw [← hk, look_none hl.1, look_none (fun x hx => by have := hm.1 x hx; omega)]
      · have := h key
        unfold look at this
        rwa [if_neg hk, if_neg (by omega)] at this
    obtain ⟨pk, pv⟩ := p
    obtain ⟨qk, qv⟩ := q
    simp only at e ev
    rw [e, ev, et]
theorem IsOver.eq {s s' : List WrI} {l l' : List PrI} {lo hi lo' hi' : Int} {r r' : List PrI} (h : IsOver s l lo hi r) (h' : IsOver s' l' lo' hi' r') (e : ∀ key, over s lo hi key (look l key) = over s' lo' hi' key (look l' key)) : r = r' :=
  rising_eq h.rise h'.rise fun key => by rw [h.tell, h'.tell, e]
/-- Nothing is laid over. -/
theorem IsOver.same {s : List WrI} {l r : List PrI} {lo hi : Int} (h : IsOver s l lo hi r) (hl : Rising l) (e : ∀ key, over s lo hi key (look l key) = look l key) : r = l :=
  rising_eq h.rise hl fun key => by rw [h.tell, e]
theorem over_over (s : List WrI) (lo hi key : Int) (o : Option Int) : over s lo hi key (over s lo hi key o) = over s lo hi key o := by
  unfold over
  split
  · cases wlook s key with
    | none => rfl
    | some x => rfl
  · rfl
theorem over_nil (lo hi key : Int) (o : Option Int) : over [] lo hi key o = o := by
  unfold over wlook
  split <;> rfl
theorem over_empty (s : List WrI) {lo hi : Int} (h : hi < lo) (key : Int) (o : Option Int) : over s lo hi key o = o := by
  unfold over
  rw [if_neg (by omega)]
/-- A range in two parts. -/
theorem over_parts (s : List WrI) {lo hi lo1 hi1 lo2 hi2 : Int} (h : ∀ key, (lo ≤ key ∧ key ≤ hi) ↔ (lo1 ≤ key ∧ key ≤ hi1) ∨ (lo2 ≤ key ∧ key ≤ hi2)) (key : Int) (o : Option Int) : over s lo2 hi2 key (over s lo1 hi1 key o) = over s lo hi key o := by
  unfold over
  have := h key
  by_cases h1 : lo1 ≤ key ∧ key ≤ hi1
  · rw [if_pos h1, if_pos (this.2 (.inl h1))]
    split
    · cases wlook s key with
      | none => rfl
      | some x => rfl
    · rfl
  · rw [if_neg h1]
    by_cases h2 : lo2 ≤ key ∧ key ≤ hi2
    · rw [if_pos h2, if_pos (this.2 (.inr h2))]
    · rw [if_neg h2, if_neg (fun z => by rcases this.1 z with y | y; exact h1 y; exact h2 y)]
/-- The keys of a word's bits, up to k, each with m times it. -/
def prs (m : Int) (K : Nat) : Nat → List PrI
  | 0 => []
  | k + 1 => if K.testBit k then prs m K k ++ [⟨k, m * k⟩] else prs m K k
theorem prs_lt (m : Int) (K : Nat) : ∀ k, ∀ q ∈ prs m K k, q.k < k
  | 0, q, h => by simp [prs] at h
  | k + 1, q, h => by
    unfold prs at h
    split at h
    · rcases List.mem_append.1 h with z | z
      · have := prs_lt m K k q z; omega
      · simp at z; subst z; show (k : Int) < _; omega
    · have := prs_lt m K k q h; omega
theorem rising_snoc : ∀ {l : List PrI} {p : PrI}, Rising l → (∀ q ∈ l, q.k < p.k) → Rising (l ++ [p])
  | [], p, _, _ => ⟨fun q hq => by simp at hq, trivial⟩
  | a :: l, p, h, hp => ⟨fun q hq => by
      rcases List.mem_append.1 hq with z | z
      · exact h.1 q z
      · simp at z; subst z; exact hp a (List.mem_cons_self ..), rising_snoc h.2 fun q hq => hp q (List.mem_cons_of_mem _ hq)⟩
theorem prs_rise (m : Int) (K : Nat) : ∀ k, Rising (prs m K k)
  | 0 => trivial
  | k + 1 => by
    unfold prs
    split
    · exact rising_snoc (prs_rise m K k) (prs_lt m K k)
    · exact prs_rise m K k
theorem prs_len (m : Int) (K : Nat) : ∀ k, (prs m K k).length ≤ k
  | 0 => Nat.le_refl _
  | k + 1 => by
    have := prs_len m K k
    unfold prs
    split
    · simp; omega
    · omega
/-- A key that is written first is put behind the others. -/
theorem setW_new : ∀ {s : List WrI} {x : WrI}, (∀ y ∈ s, y.k ≠ x.k) → setW s x = s ++ [x]
  | [], _, _ => rfl
  | y :: s, x, h => by
    unfold setW
    rw [if_neg (h y (List.mem_cons_self ..)), setW_new fun z hz => h z (List.mem_cons_of_mem _ hz)]
    rfl
theorem wlook_none : ∀ {s : List WrI} {key : Int}, (∀ y ∈ s, y.k ≠ key) → wlook s key = none
  | [], _, _ => rfl
  | y :: s, key, h => by
    unfold wlook
    rw [if_neg (h y (List.mem_cons_self ..))]
    exact wlook_none fun z hz => h z (List.mem_cons_of_mem _ hz)
theorem wlook_app : ∀ {s r : List WrI} {key : Int}, wlook (s ++ r) key = (wlook s key).or (wlook r key)
  | [], _, _ => by simp [wlook]
  | y :: s, r, key => by
    show (if y.k = key then some y else wlook (s ++ r) key) = (if y.k = key then some y else wlook s key).or (wlook r key)
    split
    · rfl
    · exact wlook_app
/-- Of keys that are all unlike, the other way round. -/
theorem wlook_rev : ∀ {s : List WrI} (key : Int), s.Pairwise (fun a b => a.k ≠ b.k) → wlook s.reverse key = wlook s key
  | [], _, _ => rfl
  | y :: s, key, h => by
    rw [List.pairwise_cons] at h
    rw [List.reverse_cons, wlook_app, wlook_rev key h.2]
    show _ = if _ then _ else _
    by_cases e : y.k = key
    · rw [if_pos e, wlook_none (fun z hz => by rw [← e]; exact (h.1 z hz).symm)]
      show (if _ then _ else _) = _
      rw [if_pos e]
    · rw [if_neg e]
      have : wlook [y] key = none := by show (if _ then _ else _) = _; rw [if_neg e]; rfl
      rw [this, Option.or_none]
theorem over_rev {s : List WrI} (h : s.Pairwise (fun a b => a.k ≠ b.k)) (lo hi key : Int) (o : Option Int) : over s.reverse lo hi key o = over s lo hi key o := by
  unfold over
  rw [wlook_rev key h]
end Go.Proofs.Ythojmdjcfkadoaa
