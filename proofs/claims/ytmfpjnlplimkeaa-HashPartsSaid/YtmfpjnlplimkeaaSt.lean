/- What a Pool is, in plain lists: slots with tags, which are taken, which were given back; and what a link is. No dump. -/
import Derived.Test.YtmfpjnlplimkeaaBits
namespace Go.Proofs.Ytmfpjnlplimkeaa

/-- A Pool: the greatest tag; each slot's tag; whether it is taken; those that were given back and are free, the last one last; how many were ever taken anew; how many are worn. -/
structure St where
  most : Int
  tags : List Int
  taken : List Bool
  given : List Int
  fresh : Int
  worn : Int
def St.n (s : St) : Nat := s.tags.length
def St.tag (s : St) (i : Nat) : Int := s.tags.getD i 0
def St.tk (s : St) (i : Nat) : Bool := s.taken.getD i false
/-- Slot i's link. -/
def St.link (s : St) (i : Nat) : Int := linkI i (s.tag i)
/-- How many are taken. -/
def cnt : List Bool → Int
  | [] => 0
  | true :: l => cnt l + 1
  | false :: l => cnt l
structure Ok (s : St) : Prop where
  n0 : 1 ≤ s.tags.length
  n1 : s.tags.length ≤ 4096
  tl : s.taken.length = s.tags.length
  m0 : 0 ≤ s.most
  m1 : s.most ≤ 65535
  tg : ∀ i, 0 ≤ s.tag i ∧ s.tag i ≤ s.most
  gv : ∀ g ∈ s.given, 0 ≤ g ∧ g < s.fresh ∧ s.tk g.toNat = false
  nd : s.given.Nodup
  f0 : 0 ≤ s.fresh
  f1 : s.fresh ≤ s.tags.length
  ft : ∀ i : Nat, s.fresh ≤ i → s.tk i = false
  w0 : 0 ≤ s.worn
  ct : s.given.length + cnt s.taken + s.worn = s.fresh
theorem cnt_nonneg (l : List Bool) : 0 ≤ cnt l := by
  induction l with
  | nil => simp [cnt]
  | cons b l ih => cases b <;> simp [cnt] <;> omega
theorem cnt_le (l : List Bool) : cnt l ≤ l.length := by
  induction l with
  | nil => simp [cnt]
  | cons b l ih => cases b <;> simp [cnt] <;> omega
theorem cnt_rep (n : Nat) : cnt (List.replicate n false) = 0 := by
  induction n with
  | zero => rfl
  | succ n ih => simp [List.replicate_succ, cnt, ih]
theorem cnt_set (l : List Bool) (i : Nat) (h : i < l.length) (b : Bool) : cnt (l.set i b) = cnt l - (if l.getD i false then 1 else 0) + (if b then 1 else 0) := by
  induction l generalizing i with
  | nil => simp at h
  | cons x l ih =>
    cases i with
    | zero => cases x <;> cases b <;> simp [cnt] <;> omega
    | succ i =>
      have := ih i (by simpa using h)
      simp only [List.set_cons_succ, List.getD_cons_succ]
      cases x <;> simp only [cnt, this] <;> omega
/-- A new Pool. -/
def St.new (n : Nat) (most : Int) : St := ⟨most, List.replicate n 0, List.replicate n false, [], 0, 0⟩
theorem getD_rep {α : Type} (n i : Nat) (x : α) : (List.replicate n x).getD i x = x := by
  rw [List.getD_eq_getElem?_getD, List.getElem?_replicate]
  split <;> simp
theorem ok_new (n : Nat) (most : Int) (h0 : 1 ≤ n) (h1 : n ≤ 4096) (m0 : 0 ≤ most) (m1 : most ≤ 65535) : Ok (St.new n most) :=
  ⟨by simpa [St.new] using h0, by simpa [St.new] using h1, by simp [St.new], m0, m1, fun i => by simp only [St.tag, St.new, getD_rep]; exact ⟨Int.le_refl _, m0⟩, by simp [St.new], by simp [St.new], by simp [St.new], by simp [St.new], fun i _ => by simp only [St.tk, St.new, getD_rep], by simp [St.new], by simp [St.new, cnt_rep]⟩
/-- Slot i is taken. -/
def St.take (s : St) (i : Nat) : St := { s with taken := s.taken.set i true }
/-- The last one that was given back is taken. -/
def St.takeGiven (s : St) (gs : List Int) (i : Nat) : St := { s with taken := s.taken.set i true, given := gs }
def St.takeFresh (s : St) : St := { s with taken := s.taken.set s.fresh.toNat true, fresh := s.fresh + 1 }
def St.wear (s : St) (i : Nat) : St := { s with taken := s.taken.set i false, worn := s.worn + 1 }
def St.give (s : St) (i : Nat) : St := { s with taken := s.taken.set i false, tags := s.tags.set i (s.tag i + 1), given := s.given ++ [(i : Int)] }
/-- Whether a word is the link of a slot that is taken. -/
def St.live (s : St) (l : Int) : Bool := decide (1 ≤ l % 131072) && decide (l % 131072 ≤ s.tags.length) && s.tk (l % 131072 - 1).toNat && decide (l = s.link (l % 131072 - 1).toNat)
theorem live_iff (s : St) (l : Int) : s.live l = true ↔ ∃ i : Nat, i < s.tags.length ∧ s.tk i = true ∧ l = s.link i ∧ l % 131072 = i + 1 := by
  unfold St.live
  simp only [Bool.and_eq_true, decide_eq_true_eq]
  constructor
  · rintro ⟨⟨⟨h1, h2⟩, h3⟩, h4⟩
    exact ⟨(l % 131072 - 1).toNat, by omega, h3, h4, by omega⟩
  · rintro ⟨i, h1, h2, h3, h4⟩
    have e : (l % 131072 - 1).toNat = i := by omega
    rw [e]
    exact ⟨⟨⟨by omega, by omega⟩, h2⟩, h3⟩
theorem link_mod (s : St) (i : Nat) (hi : i < 4096) : s.link i % 131072 = i + 1 := by unfold St.link linkI; omega
theorem link_b {s : St} (h : Ok s) (i : Nat) (hi : i < s.tags.length) : 1 ≤ s.link i ∧ s.link i ≤ 8589934592 := by
  have := h.tg i
  have := h.m1
  have := h.n1
  unfold St.link linkI
  omega
theorem live_link {s : St} (h : Ok s) (i : Nat) (hi : i < s.tags.length) (ht : s.tk i = true) : s.live (s.link i) = true :=
  (live_iff _ _).2 ⟨i, hi, ht, rfl, link_mod _ _ (by have := h.n1; omega)⟩
/-- The ways in which a word is no link of a taken slot. -/
theorem not_live {s : St} {l : Int} (h : s.live l = false) : l % 131072 = 0 ∨ (s.tags.length : Int) < l % 131072 ∨ ∃ i : Nat, l % 131072 = i + 1 ∧ i < s.tags.length ∧ (s.tk i = false ∨ (s.tk i = true ∧ l ≠ s.link i)) := by
  by_cases h1 : l % 131072 = 0
  · exact .inl h1
  by_cases h2 : (s.tags.length : Int) < l % 131072
  · exact .inr (.inl h2)
  refine .inr (.inr ⟨(l % 131072 - 1).toNat, by omega, by omega, ?_⟩)
  cases ht : s.tk (l % 131072 - 1).toNat with
  | false => exact .inl rfl
  | true =>
    refine .inr ⟨rfl, fun e => ?_⟩
    have : s.live l = true := (live_iff _ _).2 ⟨_, by omega, ht, e, by omega⟩
    rw [this] at h
    cases h
/-- The links of those of the first k slots that are taken. -/
def allTo (s : St) : Nat → List Int
  | 0 => []
  | k + 1 => if s.tk k = true then allTo s k ++ [s.link k] else allTo s k
theorem allTo_len (s : St) (k : Nat) : (allTo s k).length ≤ k := by
  induction k with
  | zero => simp [allTo]
  | succ k ih =>
    unfold allTo
    split
    · simp; omega
    · omega
end Go.Proofs.Ytmfpjnlplimkeaa
