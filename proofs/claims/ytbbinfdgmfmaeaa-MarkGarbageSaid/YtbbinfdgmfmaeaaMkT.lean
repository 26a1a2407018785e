/- Tallies in plain lists: what they count, as a list that does not fall; what a time more and a time less make of it. No dump; no condition. -/
import Derived.Test.YtbbinfdgmfmaeaaMkI
namespace Go.Proofs.Ytbbinfdgmfmaeaa
set_option linter.unusedVariables false

/-- A tally: its block, its time, how often it counts. -/
structure Ta where
  b : Nat
  t : Int
  n : Int
/-- The times that tallies count. -/
def spread : List Ta → List Int
  | [] => []
  | x :: l => List.replicate x.n.toNat x.t ++ spread l
/-- Their times rise. -/
def RisT : List Ta → Prop
  | [] => True
  | x :: l => (∀ y ∈ l, x.t < y.t) ∧ RisT l
theorem spread_app : ∀ (l k : List Ta), spread (l ++ k) = spread l ++ spread k
  | [], k => rfl
  | x :: l, k => by show _ ++ spread (l ++ k) = _; rw [spread_app l k, ← List.append_assoc]; rfl
theorem spread_mem {z : Int} : ∀ {l : List Ta}, z ∈ spread l → ∃ x ∈ l, x.t = z ∧ 0 < x.n
  | x :: l, h => by
    rcases List.mem_append.1 h with h | h
    · rw [List.mem_replicate] at h
      exact ⟨x, by simp, h.2.symm, by omega⟩
    · obtain ⟨y, hy, e⟩ := spread_mem h
      exact ⟨y, by simp [hy], e⟩
theorem flat_rep (t : Int) : ∀ n, Flat (List.replicate n t)
  | 0 => trivial
  | n + 1 => ⟨fun y hy => by rw [(List.mem_replicate.1 hy).2]; exact Int.le_refl _, flat_rep t n⟩
theorem flat_app : ∀ {l k : List Int}, Flat l → Flat k → (∀ a ∈ l, ∀ b ∈ k, a ≤ b) → Flat (l ++ k)
  | [], _, _, hk, _ => hk
  | x :: l, k, hl, hk, h => ⟨fun y hy => by
      rcases List.mem_append.1 hy with hy | hy
      · exact hl.1 y hy
      · exact h x (by simp) y hy, flat_app hl.2 hk (fun a ha b hb => h a (by simp [ha]) b hb)⟩
theorem spread_flat : ∀ {l : List Ta}, RisT l → Flat (spread l)
  | [], _ => trivial
  | x :: l, h => flat_app (flat_rep _ _) (spread_flat h.2) fun a ha b hb => by
      rw [(List.mem_replicate.1 ha).2]
      obtain ⟨y, hy, e, _⟩ := spread_mem hb
      have := h.1 y hy
      omega
theorem flat_eq : ∀ {a b : List Int}, Flat a → Flat b → a.Perm b → a = b
  | [], b, _, _, p => by simpa using p.length_eq.symm
  | x :: a, [], _, _, p => by simp at p
  | x :: a, y :: b, ha, hb, p => by
    have e : x = y := by
      have h1 : x ∈ y :: b := p.mem_iff.1 (by simp)
      have h2 : y ∈ x :: a := p.mem_iff.2 (by simp)
      rcases List.mem_cons.1 h1 with h1 | h1
      · exact h1
      · rcases List.mem_cons.1 h2 with h2 | h2
        · exact h2.symm
        · have := hb.1 x h1; have := ha.1 y h2; omega
    subst e
    rw [flat_eq ha.2 hb.2 (List.perm_cons x |>.1 p)]
theorem ris_app : ∀ {l k : List Ta}, RisT (l ++ k) ↔ RisT l ∧ RisT k ∧ ∀ x ∈ l, ∀ y ∈ k, x.t < y.t
  | [], k => by simp [RisT]
  | x :: l, k => by
    show ((∀ y ∈ l ++ k, x.t < y.t) ∧ RisT (l ++ k)) ↔ ((∀ y ∈ l, x.t < y.t) ∧ RisT l) ∧ _
    rw [ris_app]
    constructor
    · rintro ⟨h1, h2, h3, h4⟩
      exact ⟨⟨fun y hy => h1 y (by simp [hy]), h2⟩, h3, fun a ha b hb => by
        rcases List.mem_cons.1 ha with rfl | ha
        · exact h1 b (by simp [hb])
        · exact h4 a ha b hb⟩
    · rintro ⟨⟨h1, h2⟩, h3, h4⟩
      exact ⟨fun y hy => by
        rcases List.mem_append.1 hy with hy | hy
        · exact h1 y hy
        · exact h4 x (by simp) y hy, h2, h3, fun a ha b hb => h4 a (by simp [ha]) b hb⟩
/-- One counted otherwise: the times rise as they did. -/
theorem ris_same {L R : List Ta} {x y : Ta} (h : RisT (L ++ x :: R)) (e : y.t = x.t) : RisT (L ++ y :: R) := by
  rw [ris_app] at h ⊢
  obtain ⟨h1, h2, h3⟩ := h
  exact ⟨h1, ⟨fun z hz => by rw [e]; exact h2.1 z hz, h2.2⟩, fun a ha b hb => by
    rcases List.mem_cons.1 hb with rfl | hb
    · rw [e]; exact h3 a ha x (by simp)
    · exact h3 a ha b (by simp [hb])⟩
theorem ris_drop {L R : List Ta} {x : Ta} (h : RisT (L ++ x :: R)) : RisT (L ++ R) := by
  rw [ris_app] at h ⊢
  exact ⟨h.1, h.2.1.2, fun a ha b hb => h.2.2 a ha b (by simp [hb])⟩
theorem ris_put {L R : List Ta} {x : Ta} (h : RisT (L ++ R)) (hl : ∀ y ∈ L, y.t < x.t) (hr : ∀ y ∈ R, x.t < y.t) : RisT (L ++ x :: R) := by
  rw [ris_app] at h ⊢
  exact ⟨h.1, ⟨hr, h.2.1⟩, fun a ha b hb => by
    rcases List.mem_cons.1 hb with rfl | hb
    · exact hl a ha
    · exact h.2.2 a ha b hb⟩
/-- A time counted once more. -/
theorem spread_more {L R : List Ta} {x : Ta} (h : RisT (L ++ x :: R)) (hn : 0 ≤ x.n) : spread (L ++ ⟨x.b, x.t, x.n + 1⟩ :: R) = insM (spread (L ++ x :: R)) x.t := by
  refine flat_eq (spread_flat (ris_same h rfl)) (insM_flat (spread_flat h)) (List.Perm.trans ?_ insM_perm.symm)
  rw [spread_app, spread_app]
  show (spread L ++ (List.replicate (x.n + 1).toNat x.t ++ spread R)).Perm (x.t :: (spread L ++ (List.replicate x.n.toNat x.t ++ spread R)))
  rw [show (x.n + 1).toNat = x.n.toNat + 1 by omega, List.replicate_succ, List.cons_append]
  exact List.perm_middle
/-- A time that was not there. -/
theorem spread_new {L R : List Ta} {b : Nat} {t : Int} (h : RisT (L ++ ⟨b, t, 1⟩ :: R)) : spread (L ++ ⟨b, t, 1⟩ :: R) = insM (spread (L ++ R)) t := by
  refine flat_eq (spread_flat h) (insM_flat (spread_flat (ris_drop h))) (List.Perm.trans ?_ insM_perm.symm)
  rw [spread_app, spread_app]
  show (spread L ++ t :: spread R).Perm _
  exact List.perm_middle
/-- A time counted once less. -/
theorem spread_less {L R : List Ta} {x : Ta} (h : RisT (L ++ x :: R)) (hn : 1 ≤ x.n) : spread (L ++ ⟨x.b, x.t, x.n - 1⟩ :: R) = (spread (L ++ x :: R)).erase x.t := by
  refine flat_eq (spread_flat (ris_same h rfl)) (erase_flat (spread_flat h)) ?_
  rw [spread_app, spread_app]
  show (spread L ++ (List.replicate (x.n - 1).toNat x.t ++ spread R)).Perm ((spread L ++ (List.replicate x.n.toNat x.t ++ spread R)).erase x.t)
  rw [show x.n.toNat = (x.n - 1).toNat + 1 by omega, List.replicate_succ, List.cons_append]
  have := (List.perm_middle (a := x.t) (l₁ := spread L) (l₂ := List.replicate (x.n - 1).toNat x.t ++ spread R)).erase x.t
  rw [List.erase_cons_head] at this
  exact this.symm
theorem spread_zero {L R : List Ta} {x : Ta} (e : x.n = 0) : spread (L ++ x :: R) = spread (L ++ R) := by
  rw [spread_app, spread_app]
  show spread L ++ (List.replicate x.n.toNat x.t ++ spread R) = _
  rw [e]; rfl
theorem spread_in {L R : List Ta} {x : Ta} (hn : 1 ≤ x.n) : x.t ∈ spread (L ++ x :: R) := by
  rw [spread_app]
  show x.t ∈ spread L ++ (List.replicate x.n.toNat x.t ++ spread R)
  simp; omega
theorem spread_out {l : List Ta} {t : Int} (h : ∀ x ∈ l, x.t ≠ t) : t ∉ spread l := fun hm => by
  obtain ⟨x, hx, e, _⟩ := spread_mem hm
  exact h x hx e
theorem spread_len_le : ∀ {l : List Ta}, (∀ x ∈ l, 1 ≤ x.n) → l.length ≤ (spread l).length
  | [], _ => Nat.le_refl _
  | x :: l, h => by
    have ih := spread_len_le (l := l) (fun y hy => h y (by simp [hy]))
    have := h x (by simp)
    simp [spread]; omega
theorem spread_n_le : ∀ {l : List Ta} {x : Ta}, x ∈ l → x.n.toNat ≤ (spread l).length
  | y :: l, x, h => by
    rcases List.mem_cons.1 h with rfl | h
    · simp [spread]
    · have := spread_n_le h
      simp [spread]; omega
theorem low_spread {x : Ta} {l : List Ta} (hn : 1 ≤ x.n) (now : Int) : lowM (spread (x :: l)) now = if x.t < now then x.t else now := by
  unfold lowM spread
  obtain ⟨k, hk⟩ : ∃ k, x.n.toNat = k + 1 := ⟨x.n.toNat - 1, by omega⟩
  rw [hk, List.replicate_succ]; rfl
/-- What find tells: the place of a time, and whether it is there. -/
def FoundT (ts : List Ta) (t : Int) (i : Nat) (b : Bool) : Prop :=
  ∃ L R, ts = L ++ R ∧ L.length = i ∧ (∀ x ∈ L, x.t < t) ∧ if b then ∃ x R', R = x :: R' ∧ x.t = t else ∀ x ∈ R, t < x.t
/-- So far the search has come. -/
structure SoughtT (l : List Ta) (t : Int) (i j : Nat) : Prop where
  le : i ≤ j
  len : j ≤ l.length
  low : ∀ m x, m < i → l[m]? = some x → x.t < t
  up : ∀ m x, j ≤ m → l[m]? = some x → t ≤ x.t
theorem ris_get : ∀ {l : List Ta}, RisT l → ∀ {i j : Nat} {p q : Ta}, l[i]? = some p → l[j]? = some q → i < j → p.t < q.t
  | a :: l, h, 0, j + 1, p, q, hp, hq, _ => by
    simp at hp hq
    subst hp
    exact h.1 q (List.mem_of_getElem? hq)
  | a :: l, h, i + 1, j + 1, p, q, hp, hq, hij => ris_get h.2 (by simpa using hp) (by simpa using hq) (by omega)
theorem SoughtT.split {l : List Ta} {t : Int} {i : Nat} (h : SoughtT l t i i) : ∃ L R, l = L ++ R ∧ L.length = i ∧ (∀ x ∈ L, x.t < t) ∧ ∀ x ∈ R, t ≤ x.t :=
  ⟨l.take i, l.drop i, (List.take_append_drop i l).symm, by rw [List.length_take]; have := h.len; omega, fun x hx => by
      obtain ⟨m, hm, rfl⟩ := List.getElem_of_mem hx
      rw [List.length_take] at hm
      exact h.low m _ (by omega) (by rw [List.getElem_take]; exact List.getElem?_eq_getElem (by omega)),
    fun x hx => by
      obtain ⟨m, hm, rfl⟩ := List.getElem_of_mem hx
      rw [List.length_drop] at hm
      exact h.up (i + m) _ (by omega) (by rw [List.getElem_drop]; exact List.getElem?_eq_getElem (by omega))⟩
theorem SoughtT.yes {l : List Ta} {t : Int} {i : Nat} {x : Ta} (h : SoughtT l t i i) (hx : l[i]? = some x) (e : x.t = t) : FoundT l t i true := by
  obtain ⟨L, R, rfl, rfl, h1, h2⟩ := h.split
  refine ⟨L, R, rfl, rfl, h1, ?_⟩
  rw [if_pos rfl]
  rw [List.getElem?_append_right (Nat.le_refl _), Nat.sub_self] at hx
  cases R with
  | nil => simp at hx
  | cons y R => simp at hx; subst hx; exact ⟨y, R, rfl, e⟩
theorem SoughtT.no {l : List Ta} {t : Int} {i : Nat} (h : SoughtT l t i i) (hr : RisT l) (hx : ∀ x, l[i]? = some x → x.t ≠ t) : FoundT l t i false := by
  obtain ⟨L, R, rfl, rfl, h1, h2⟩ := h.split
  refine ⟨L, R, rfl, rfl, h1, ?_⟩
  rw [if_neg (by simp)]
  intro x hm
  have := h2 x hm
  cases R with
  | nil => simp at hm
  | cons y R =>
    have hy := hx y (by rw [List.getElem?_append_right (Nat.le_refl _), Nat.sub_self]; rfl)
    have hy2 := h2 y (by simp)
    rcases List.mem_cons.1 hm with rfl | hm
    · omega
    · have := (ris_app.1 hr).2.1.1 x hm
      omega
end Go.Proofs.Ytbbinfdgmfmaeaa
