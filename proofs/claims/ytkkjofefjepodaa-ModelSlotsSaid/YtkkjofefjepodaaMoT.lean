/- A Model of whole calls in plain lists, for some of layer 19's statements: times that run out (Tm), readers alone (Rd0). No dump; no condition. -/
import Derived.Test.YtkkjofefjepodaaMoE
namespace Go.Proofs.Ytkkjofefjepodaa
set_option linter.unusedVariables false
/-- No versions; each session that lives is LSnap; the clock is at now of n. -/
structure Tm (n now : Int) (x : MoI) : Prop where
  v : x.v = []
  l : x.limit = n
  t : x.time = now
  m : x.made ≤ now
  b : 0 ≤ now ∧ now ≤ n ∧ n ≤ 60
  s : ∀ i, i < 8 → (x.s i).id ≠ 0 → (x.s i).level = 1
section
variable {n now : Int} {x : MoI} {k : Nat}
theorem doE_live {o : OpI} (hk : k < 8) (h : (x.s k).id ≠ 0) (ho : okI o = true) (h6 : o.kind = 7 ∨ o.kind = 6) : x.doE k o = 0 := by
  unfold MoI.doE
  rw [if_neg (by omega)]
  exact (if_neg (fun c => by rcases c with c | c; exact h c; rw [ho] at c; cases c)).trans (if_pos h6)
theorem run_commit : x.run k ⟨6, 0, 0, 0⟩ = x.commit k := by
  unfold MoI.run
  rw [if_neg (by decide), if_pos rfl]
theorem do_commit (hk : k < 8) (h : (x.s k).id ≠ 0) : x.doE k ⟨6, 0, 0, 0⟩ = 0 ∧ x.doR k ⟨6, 0, 0, 0⟩ = (x.commit k).1 ∧ x.doM k ⟨6, 0, 0, 0⟩ = (x.commit k).2 := by
  have e := doE_live hk h (o := ⟨6, 0, 0, 0⟩) rfl (.inr rfl)
  refine ⟨e, ?_, ?_⟩
  · unfold MoI.doR; rw [if_pos e]; exact congrArg Prod.fst run_commit
  · unfold MoI.doM; rw [if_pos e]; exact congrArg Prod.snd run_commit
theorem tm_new (n : Int) (h : 1 ≤ n ∧ n ≤ 60) : Tm n 0 (new0 5 n) := ⟨rfl, rfl, rfl, Int.le_refl _, by omega, fun i hi e => absurd rfl e⟩
theorem tm_live_in (h : Tm n now x) (hk : k < 8) (hl : (x.s k).id ≠ 0) (ht : now < n) : ∃ y, x.doE k ⟨6, 0, 0, 0⟩ = 0 ∧ x.doR k ⟨6, 0, 0, 0⟩ = ⟨0, 0, [], 3, 0⟩ ∧ x.doM k ⟨6, 0, 0, 0⟩ = y ∧ Tm n (now + 1) y := by
  obtain ⟨d1, d2, d3⟩ := do_commit hk hl
  have e : x.commit k = (⟨0, 0, [], 3, 0⟩, { x with time := x.time + 1, v := x.v.map (doneV (x.s k).id (x.time + 1)), s := putS x.s k tx0 }) := by
    unfold MoI.commit
    rw [if_neg (by rw [h.l, h.t]; omega)]
    simp only
    rw [if_neg (fun c => c.1 (h.s k hk hl))]
  rw [e] at d2 d3
  refine ⟨_, d1, d2, d3, by show x.v.map _ = []; rw [h.v]; rfl, h.l, by show x.time + 1 = _; rw [h.t], by have := h.m; show x.made ≤ now + 1; omega, by have := h.b; omega, fun i hi hne => ?_⟩
  have hne : (putS x.s k tx0 i).id ≠ 0 := hne
  show (putS x.s k tx0 i).level = 1
  by_cases c : i = k
  · rw [c, putS_self] at hne; exact absurd rfl hne
  · rw [putS_ne _ _ c] at hne ⊢; exact h.s i hi hne
theorem tm_live_out (h : Tm n now x) (hk : k < 8) (hl : (x.s k).id ≠ 0) (ht : ¬ now < n) : ∃ y, x.doE k ⟨6, 0, 0, 0⟩ = 0 ∧ x.doR k ⟨6, 0, 0, 0⟩ = ⟨14, 0, [], 4, 6⟩ ∧ x.doM k ⟨6, 0, 0, 0⟩ = y ∧ Tm n now y := by
  obtain ⟨d1, d2, d3⟩ := do_commit hk hl
  have e : x.commit k = (MoI.bad 6, x.over k) := by
    unfold MoI.commit
    rw [if_pos (by rw [h.l, h.t]; omega)]
  rw [e] at d2 d3
  refine ⟨_, d1, d2, d3, by show x.v.map _ = []; rw [h.v]; rfl, h.l, h.t, h.m, h.b, fun i hi hne => ?_⟩
  have hne : (putS x.s k tx0 i).id ≠ 0 := hne
  show (putS x.s k tx0 i).level = 1
  by_cases c : i = k
  · rw [c, putS_self] at hne; exact absurd rfl hne
  · rw [putS_ne _ _ c] at hne ⊢; exact h.s i hi hne
theorem beg_in (hk : k < 8) (hl : (x.s k).id = 0) (level : Int) (lv : 1 ≤ level ∧ level ≤ 3) (hm : x.made < 2000) (ht : x.time < x.limit) : x.begE k level = 0 ∧ x.begN k level = x.made + 1 ∧ x.beg k level = { x with time := x.time + 1, made := x.made + 1, s := putS x.s k ⟨x.made + 1, level, 0, x.time + 1, [], []⟩ } := by
  have e : x.begE k level = 0 := by
    unfold MoI.begE
    rw [if_neg (by omega)]
    exact (if_neg (fun c => c hl)).trans ((if_neg (by omega)).trans (if_neg (by omega)))
  exact ⟨e, by unfold MoI.begN; rw [if_pos e], by unfold MoI.beg; rw [if_pos e]; rfl⟩
theorem tm_beg_in (h : Tm n now x) (hk : k < 8) (hl : (x.s k).id = 0) (ht : now < n) : ∃ y a, x.begN k 1 = a ∧ x.begE k 1 = 0 ∧ x.beg k 1 = y ∧ Tm n (now + 1) y ∧ y.s k = ⟨a, 1, 0, now + 1, [], []⟩ ∧ a ≠ 0 ∨ x.made < 0 := by
  by_cases hm0 : x.made < 0
  · exact ⟨x, 0, .inr hm0⟩
  have hb := h.b
  have hm := h.m
  obtain ⟨e, n1, b1⟩ := beg_in (x := x) hk hl 1 (by omega) (by omega) (by rw [h.t, h.l]; exact ht)
  refine ⟨_, _, .inl ⟨n1, e, b1, ⟨h.v, h.l, by show x.time + 1 = _; rw [h.t], by show x.made + 1 ≤ _; omega, by omega, fun i hi hne => ?_⟩, ?_, by omega⟩⟩
  · show (putS x.s k _ i).level = 1
    have hne : (putS x.s k ⟨x.made + 1, 1, 0, x.time + 1, [], []⟩ i).id ≠ 0 := hne
    by_cases c : i = k
    · rw [c, putS_self]
    · rw [putS_ne _ _ c] at hne ⊢; exact h.s i hi hne
  · show putS x.s k _ k = _
    rw [putS_self, h.t]
theorem tm_beg_out (h : Tm n now x) (hk : k < 8) (hl : (x.s k).id = 0) (ht : ¬ now < n) : x.begN k 1 = 0 ∧ x.begE k 1 = 16 ∧ x.beg k 1 = x := by
  have hb := h.b
  have hm := h.m
  have e : x.begE k 1 = 16 := by
    unfold MoI.begE
    rw [if_neg (by omega)]
    exact (if_neg (fun c => c hl)).trans ((if_neg (by omega)).trans (if_pos (by rw [h.l, h.t]; omega)))
  exact ⟨by unfold MoI.begN; rw [if_neg (by rw [e]; decide)], e, by unfold MoI.beg; rw [if_neg (by rw [e]; decide)]⟩
end
end Go.Proofs.Ytkkjofefjepodaa
