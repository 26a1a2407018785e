/- For JudgeAll, in plain lists: what is there now, the first that does not hold, what must be looked at anew. No dump; no condition but I15's. -/
import Derived.Test.YtndpifkpgoeogaaJmI
import Derived.Test.YtndpifkpgoeogaaJuI
namespace Go.Proofs.Ytndpifkpgoeogaa
set_option linter.unusedVariables false
def nowA (zn : List Int) (k : Int) : Int := if zn.length = 0 then 0 else zn.getD (k.toNat % zn.length) 0 % 4
def spA (zs : List Int) (lo hi : Int) : List Int := (zs.take (min (min (lo.toNat % 8) zs.length + hi.toNat % 4) zs.length)).drop (min (lo.toNat % 8) zs.length)
def badR (lv : Int) (N : Int → Int) : List OpI → Option Int
  | [] => none
  | y :: l => if keyJ lv y.link (N y.lo) = true then badR lv N l else some y.lo
def badRS (lv : Int) (SP : Int → Int → List Int) : List OpI → Option Int
  | [] => none
  | y :: l => if spanJ lv y.z (SP y.lo y.hi) = true then badRS lv SP l else some y.lo
def inL (lv : Int) : Bool := decide (1 ≤ lv) && decide (lv ≤ 3)
def resK (lv : Int) (N : Int → Int) (ks : List OpI) : Bool × Int := if inL lv = true then (match badR lv N ks with | some k => (false, k) | none => (true, -1)) else (false, -1)
def resA (lv : Int) (N : Int → Int) (SP : Int → Int → List Int) (ks ss : List OpI) : Bool × Int := if inL lv = true then (match badR lv N ks with | some k => (false, k) | none => match badRS lv SP ss with | some k => (false, k) | none => (true, -1)) else (false, -1)
def wantL (lv : Int) (y : OpI) : Bool := decide (lv = 3) || (decide (lv = 2) && decide (y.link ≠ 0))
def needL (lv : Int) (ks : List OpI) : List Int := (ks.filter (wantL lv)).map OpI.lo
theorem links_at : ∀ {ks : List OpI}, (ks.map OpI.lo).Nodup → ∀ {y : OpI}, y ∈ ks → (ks.map OpI.link).getD ((ks.map OpI.lo).idxOf y.lo) 0 = y.link
  | [], _, y, h => by cases h
  | x :: l, nd, y, h => by
    rw [List.map_cons, List.nodup_cons] at nd
    by_cases e : x = y
    · subst e; simp
    · have hy : y ∈ l := by
        rcases List.mem_cons.1 h with h | h
        · exact absurd h.symm e
        · exact h
      have ne : x.lo ≠ y.lo := fun e => nd.1 (by rw [e]; exact List.mem_map.2 ⟨y, hy, rfl⟩)
      rw [List.map_cons, List.map_cons, List.idxOf_cons, beq_eq_false_iff_ne.2 ne, cond_false, List.getD_cons_succ]
      exact links_at nd.2 hy
section
variable {W : World} {s : RdS} {ks ss : List OpI} {n : Nat} {lv : Int} {N : Int → Int} {SP : Int → Int → List Int}
theorem I15.link (I : I15 W s ks ss n) {y : OpI} (hy : y ∈ ks) : s.link y.lo = (y.link, true) := by
  unfold RdS.link
  have hm : y.lo ∈ s.keys := by rw [I.e1]; exact List.mem_map.2 ⟨y, hy, rfl⟩
  rw [if_pos hm, I.e1, I.e2, links_at I.nd hy]
theorem badK_map : ∀ {l : List OpI}, (∀ y ∈ l, s.link y.lo = (y.link, true)) → badK lv s N (l.map OpI.lo) = badR lv N l
  | [], _ => rfl
  | y :: l, h => by
    show (if keyJ lv (s.link y.lo).1 (N y.lo) = true then badK lv s N (l.map OpI.lo) else some y.lo) = if keyJ lv y.link (N y.lo) = true then badR lv N l else some y.lo
    rw [h y (List.mem_cons_self ..), badK_map (fun x hx => h x (List.mem_cons_of_mem _ hx))]
theorem badK_two : ∀ {l : List OpI}, (∀ y ∈ l, s.link y.lo = (y.link, true)) → badK 2 s N ((l.map OpI.lo).filter (fun k => decide ((s.link k).1 ≠ 0))) = badR 2 N l
  | [], _ => rfl
  | y :: l, h => by
    have hy := h y (List.mem_cons_self ..)
    have ih := badK_two (fun x hx => h x (List.mem_cons_of_mem _ hx))
    rw [List.map_cons]
    by_cases e : y.link = 0
    · rw [List.filter_cons_of_neg (by rw [hy]; simp [e]), ih]
      show _ = if keyJ 2 y.link (N y.lo) = true then badR 2 N l else some y.lo
      rw [if_pos (by unfold keyJ; simp [e])]
    · rw [List.filter_cons_of_pos (by rw [hy]; simp [e])]
      show (if keyJ 2 (s.link y.lo).1 (N y.lo) = true then badK 2 s N _ else some y.lo) = if keyJ 2 y.link (N y.lo) = true then badR 2 N l else some y.lo
      rw [hy, ih]
theorem badR_one : ∀ l : List OpI, badR 1 N l = none
  | [] => rfl
  | y :: l => by
    show (if keyJ 1 y.link (N y.lo) = true then badR 1 N l else some y.lo) = none
    rw [if_pos (by unfold keyJ; simp)]
    exact badR_one l
theorem badRS_low (h : lv = 1 ∨ lv = 2) : ∀ l : List OpI, badRS lv SP l = none
  | [] => rfl
  | y :: l => by
    show (if spanJ lv y.z (SP y.lo y.hi) = true then badRS lv SP l else some y.lo) = none
    rw [if_pos (by unfold spanJ; rw [if_pos h])]
    exact badRS_low h l
theorem badS_map : ∀ {l : List OpI}, badS lv SP (l.map (fun x => ⟨x.lo, x.hi, x.z⟩)) = badRS lv SP l
  | [] => rfl
  | y :: l => by
    show (if spanJ lv y.z (SP y.lo y.hi) = true then badS lv SP (l.map _) else some y.lo) = if spanJ lv y.z (SP y.lo y.hi) = true then badRS lv SP l else some y.lo
    rw [badS_map]
theorem need_two : ∀ {l : List OpI}, (∀ y ∈ l, s.link y.lo = (y.link, true)) → (l.map OpI.lo).filter (fun k => decide ((s.link k).1 ≠ 0)) = needL 2 l
  | [], _ => rfl
  | y :: l, h => by
    have hy := h y (List.mem_cons_self ..)
    have ih := need_two (fun x hx => h x (List.mem_cons_of_mem _ hx))
    unfold needL at ih ⊢
    rw [List.map_cons]
    by_cases e : y.link = 0
    · rw [List.filter_cons_of_neg (by rw [hy]; simp [e]), List.filter_cons_of_neg (by unfold wantL; simp [e]), ih]
    · rw [List.filter_cons_of_pos (by rw [hy]; simp [e]), List.filter_cons_of_pos (by unfold wantL; simp [e]), List.map_cons, ih]
theorem inL_iff : inL lv = true ↔ 1 ≤ lv ∧ lv ≤ 3 := by unfold inL; simp
theorem all_eq (I : I15 W s ks ss n) : allJ lv s N SP = resA lv N SP ks ss := by
  have lk : ∀ y ∈ ks, s.link y.lo = (y.link, true) := fun y hy => I.link hy
  unfold allJ resA
  by_cases h : inL lv = true
  · have hr := inL_iff.1 h
    rw [if_neg (by omega), if_pos h]
    have e1 : badK lv s N (needK lv s) = badR lv N ks := by
      unfold needK
      rcases (by omega : lv = 1 ∨ lv = 2 ∨ lv = 3) with rfl | rfl | rfl
      · rw [if_neg (by decide), if_neg (by decide), badR_one]; rfl
      · rw [if_neg (by decide), if_pos rfl, I.e1, badK_two lk]
      · rw [if_pos rfl, I.e1, badK_map lk]
    have e2 : badS lv SP (needS lv s) = badRS lv SP ss := by
      unfold needS
      by_cases h3 : lv = 3
      · rw [if_pos h3, I.e3, badS_map]
      · rw [if_neg h3, badRS_low (by omega)]; rfl
    rw [e1, e2]
    cases badR lv N ks with
    | some k => rfl
    | none => cases badRS lv SP ss with
      | some k => rfl
      | none => rfl
  · have hr : ¬ (1 ≤ lv ∧ lv ≤ 3) := fun e => h (inL_iff.2 e)
    rw [if_pos (by omega), if_neg h]
theorem need_eq (I : I15 W s ks ss n) : needK lv s = needL lv ks := by
  have lk : ∀ y ∈ ks, s.link y.lo = (y.link, true) := fun y hy => I.link hy
  unfold needK
  by_cases h3 : lv = 3
  · subst h3
    rw [if_pos rfl, I.e1]
    unfold needL
    rw [List.filter_eq_self.2 (fun y _ => by unfold wantL; simp)]
  · rw [if_neg h3]
    by_cases h2 : lv = 2
    · subst h2
      rw [if_pos rfl, I.e1, need_two lk]
    · rw [if_neg h2]
      unfold needL
      rw [List.filter_eq_nil_iff.2 (fun y _ => by unfold wantL; simp [h3, h2])]
      rfl
theorem badR_at {i : Nat} {y : OpI} (h : ks[i]? = some y) : badR lv N (ks.drop i) = if keyJ lv y.link (N y.lo) = true then badR lv N (ks.drop (i + 1)) else some y.lo := by
  obtain ⟨hi, e⟩ := List.getElem?_eq_some_iff.1 h
  rw [List.drop_eq_getElem_cons hi, e]
  rfl
theorem badRS_at {i : Nat} {y : OpI} (h : ss[i]? = some y) : badRS lv SP (ss.drop i) = if spanJ lv y.z (SP y.lo y.hi) = true then badRS lv SP (ss.drop (i + 1)) else some y.lo := by
  obtain ⟨hi, e⟩ := List.getElem?_eq_some_iff.1 h
  rw [List.drop_eq_getElem_cons hi, e]
  rfl
theorem needL_next {i : Nat} {y : OpI} (h : ks[i]? = some y) : needL lv (ks.take (i + 1)) = needL lv (ks.take i) ++ (if wantL lv y = true then [y.lo] else []) := by
  unfold needL
  rw [List.take_add_one, h, List.filter_append, List.map_append]
  cases c : wantL lv y <;> simp [c]
/-- How far the keys are looked through. -/
def KSt (lv : Int) (N : Int → Int) (ks : List OpI) (i : Nat) (q : Bool) (a : Int) : Prop := (q = true ∧ a = -1 ∧ inL lv = true ∧ badR lv N ks = badR lv N (ks.drop i)) ∨ (q = false ∧ resK lv N ks = (false, a))
theorem KSt.start : KSt lv N ks 0 (inL lv) (-1) := by
  cases h : inL lv
  · exact .inr ⟨rfl, by unfold resK; rw [h]; rfl⟩
  · exact .inl ⟨rfl, rfl, h, rfl⟩
theorem KSt.good {i : Nat} {a : Int} (h : KSt lv N ks i true a) {y : OpI} (hy : ks[i]? = some y) (g : keyJ lv y.link (N y.lo) = true) : KSt lv N ks (i + 1) true a := by
  rcases h with ⟨_, h1, h2, h3⟩ | ⟨h, _⟩
  · exact .inl ⟨rfl, h1, h2, by rw [h3, badR_at hy, if_pos g]⟩
  · cases h
theorem KSt.bad {i : Nat} {a : Int} (h : KSt lv N ks i true a) {y : OpI} (hy : ks[i]? = some y) (g : keyJ lv y.link (N y.lo) = false) (j : Nat) : KSt lv N ks j false y.lo := by
  rcases h with ⟨_, h1, h2, h3⟩ | ⟨h, _⟩
  · refine .inr ⟨rfl, ?_⟩
    unfold resK
    rw [if_pos h2, h3, badR_at hy, if_neg (by rw [g]; simp)]
  · cases h
theorem KSt.over {i : Nat} {q : Bool} {a : Int} (h : KSt lv N ks i q a) (e : q = true → i = ks.length) : resK lv N ks = (q, a) := by
  rcases h with ⟨rfl, rfl, h2, h3⟩ | ⟨rfl, h⟩
  · rw [e rfl, List.drop_length] at h3
    unfold resK
    rw [if_pos h2, h3]
    rfl
  · exact h
/-- .. and the ranges. -/
def SSt (lv : Int) (N : Int → Int) (SP : Int → Int → List Int) (ks ss : List OpI) (i : Nat) (q : Bool) (a : Int) : Prop := (q = true ∧ a = -1 ∧ inL lv = true ∧ badR lv N ks = none ∧ badRS lv SP ss = badRS lv SP (ss.drop i)) ∨ (q = false ∧ resA lv N SP ks ss = (false, a))
theorem SSt.start {q : Bool} {a : Int} (h : resK lv N ks = (q, a)) : SSt lv N SP ks ss 0 q a := by
  unfold resK at h
  by_cases hl : inL lv = true
  · rw [if_pos hl] at h
    cases e : badR lv N ks with
    | none =>
      rw [e] at h
      simp only [Prod.mk.injEq] at h
      exact .inl ⟨h.1.symm, h.2.symm, hl, e, rfl⟩
    | some k =>
      rw [e] at h
      simp only [Prod.mk.injEq] at h
      refine .inr ⟨h.1.symm, ?_⟩
      unfold resA
      rw [if_pos hl, e]
      simp only [h.2]
  · rw [if_neg hl] at h
    simp only [Prod.mk.injEq] at h
    refine .inr ⟨h.1.symm, ?_⟩
    unfold resA
    rw [if_neg hl, ← h.2]
theorem SSt.good {i : Nat} {a : Int} (h : SSt lv N SP ks ss i true a) {y : OpI} (hy : ss[i]? = some y) (g : spanJ lv y.z (SP y.lo y.hi) = true) : SSt lv N SP ks ss (i + 1) true a := by
  rcases h with ⟨_, h1, h2, h3, h4⟩ | ⟨h, _⟩
  · exact .inl ⟨rfl, h1, h2, h3, by rw [h4, badRS_at hy, if_pos g]⟩
  · cases h
theorem SSt.bad {i : Nat} {a : Int} (h : SSt lv N SP ks ss i true a) {y : OpI} (hy : ss[i]? = some y) (g : spanJ lv y.z (SP y.lo y.hi) = false) (j : Nat) : SSt lv N SP ks ss j false y.lo := by
  rcases h with ⟨_, h1, h2, h3, h4⟩ | ⟨h, _⟩
  · refine .inr ⟨rfl, ?_⟩
    unfold resA
    rw [if_pos h2, h3, h4, badRS_at hy, if_neg (by rw [g]; simp)]
  · cases h
theorem SSt.over {i : Nat} {q : Bool} {a : Int} (h : SSt lv N SP ks ss i q a) (e : q = true → i = ss.length) : resA lv N SP ks ss = (q, a) := by
  rcases h with ⟨rfl, rfl, h2, h3, h4⟩ | ⟨rfl, h⟩
  · rw [e rfl, List.drop_length] at h4
    unfold resA
    rw [if_pos h2, h3, h4]
    rfl
  · exact h
end
end Go.Proofs.Ytndpifkpgoeogaa
