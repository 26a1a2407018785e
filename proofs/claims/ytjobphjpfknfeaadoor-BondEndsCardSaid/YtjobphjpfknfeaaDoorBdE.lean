/- Two ids without bonds, in plain lists: what each call answers and leaves. No dump; no condition. -/
import Derived.Test.YtjobphjpfknfeaaDoorBdI
namespace Go.Proofs.YtjobphjpfknfeaaDoor
set_option linter.unusedVariables false
open Classical
/-- 1 and 2, with these states, and no bond. -/
def two (x y : Int) : BdS := ⟨[(1, x), (2, y)], []⟩
section
variable {x y id a b : Int}
theorem two_wt : ¬ (two x y).wt a b := fun h => by cases h.1
theorem two_rch : ¬ (two x y).Rch a b := fun h => by obtain ⟨c, w, _⟩ := Rch.first h; exact two_wt w
theorem two_waits : (two x y).waits a = [] := waits_nil.2 fun b => two_wt
theorem two_st1 : (two x y).st 1 = x := rfl
theorem two_st2 : (two x y).st 2 = y := rfl
theorem two_has : (two x y).has id ↔ id = 1 ∨ id = 2 := by unfold BdS.has two; simp
theorem two_no (h1 : id ≠ 1) (h2 : id ≠ 2) : (two x y).st id = 0 := by
  unfold BdS.st two
  have a1 : ((1 : Int) == id) = false := by simp; omega
  have a2 : ((2 : Int) == id) = false := by simp; omega
  simp [a1, a2]
theorem two_open1 : BdS.new.open 1 = (0, ⟨[(1, 1)], []⟩) := by
  unfold BdS.open BdS.has BdS.new
  simp
theorem two_open2 : (⟨[(1, 1)], []⟩ : BdS).open 2 = (0, two 1 1) := by
  unfold BdS.open BdS.has two
  simp
theorem two_open3 : (two x y).open 2 = (12, two x y) := by
  unfold BdS.open
  rw [if_neg (by decide), if_pos (two_has.2 (.inr rfl))]
theorem two_open0 : (two x y).open 0 = (1, two x y) := by
  unfold BdS.open
  rw [if_pos (by decide)]
theorem two_put1 {v : Int} : (two x y).put 1 v = two v y := by
  unfold BdS.put two
  simp
theorem two_doom1 : (two 1 1).doom 1 = two 2 1 := by
  unfold BdS.doom two
  have : ¬ (⟨[(1, 1), (2, 1)], []⟩ : BdS).Rch 2 1 := two_rch (x := 1) (y := 1)
  simp [this]
theorem two_doom2 : (two 4 1).doom 2 = two 4 2 := by
  unfold BdS.doom two
  simp
theorem two_good : (two 1 1).good 1 = (([], 0), two 3 1) := by
  unfold BdS.good
  rw [if_neg (by rw [two_has]; simp), if_neg (by rw [two_st1]; simp), if_neg (by rw [two_waits]; simp), two_put1]
  congr 2
  rw [List.eq_nil_iff_forall_not_mem]
  intro z hz
  obtain ⟨_, _, q⟩ := mem_rise.1 hz
  rw [two_waits] at q
  cases q
theorem two_bad : (two 1 1).bad 1 = (([], 0), two 4 1) := by
  unfold BdS.bad
  rw [if_neg (by rw [two_has]; simp), if_neg (by rw [two_st1]; omega), two_doom1, two_put1]
  congr 2
  rw [List.eq_nil_iff_forall_not_mem]
  intro z hz
  obtain ⟨h1, h2⟩ := List.mem_filter.1 hz
  have h2 := of_decide_eq_true h2
  unfold BdS.dooms at h1
  obtain ⟨_, _, q | q⟩ := mem_rise.1 h1
  · exact h2 q
  · exact two_rch q
theorem two_late (hx : x = 3 ∨ x = 4) : (two x y).good 1 = (([], 7), two x y) ∧ (two x y).bad 1 = (([], 7), two x y) ∧ (two x y).bind 1 2 = (7, two x y) := by
  refine ⟨?_, ?_, ?_⟩
  · unfold BdS.good
    rw [if_neg (by rw [two_has]; simp), if_pos (by rw [two_st1]; omega)]
  · unfold BdS.bad
    rw [if_neg (by rw [two_has]; simp), if_pos (by rw [two_st1]; exact hx)]
  · unfold BdS.bind
    rw [if_neg (by rw [two_has, two_has]; simp), if_neg (by decide), if_pos (by rw [two_st1]; exact hx)]
theorem two_self : (two x y).bind 2 2 = (1, two x y) := by
  unfold BdS.bind
  rw [if_neg (by rw [two_has]; simp), if_pos rfl]
theorem two_well : (two 3 1).bind 2 1 = (0, two 3 1) := by
  unfold BdS.bind
  rw [if_neg (by rw [two_has, two_has]; simp), if_neg (by decide), if_neg (by rw [two_st2]; omega), if_pos (.inl two_st1)]
theorem two_ill : (two 4 1).bind 2 1 = (0, two 4 2) := by
  unfold BdS.bind
  rw [if_neg (by rw [two_has, two_has]; simp), if_neg (by decide), if_neg (by rw [two_st2]; omega), if_neg (fun q => q.elim (fun e => by rw [two_st1] at e; omega) two_wt), if_pos two_st1, two_doom2]
theorem two_none (h1 : id ≠ 1) (h2 : id ≠ 2) : (two x y).good id = (([], 11), two x y) ∧ (two x y).bad id = (([], 11), two x y) ∧ (two x y).bind id 1 = (11, two x y) ∧ (two x y).bind 2 id = (11, two x y) := by
  have hn : ¬ (two x y).has id := by rw [two_has]; omega
  refine ⟨?_, ?_, ?_, ?_⟩
  · unfold BdS.good; rw [if_pos hn]
  · unfold BdS.bad; rw [if_pos hn]
  · unfold BdS.bind; rw [if_pos (.inl hn)]
  · unfold BdS.bind; rw [if_pos (.inr hn)]
end
end Go.Proofs.YtjobphjpfknfeaaDoor
