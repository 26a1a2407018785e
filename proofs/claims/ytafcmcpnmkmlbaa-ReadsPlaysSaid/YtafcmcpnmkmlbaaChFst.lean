/- Where a word stands first in a list. No dump; no condition. -/
import Derived.Test.YtafcmcpnmkmlbaaRows
namespace Go.Proofs.Ytafcmcpnmkmlbaa
set_option linter.unusedVariables false

theorem mem_getD {l : List Int} {i : Nat} (h : i < l.length) : l.getD i 0 ∈ l := by
  rw [List.getD_eq_getElem?_getD, List.getElem?_eq_getElem h]
  exact List.getElem_mem h
theorem not_mem_of {l : List Int} {x : Int} (h : ∀ m, m < l.length → l.getD m 0 ≠ x) : x ∉ l := fun hm => by
  obtain ⟨i, hi, e⟩ := List.getElem_of_mem hm
  exact h i hi (by rw [List.getD_eq_getElem?_getD, List.getElem?_eq_getElem hi]; exact e)
/-- In a list without repetition a place is the first. -/
theorem idx_of {l : List Int} (hn : l.Nodup) {i : Nat} (h : i < l.length) {x : Int} (e : l.getD i 0 = x) : l.idxOf x = i := by
  rw [List.getD_eq_getElem?_getD, List.getElem?_eq_getElem h] at e
  have e : l[i] = x := e
  rw [← e]
  exact hn.idxOf_getElem i h
end Go.Proofs.Ytafcmcpnmkmlbaa
