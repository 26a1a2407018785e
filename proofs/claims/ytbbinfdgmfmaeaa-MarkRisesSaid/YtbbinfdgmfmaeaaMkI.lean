/- A multiset of times as a list that does not fall, and what each call of layer 17 answers and leaves. No dump; no condition. -/
import Derived.Test.YtbbinfdgmfmaeaaRows
namespace Go.Proofs.Ytbbinfdgmfmaeaa
set_option linter.unusedVariables false

/-- x is put ahead of the first that is not below it. -/
def insM : List Int → Int → List Int
  | [], x => [x]
  | y :: l, x => if y < x then y :: insM l x else x :: y :: l
def lowM (l : List Int) (now : Int) : Int := match l with | [] => now | y :: _ => if y < now then y else now
def garbI (e low : Int) : Bool := decide (1 ≤ e ∧ e ≤ 1099511627776 ∧ e ≤ low)
/-- It does not fall. -/
def Flat : List Int → Prop
  | [] => True
  | x :: l => (∀ y ∈ l, x ≤ y) ∧ Flat l
theorem insM_mem {x z : Int} : ∀ {l : List Int}, z ∈ insM l x ↔ z = x ∨ z ∈ l
  | [] => by simp [insM]
  | y :: l => by
    unfold insM
    split
    · rw [List.mem_cons, insM_mem, List.mem_cons]
      constructor
      · rintro (h | h | h)
        · exact .inr (.inl h)
        · exact .inl h
        · exact .inr (.inr h)
      · rintro (h | h | h)
        · exact .inr (.inl h)
        · exact .inl h
        · exact .inr (.inr h)
    · rw [List.mem_cons]
theorem insM_flat {x : Int} : ∀ {l : List Int}, Flat l → Flat (insM l x)
  | [], _ => ⟨fun y h => by simp at h, trivial⟩
  | y :: l, h => by
    unfold insM
    split
    · rename_i hlt
      refine ⟨fun z hz => ?_, insM_flat h.2⟩
      rcases insM_mem.1 hz with rfl | hz
      · omega
      · exact h.1 z hz
    · rename_i hge
      refine ⟨fun z hz => ?_, h⟩
      rcases List.mem_cons.1 hz with rfl | hz
      · omega
      · have := h.1 z hz; omega
theorem insM_perm {x : Int} : ∀ {l : List Int}, (insM l x).Perm (x :: l)
  | [] => List.Perm.refl _
  | y :: l => by
    unfold insM
    split
    · exact (insM_perm.cons y).trans (List.Perm.swap x y l)
    · exact List.Perm.refl _
theorem insM_len (l : List Int) (x : Int) : (insM l x).length = l.length + 1 := insM_perm.length_eq
theorem erase_flat {x : Int} : ∀ {l : List Int}, Flat l → Flat (l.erase x)
  | [], _ => trivial
  | y :: l, h => by
    rw [List.erase_cons]
    split
    · exact h.2
    · exact ⟨fun z hz => h.1 z (List.mem_of_mem_erase hz), erase_flat h.2⟩
/-- The lowest is not above any. -/
theorem low_le {l : List Int} (h : Flat l) {now x : Int} (hx : x ∈ l) : lowM l now ≤ x := by
  cases l with
  | nil => simp at hx
  | cons y l =>
    unfold lowM
    have : y ≤ x := by
      rcases List.mem_cons.1 hx with rfl | hx
      · omega
      · exact h.1 x hx
    simp only
    split <;> omega
/-- The first k of a list, put in one by one. -/
def bag (z : List Int) : Nat → List Int
  | 0 => []
  | k + 1 => insM (bag z k) (z.getD k 0)
theorem bag_flat (z : List Int) : ∀ k, Flat (bag z k)
  | 0 => trivial
  | k + 1 => insM_flat (bag_flat z k)
theorem bag_perm (z : List Int) : ∀ k, k ≤ z.length → (bag z k).Perm (z.take k)
  | 0, _ => by simp [bag]
  | k + 1, h => by
    have e : z.take (k + 1) = z.take k ++ [z.getD k 0] := by
      rw [List.take_add_one, List.getElem?_eq_getElem (by omega), List.getD_eq_getElem?_getD, List.getElem?_eq_getElem (by omega)]
      rfl
    rw [e]
    exact insM_perm.trans (((bag_perm z k (by omega)).cons _).trans (List.perm_append_singleton _ _).symm)
end Go.Proofs.Ytbbinfdgmfmaeaa
