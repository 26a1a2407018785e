/- For JudgeFirst, in plain lists: the keys in the order of their first reads, which of them have changed, and what judge.All tells of them. No dump; no condition. -/
import Derived.Test.YtndpifkpgoeogaaJuI
namespace Go.Proofs.Ytndpifkpgoeogaa
set_option linter.unusedVariables false

def wantF (C : Nat) : List Int → Int
  | [] => -1
  | k :: l => if C.testBit k.toNat then k else wantF C l
/-- What is there now: the first i are put right. -/
def nowF (C : Nat) (O : List Int) (i : Nat) (k : Int) : Int := if k ∈ O.take i then k + 5 else if C.testBit k.toNat then 1 else k + 5
/-- The set of reads. -/
def setF (O : List Int) : RdS := ⟨O, O.map (· + 5), []⟩
theorem setF_link {O : List Int} {k : Int} (h : k ∈ O) : (setF O).link k = (k + 5, true) := by
  unfold RdS.link setF
  rw [if_pos h]
  have hi := List.idxOf_lt_length_of_mem h
  simp [List.getD_eq_getElem?_getD, List.getElem?_map, List.getElem?_eq_getElem hi]
theorem setF_add {O : List Int} {k : Int} (h0 : 0 ≤ k) (h1 : k ≤ 63) : (setF O).add k (k + 5) = (0, setF (if k ∈ O then O else O ++ [k])) := by
  unfold RdS.add setF
  rw [if_neg (by omega)]
  by_cases h : k ∈ O
  · rw [if_pos h, if_pos h]
  · rw [if_neg h, if_neg h]; simp
theorem needF {lv : Int} {O : List Int} (hl : lv = 2 ∨ lv = 3) (hb : ∀ k ∈ O, 0 ≤ k ∧ k ≤ 63) : needK lv (setF O) = O := by
  unfold needK
  rcases hl with rfl | rfl
  · rw [if_neg (by decide), if_pos rfl]
    show O.filter _ = O
    rw [List.filter_eq_self]
    intro k hk
    rw [setF_link hk]
    have := hb k hk
    exact decide_eq_true (by show k + 5 ≠ 0; omega)
  · rw [if_pos rfl]; rfl
theorem keyF {lv k n : Int} (hl : lv = 2 ∨ lv = 3) (h0 : 0 ≤ k) : keyJ lv (k + 5) n = decide (k + 5 = n) := by
  unfold keyJ
  rcases hl with rfl | rfl
  · rw [if_neg (by decide), if_pos rfl, decide_eq_false (by omega), Bool.false_or]
  · rw [if_neg (by decide), if_neg (by decide), if_pos rfl]
theorem badF_take {lv : Int} {C : Nat} {O : List Int} {i : Nat} (hl : lv = 2 ∨ lv = 3) (hb : ∀ k ∈ O, 0 ≤ k ∧ k ≤ 63) : ∀ (l r : List Int), (∀ k ∈ l, k ∈ O.take i) → badK lv (setF O) (nowF C O i) (l ++ r) = badK lv (setF O) (nowF C O i) r
  | [], r, _ => rfl
  | k :: l, r, h => by
    have hk := h k (List.mem_cons_self ..)
    have hO := List.mem_of_mem_take hk
    show (if keyJ lv ((setF O).link k).1 (nowF C O i k) = true then badK lv (setF O) (nowF C O i) (l ++ r) else some k) = _
    rw [setF_link hO, keyF hl (hb k hO).1, if_pos (by unfold nowF; rw [if_pos hk]; simp)]
    exact badF_take hl hb l r fun y hy => h y (List.mem_cons_of_mem _ hy)
theorem badF_drop {lv : Int} {C : Nat} {O : List Int} {i : Nat} (hl : lv = 2 ∨ lv = 3) (hb : ∀ k ∈ O, 0 ≤ k ∧ k ≤ 63) : ∀ (l : List Int), (∀ k ∈ l, k ∈ O ∧ k ∉ O.take i) → badK lv (setF O) (nowF C O i) l = if wantF C l < 0 then none else some (wantF C l)
  | [], _ => rfl
  | k :: l, h => by
    obtain ⟨hO, hk⟩ := h k (List.mem_cons_self ..)
    have b := hb k hO
    show (if keyJ lv ((setF O).link k).1 (nowF C O i k) = true then badK lv (setF O) (nowF C O i) l else some k) = if (if C.testBit k.toNat then k else wantF C l) < 0 then none else some (if C.testBit k.toNat then k else wantF C l)
    rw [setF_link hO, keyF hl b.1]
    unfold nowF
    rw [if_neg hk]
    cases hc : C.testBit k.toNat
    · show (if decide (k + 5 = k + 5) = true then badK lv (setF O) (nowF C O i) l else some k) = if wantF C l < 0 then none else some (wantF C l)
      rw [if_pos (by simp)]
      exact badF_drop hl hb l fun y hy => h y (List.mem_cons_of_mem _ hy)
    · show (if decide (k + 5 = 1) = true then badK lv (setF O) (nowF C O i) l else some k) = if k < 0 then none else some k
      rw [if_neg (by simp; omega), if_neg (by omega)]
theorem wantF_ge (C : Nat) : ∀ l : List Int, (∀ k ∈ l, 0 ≤ k) → wantF C l = -1 ∨ 0 ≤ wantF C l
  | [], _ => .inl rfl
  | k :: l, h => by
    show (if C.testBit k.toNat then k else wantF C l) = -1 ∨ 0 ≤ if C.testBit k.toNat then k else wantF C l
    split
    · exact .inr (h k (List.mem_cons_self ..))
    · exact wantF_ge C l fun y hy => h y (List.mem_cons_of_mem _ hy)
theorem all_first {lv : Int} {C : Nat} {O : List Int} {i : Nat} (hl : lv = 2 ∨ lv = 3) (hb : ∀ k ∈ O, 0 ≤ k ∧ k ≤ 63) (nd : O.Nodup) (SP : Int → Int → List Int) :
    allJ lv (setF O) (nowF C O i) SP = (decide (wantF C (O.drop i) < 0), wantF C (O.drop i)) := by
  have e : badK lv (setF O) (nowF C O i) O = if wantF C (O.drop i) < 0 then none else some (wantF C (O.drop i)) := by
    have h1 := badF_take (C := C) (i := i) hl hb (O.take i) (O.drop i) (fun k hk => hk)
    rw [List.take_append_drop] at h1
    rw [h1]
    refine badF_drop hl hb _ fun k hk => ⟨List.mem_of_mem_drop hk, fun hk2 => ?_⟩
    have h2 : (O.take i ++ O.drop i).Nodup := by rw [List.take_append_drop]; exact nd
    rw [List.nodup_append] at h2
    exact h2.2.2 k hk2 k hk rfl
  unfold allJ
  rw [if_neg (by omega), needF hl hb, e]
  have es : needS lv (setF O) = [] := by unfold needS; split <;> rfl
  rw [es]
  by_cases c : wantF C (O.drop i) < 0
  · rw [if_pos c, decide_eq_true c]
    rcases wantF_ge C (O.drop i) (fun k hk => (hb k (List.mem_of_mem_drop hk)).1) with h | h
    · rw [h]; rfl
    · omega
  · rw [if_neg c, decide_eq_false c]
theorem all_one (s : RdS) (N : Int → Int) (SP : Int → Int → List Int) : allJ 1 s N SP = (true, -1) := by
  unfold allJ
  rw [if_neg (by omega)]
  rfl
/-- The bits of the keys that were seen. -/
def SeenF (M : Nat) (O : List Int) : Prop := M ≤ 18446744073709551615 ∧ ∀ k : Nat, k < 64 → M.testBit k = decide ((k : Int) ∈ O)
theorem seenF_next {M : Nat} {O : List Int} (h : SeenF M O) {k : Nat} (hk : k < 64) : SeenF (M ||| 2 ^ k) (if (k : Int) ∈ O then O else O ++ [(k : Int)]) := by
  refine ⟨?_, fun j hj => ?_⟩
  · have h1 : M < 2 ^ 64 := by have := h.1; omega
    have h2 : 2 ^ k < 2 ^ 64 := Nat.pow_lt_pow_right (by decide) hk
    have := Nat.or_lt_two_pow h1 h2
    omega
  · rw [Nat.testBit_or, h.2 j hj, Nat.testBit_two_pow]
    by_cases e : k = j
    · subst e
      by_cases c : (k : Int) ∈ O <;> simp [c]
    · by_cases c : (k : Int) ∈ O
      · simp [c, e]
      · rw [if_neg c, decide_eq_false e, Bool.or_false]
        refine decide_eq_decide.2 ?_
        rw [List.mem_append, List.mem_singleton]
        exact ⟨fun h => .inl h, fun h => h.resolve_right (by omega)⟩
/-- What holds of the order. -/
structure OrdF (O : List Int) (n : Nat) : Prop where
  hb : ∀ k ∈ O, 0 ≤ k ∧ k ≤ 63
  nd : O.Nodup
  ln : O.length ≤ n
theorem OrdF.next {O : List Int} {n : Nat} (h : OrdF O n) {k : Int} (h0 : 0 ≤ k) (h1 : k ≤ 63) : OrdF (if k ∈ O then O else O ++ [k]) (n + 1) := by
  by_cases c : k ∈ O
  · rw [if_pos c]; exact ⟨h.hb, h.nd, Nat.le_succ_of_le h.ln⟩
  · rw [if_neg c]
    refine ⟨fun y hy => ?_, ?_, by have := h.ln; simp; omega⟩
    · rcases List.mem_append.1 hy with hy | hy
      · exact h.hb y hy
      · simp at hy; omega
    · rw [List.nodup_append]
      refine ⟨h.nd, by simp, fun a ha b hb e => ?_⟩
      simp at hb
      rw [e, hb] at ha
      exact c ha
theorem want_step {C : Nat} {O : List Int} {p : Nat} {k : Int} (h : O[p]? = some k) : wantF C (O.drop p) = if C.testBit k.toNat then k else wantF C (O.drop (p + 1)) := by
  obtain ⟨hi, e⟩ := List.getElem?_eq_some_iff.1 h
  rw [List.drop_eq_getElem_cons hi, e]
  rfl
end Go.Proofs.Ytndpifkpgoeogaa
