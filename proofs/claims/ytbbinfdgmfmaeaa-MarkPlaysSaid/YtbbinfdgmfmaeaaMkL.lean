/- Where a time stands in a list that does not fall; Marks beside a list of the law's own. No condition. -/
import Derived.Test.YtbbinfdgmfmaeaaMkD
import Derived.Test.YtbbinfdgmfmaeaaApp
import Derived.Deep.Upon
namespace Go.Proofs.Ytbbinfdgmfmaeaa
open Go.ChangeShapes Go.WideShapes Go.ChangeAt Go.RowKit
set_option linter.unusedVariables false

/-- How many stand ahead of the first that is not below x. -/
def posM : List Int → Int → Nat
  | [], _ => 0
  | y :: l, x => if y < x then posM l x + 1 else 0
theorem posM_le (x : Int) : ∀ l : List Int, posM l x ≤ l.length
  | [] => Nat.le_refl _
  | y :: l => by
    unfold posM
    split
    · have := posM_le x l; simp; omega
    · simp
theorem posM_lt (x : Int) : ∀ (l : List Int) (j : Nat), j < posM l x → l.getD j 0 < x
  | [], j, h => by simp [posM] at h
  | y :: l, j, h => by
    unfold posM at h
    split at h
    · rename_i hy
      cases j with
      | zero => simpa using hy
      | succ j => simpa using posM_lt x l j (by omega)
    · omega
theorem posM_at (x : Int) : ∀ (l : List Int), posM l x < l.length → ¬ l.getD (posM l x) 0 < x
  | [], h => by simp [posM] at h
  | y :: l, h => by
    unfold posM at h ⊢
    split
    · rename_i hy
      rw [if_pos hy] at h
      simpa using posM_at x l (by simp at h; omega)
    · rename_i hy
      simpa using hy
theorem insM_pos (x : Int) : ∀ (l : List Int), insM l x = l.take (posM l x) ++ x :: l.drop (posM l x)
  | [] => rfl
  | y :: l => by
    unfold insM posM
    split
    · rw [insM_pos x l]; rfl
    · rfl
/-- x is there if it stands behind those below it. -/
theorem mem_pos (x : Int) : ∀ {l : List Int}, Flat l → (x ∈ l ↔ posM l x < l.length ∧ l.getD (posM l x) 0 = x)
  | [], _ => by simp [posM]
  | y :: l, h => by
    unfold posM
    split
    · rename_i hy
      rw [List.mem_cons, mem_pos x h.2]
      have : x ≠ y := by omega
      simp [this]
    · rename_i hy
      constructor
      · intro hm
        rcases List.mem_cons.1 hm with e | hm
        · exact ⟨by simp, by simp [e]⟩
        · have := h.1 x hm
          exact ⟨by simp, by simp; omega⟩
      · rintro ⟨_, e⟩
        have e : y = x := by simpa using e
        exact List.mem_cons.2 (.inl e.symm)
theorem erase_pos (x : Int) : ∀ {l : List Int}, posM l x < l.length → l.getD (posM l x) 0 = x → l.erase x = l.take (posM l x) ++ l.drop (posM l x + 1)
  | [], h, _ => by simp at h
  | y :: l, h, e => by
    by_cases hy : y < x
    · have ep : posM (y :: l) x = posM l x + 1 := by show (if y < x then _ else _) = _; rw [if_pos hy]
      rw [ep] at h e ⊢
      rw [List.erase_cons_tail (by simp; omega), erase_pos x (by simp at h; omega) (by simpa using e)]
      rfl
    · have ep : posM (y :: l) x = 0 := by show (if y < x then _ else _) = _; rw [if_neg hy]
      rw [ep] at e ⊢
      have e : y = x := by simpa using e
      subst e
      simp
theorem u64_mem {l : List Int} (h : ∀ y ∈ l, U64 y) {i : Nat} (hi : i < l.length) : U64 (l.getD i 0) := by
  rw [List.getD_eq_getElem?_getD, List.getElem?_eq_getElem hi]
  exact h _ (List.getElem_mem hi)

/-- Marks that hold l, and a list z of the law's own. -/
structure MkL (W w : World) (m : Nat) (S : Nat → Prop) (l : List Int) (v : Value) (z : List Int) : Prop where
  r : Mk W w m S l
  a : OwnU W.heap.size w v z
  d : ∀ g, v.ownBlock = some g → ¬ S g
section
variable {W w w' : World} {m : Nat} {S S' : Nat → Prop} {l l' : List Int} {v v' : Value} {z z' : List Int}
theorem MkL.start (h : Mk W w m S l) : MkL W w m S l (.slice none 0 0) [] := ⟨h, World.ownsRow_nil _ _ _ _, by simp [Value.ownBlock]⟩
theorem MkL.step (h : MkL W w m S l v z) (hr : Mk W w' m S' l') (kk : VKeep S S' w w') : MkL W w' m S' l' v z :=
  ⟨hr, OwnU.keep h.a kk.1 h.d, fun g hg x => by
    rcases kk.2 g x with y | y
    · exact h.d g hg y
    · have := (OwnU.lt h.a hg).2; omega⟩
theorem MkL.quiet (h : MkL W w m S l v z) (kk : Keep (fun _ => False) w w') : MkL W w' m S l v z := ⟨h.r.quiet kk, OwnU.keep h.a kk (by simp), h.d⟩
theorem MkL.anew (h : MkL W w m S l v z) {T : Nat → Prop} (o : OwnU W.heap.size w' v' z') (kk : Keep T w w') (hT : ∀ g, T g → w.heap.size ≤ g) (hv : ∀ g, v'.ownBlock = some g → w.heap.size ≤ g) : MkL W w' m S l v' z' :=
  ⟨h.r.own kk (fun g hg => by
    have y := hT g hg
    exact ⟨fun x => by have := h.r.lt g x; omega, Nat.le_trans h.r.b.size y⟩), o,
    fun g hg x => by have := hv g hg; have := h.r.lt g x; omega⟩
end
theorem emp_own (W : World) {B : Nat} (hB : B ≤ W.heap.size) : ∃ W', W.alloc (.cells #[] 26) = W' ∧ OwnU B W' (.slice (some ⟨W.heap.size, 0, none⟩) 0 0) [] ∧ Keep (fun _ => False) W W' ∧ W.heap.size < W'.heap.size :=
  ⟨_, rfl, own_empty hB, Keep.alloc (Keep.refl _ _) _, by simp⟩
theorem lit_own (W : World) (o : Int) {B : Nat} (hB : B ≤ W.heap.size) : ∃ W', W.alloc (.cells #[.int .u64 o] 26) = W' ∧ OwnU B W' (.slice (some ⟨W.heap.size, 0, none⟩) 1 1) [o] ∧ Keep (fun _ => False) W W' ∧ W.heap.size < W'.heap.size :=
  ⟨_, rfl, own_lit hB o, Keep.alloc (Keep.refl _ _) _, by simp⟩
theorem OwnU.fits {B g n c : Nat} {w : World} {zs : List Int} (h : OwnU B w (.slice (some ⟨g, 0, none⟩) n c) zs) : n ≤ c := by
  rcases h.shape with ⟨e, _⟩ | ⟨g', c', e, _, _, hc⟩
  · cases e
  · cases e; exact hc
/-- Nothing is appended. -/
theorem step_none {w : World} {ops : Array Oper} {o : Oper} {a : Act} {K : Act → World → Prop} {Q : Exit → Act → World → Prop} {E : Prop} (hgd : o.guard = none) (s x : Operand)
    (ho : o.op = .call { callee := .builtin .append, args := #[s, x], argTypes := #[22, 22] })
    (g n cap : Nat) (hs : a.eval s = .slice (some ⟨g, 0, none⟩) n cap) (hn : n ≤ cap) (hx : a.eval x = .slice none 0 0)
    (h : K (a.put o.dst (.slice (some ⟨g, 0, none⟩) n cap)) w) :
    if Region.wanted o (yielded ops a.tmps) = true then Oper.wp Try.prog o a w K Q else E := by
  obtain ⟨i0, hi0, hz0, hz1, hz2⟩ := info_parts info_push
  have hw : Region.wanted o (yielded ops a.tmps) = true := by simp [Region.wanted, hgd]
  rw [if_pos hw]
  have hr := run_append_nothing (P := Try.prog) w 22 22 o.type 26 i0 Try.underlying22 hi0 (some ⟨g, 0, none⟩) n cap hn (.slice none 0 0) (Src.ofNil w Try.underlying22 0)
  unfold Oper.wp execOp
  simp only [ho, resolve, invoke, builtin, Sem.run_bind, Sem.run_pure, Result.andThen_ok, List.map_toArray, List.map_cons, List.map_nil, hs, hx, hr]
  exact h
end Go.Proofs.Ytbbinfdgmfmaeaa
