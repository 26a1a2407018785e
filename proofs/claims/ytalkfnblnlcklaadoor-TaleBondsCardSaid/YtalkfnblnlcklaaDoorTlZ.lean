/- 'append(append([]api.Event{}, l...), e)' of a law. No condition. -/
import Derived.Test.YtalkfnblnlcklaaDoorTlY
namespace Go.Proofs.YtalkfnblnlcklaaDoor
open Go.ChangeShapes Go.WideShapes Go.ChangeAt Go.RowKit
set_option linter.unusedVariables false
set_option linter.unusedSimpArgs false
section
variable {w0 w w' y : World} {N C c n n1 : Nat} {A : Option Addr} {es : List EvI} {clk : Int}
theorem wp_copy {ops : Array Oper} {rest : List Oper} {o : Oper} {a : Act} {Q : Exit → Act → World → Prop} (hgd : o.guard = none) (s x : Operand)
    (ho : o.op = .call { callee := .builtin .append, args := #[s, x], argTypes := #[31, 31] })
    (H : BL w0 w N C A c es clk) (hn : es.length = n) (hl : n ≤ 1000) (hs : a.eval s = .slice (some ⟨w.heap.size, 0, none⟩) 0 0) (hx : a.eval x = .slice A n c)
    (h : ∀ A' c' w', OwnE w' (.slice A' n c') es → (∀ g, (Value.slice A' n c').ownBlock = some g → w0.heap.size ≤ g) → Keep (fun _ => False) w0 w' → wpList Tryd.prog ops Q rest (a.put o.dst (.slice A' n c')) w') :
    wpList Tryd.prog ops Q (o :: rest) a (w.alloc (.cells #[] 30)) := by
  subst hn
  have k0 : Keep (fun _ => False) w (w.alloc (.cells #[] 30)) := (Keep.refl _ _).alloc _
  have s0 := k0.size
  have b0 := H.k.size
  have emp : OwnB 12 evF0 30 w0.heap.size (w.alloc (.cells #[] 30)) (.slice (some ⟨w.heap.size, 0, none⟩) 0 0) [] :=
    ⟨rfl, .inr ⟨w.heap.size, 0, #[], rfl, b0, heap_alloc_new w _, Nat.le_refl _, by decide, rfl, rfl⟩⟩
  refine wp_appM Tryd.underlying31 info_ev rfl (by decide) (by decide) evF0_len (fun x _ => evF0_one x) hgd s x ho (B := w0.heap.size) (by omega) hs emp hx (OwnM.lies evF0_len (OwnM.keep H.ow k0 fun _ _ => id)) (by simp only [List.length_nil]; omega) ?_
  intro v' w' o1 k1
  rw [List.nil_append] at o1
  have kk : Keep (fun _ => False) w0 w' := (H.k.trans k0).older k1 fun j hj => by cases hj; omega
  rcases OwnM.form (OwnB.ownM o1) with ⟨rfl, e⟩ | ⟨g, c', rfl, _⟩
  · subst e
    exact h _ _ _ (OwnB.ownM o1) (fun g hg => by cases hg) kk
  · exact h _ _ _ (OwnB.ownM o1) (fun g' hg => (OwnB.lt o1 hg).1) kk
theorem wp_more {ops : Array Oper} {rest : List Oper} {o : Oper} {a : Act} {Q : Exit → Act → World → Prop} (hgd : o.guard = none) (s x : Operand)
    (ho : o.op = .call { callee := .builtin .append, args := #[s, x], argTypes := #[31, 31] })
    (ow : OwnE w (.slice A n c) es) (hn : es.length = n) (h1 : n + 1 = n1) (hl : n ≤ 1000) (hB : ∀ g, (Value.slice A n c).ownBlock = some g → w0.heap.size ≤ g) (kk : Keep (fun _ => False) w0 w) (e : EvI)
    (hs : a.eval s = .slice A n c) (hx : a.eval x = .slice (some ⟨w.heap.size, 0, none⟩) 1 1)
    (h : ∀ g c' w', OwnE w' (.slice (some ⟨g, 0, none⟩) n1 c') (es ++ [e]) → Keep (fun _ => False) w0 w' → wpList Tryd.prog ops Q rest (a.put o.dst (.slice (some ⟨g, 0, none⟩) n1 c')) w') :
    wpList Tryd.prog ops Q (o :: rest) a (w.alloc (.cells (evF0 e).toArray 30)) := by
  subst h1
  subst hn
  refine wp_pushM Tryd.underlying31 info_ev rfl (by decide) (by decide) evF0_len evF0_one hgd s x ho _ es hs ow e hx (by omega) ?_
  intro g c' w' o1 k1 _
  exact h g c' w' o1 (kk.older k1 fun j hj => hB j hj)
theorem own_ok (ow : OwnE w (.slice A n c) es) (hn : es.length = n) (h : fineB es = true) (a : Int) (ha : okAt es = a) : Calls Tryd.prog 7 #[.slice A n c] w fun e w' => e = .returned (.tuple #[.bool (decide (a < 0)), .int .i64 a]) ∧ Keep (fun _ => False) w w' := ok_any (own_evs0 ow (fine_p h)) (fine_n h) a ha
end
end Go.Proofs.YtalkfnblnlcklaaDoor
