/- For CursorPlays: a Tower with its Cursors, the document's own Tower, and an op, each in blocks of its own. No condition but those of the Tower. -/
import Derived.Test.YtopnhkogapidhaaCuD
import Derived.Test.YtopnhkogapidhaaRefW
namespace Go.Proofs.Ytopnhkogapidhaa
open Go.ChangeShapes Go.WideShapes Go.ChangeAt Go.RowKit
set_option linter.unusedVariables false

structure CP (W w : World) (t : Nat) (S : Nat → Prop) (th : Nat → Nat) (m : Nat → Option CS) (b : Nat) (th2 : Nat → Nat) (ob : Nat) (cs : List Value) : Prop where
  r : Cu W w t S th m
  q : RTw w b th2
  nb : ¬ S b
  gb : W.heap.size ≤ b
  co : ∀ i u, cs[i]? = some u → w.cell? ⟨ob, i, none⟩ = some u
  no : cs = [] ∨ (¬ S ob ∧ ob ≠ b ∧ ob < w.heap.size)
section
variable {W w w' : World} {t b ob ob' : Nat} {S S' : Nat → Prop} {m m' : Nat → Option CS} {th th' th2 th2' : Nat → Nat} {cs cs' : List Value}
theorem CP.tstep (h : CP W w t S th m b th2 ob cs) (hr : Cu W w' t S' th' m') (kk : VKeep S S' w w') : CP W w' t S' th' m' b th2 ob cs :=
  ⟨hr, h.q.keep kk.1 h.nb, fun x => by rcases kk.2 _ x with y | y; exact h.nb y; have := h.q.t.lt; omega, h.gb, fun i u hu => by
    rcases h.no with e | ⟨e, _, _⟩
    · rw [e] at hu; simp at hu
    · exact kk.1.cell (h.co i u hu) e, h.no.imp_right (fun e => ⟨fun x => by rcases kk.2 _ x with y | y; exact e.1 y; have := e.2.2; omega, e.2.1, Nat.lt_of_lt_of_le e.2.2 kk.1.size⟩)⟩
theorem CP.qstep (h : CP W w t S th m b th2 ob cs) (hq : RTw w' b th2') (kk : Keep (fun j => j = b) w w') : CP W w' t S th m b th2' ob cs :=
  ⟨h.r.own kk (fun g hg => by have hg : g = b := hg; subst hg; exact ⟨h.nb, h.gb⟩), hq, h.nb, h.gb, fun i u hu => by
    rcases h.no with e | ⟨_, e, _⟩
    · rw [e] at hu; simp at hu
    · exact kk.cell (h.co i u hu) e, h.no.imp_right (fun e => ⟨e.1, e.2.1, Nat.lt_of_lt_of_le e.2.2 kk.size⟩)⟩
theorem CP.quiet (h : CP W w t S th m b th2 ob cs) (kk : Keep (fun _ => False) w w') : CP W w' t S th m b th2 ob cs :=
  ⟨h.r.quiet kk, h.q.keep kk (by simp), h.nb, h.gb, fun i u hu => kk.cell (h.co i u hu) (by simp), h.no.imp_right (fun e => ⟨e.1, e.2.1, Nat.lt_of_lt_of_le e.2.2 kk.size⟩)⟩
theorem CP.op (h : CP W w t S th m b th2 ob cs) (kk : Keep (fun _ => False) w w') (hb : w.heap.size ≤ ob') (hb2 : ob' < w'.heap.size) (hc : ∀ i u, cs'[i]? = some u → w'.cell? ⟨ob', i, none⟩ = some u) : CP W w' t S th m b th2 ob' cs' :=
  have q := h.quiet kk
  ⟨q.r, q.q, q.nb, q.gb, hc, .inr ⟨fun x => by have := h.r.lt _ x; omega, by have := h.q.t.lt; omega, hb2⟩⟩
theorem CP.noop (h : CP W w t S th m b th2 ob cs) : CP W w t S th m b th2 ob [] := ⟨h.r, h.q, h.nb, h.gb, fun i u hu => by simp at hu, .inl rfl⟩
end
end Go.Proofs.Ytopnhkogapidhaa
