/- A Pool of the package and one of the document's own side by side, and a list of words that grows: what each call leaves as it was. -/
import Derived.Test.YtecnlneilgiheaaPoolL
import Derived.Test.YtecnlneilgiheaaPush
import Derived.Test.YtecnlneilgiheaaSame
import Derived.Test.YtecnlneilgiheaaRef3d
import Derived.Test.YtecnlneilgiheaaRef3n
namespace Go.Proofs.Ytecnlneilgiheaa
open Go.ChangeShapes Go.WideShapes Go.ChangeAt Go.RowKit
set_option linter.unusedVariables false

structure Both (W w : World) (p : Nat) (S : Nat → Prop) (sp : St) (pr b1 b2 : Nat) (v3 : Value) (sr : St) (v : Value) (zs : List Int) : Prop where
  hp : PoolAt w p S sp
  hr : RefAt w pr b1 b2 v3 sr
  ow : OwnU W.heap.size w v zs
  gS : ∀ k, S k → W.heap.size ≤ k
  gF : ∀ k, Foot pr b1 b2 v3 k → W.heap.size ≤ k
  dSF : ∀ k, S k → ¬ Foot pr b1 b2 v3 k
  dvS : ∀ g, v.ownBlock = some g → ¬ S g
  dvF : ∀ g, v.ownBlock = some g → ¬ Foot pr b1 b2 v3 g
  bl : Below W.heap.size W w
section
variable {W w w' : World} {p : Nat} {S S' : Nat → Prop} {sp sp' : St} {pr b1 b2 : Nat} {v3 v4 : Value} {sr sr' : St} {v : Value} {zs : List Int}
theorem Both.pstep (h : Both W w p S sp pr b1 b2 v3 sr v zs) (hp : PoolAt w' p S' sp') (k : Keep S w w') (g : ∀ k, S' k → S k ∨ w.heap.size ≤ k) : Both W w' p S' sp' pr b1 b2 v3 sr v zs := by
  have bs := h.bl.size
  exact ⟨hp, h.hr.keep k (fun x hx y => h.dSF x y hx), h.ow.keep k h.dvS, fun x hx => by rcases g x hx with y | y; exact h.gS x y; omega, h.gF,
    fun x hx y => by rcases g x hx with z | z; exact h.dSF x z y; have := h.hr.foot_lt x y; omega, fun x hx y => by rcases g x y with z | z; exact h.dvS x hx z; have := h.ow.lt hx; omega, h.dvF, h.bl.trans (k.below bs h.gS)⟩
theorem Both.rstep (h : Both W w p S sp pr b1 b2 v3 sr v zs) (hr : RefAt w' pr b1 b2 v4 sr') (k : Keep (Foot pr b1 b2 v3) w w') (g : ∀ k, v4.ownBlock = some k → v3.ownBlock = some k ∨ w.heap.size ≤ k) : Both W w' p S sp pr b1 b2 v4 sr' v zs := by
  have bs := h.bl.size
  have gf : ∀ x, Foot pr b1 b2 v4 x → Foot pr b1 b2 v3 x ∨ w.heap.size ≤ x := fun x hx => by
    rcases hx with hx | hx | hx | hx
    · exact .inl (.inl hx)
    · exact .inl (.inr (.inl hx))
    · exact .inl (.inr (.inr (.inl hx)))
    · rcases g x hx with y | y
      · exact .inl (.inr (.inr (.inr y)))
      · exact .inr y
  exact ⟨h.hp.keep k (fun x hx => h.dSF x hx), hr, h.ow.keep k h.dvF, h.gS, fun x hx => by rcases gf x hx with y | y; exact h.gF x y; omega,
    fun x hx y => by rcases gf x y with z | z; exact h.dSF x hx z; have := h.hp.lt x hx; omega, h.dvS, fun x hx y => by rcases gf x y with z | z; exact h.dvF x hx z; have := h.ow.lt hx; omega, h.bl.trans (k.below bs h.gF)⟩
theorem Both.quiet (h : Both W w p S sp pr b1 b2 v3 sr v zs) (k : Keep (fun _ => False) w w') : Both W w' p S sp pr b1 b2 v3 sr v zs :=
  ⟨h.hp.keep k (by simp), h.hr.keep k (by simp), h.ow.keep k (by simp), h.gS, h.gF, h.dSF, h.dvS, h.dvF, h.bl.trans (k.below h.bl.size (by simp))⟩
theorem Both.push (h : Both W w p S sp pr b1 b2 v3 sr v zs) {g c : Nat} {l : Int} (o : OwnU W.heap.size w' (.slice (some ⟨g, 0, none⟩) (zs.length + 1) c) (zs ++ [l])) (k : Keep (fun j => v.ownBlock = some j) w w') (hg : v.ownBlock = some g ∨ w.heap.size ≤ g) : Both W w' p S sp pr b1 b2 v3 sr (.slice (some ⟨g, 0, none⟩) (zs.length + 1) c) (zs ++ [l]) := by
  have bs := h.bl.size
  refine ⟨h.hp.keep k (fun x hx y => h.dvS x y hx), h.hr.keep k (fun x hx y => h.dvF x y hx), o, h.gS, h.gF, h.dSF, fun x hx y => ?_, fun x hx y => ?_, h.bl.trans (k.below bs (fun x hx => (h.ow.lt hx).1))⟩
  · cases hx
    rcases hg with z | z
    · exact h.dvS _ z y
    · have : g < w.heap.size := h.hp.lt _ y
      omega
  · cases hx
    rcases hg with z | z
    · exact h.dvF _ z y
    · have : g < w.heap.size := h.hr.foot_lt _ y
      omega
end
/-- A slice of the call's own, written out but for where it lies. -/
theorem OwnU.out {B : Nat} {w : World} {v : Value} {zs : List Int} (h : OwnU B w v zs) : ∃ A c, v = .slice A zs.length c ∧ (A = none → zs = []) ∧ ∀ ad, A = some ad → ∃ g, ad = ⟨g, 0, none⟩ := by
  obtain ⟨h1, h2⟩ := id h
  rcases h2 with ⟨h3, h4⟩ | ⟨g, c, cur, hv, _⟩
  · exact ⟨none, 0, by rw [h4]; exact h3, fun _ => List.length_eq_zero_iff.1 h4, fun ad h => by cases h⟩
  · exact ⟨some ⟨g, 0, none⟩, c, hv, fun h => (by cases h), fun ad h => by cases h; exact ⟨g, rfl⟩⟩
theorem same_nil (A1 A2 : Option Addr) (c1 c2 : Nat) (w : World) : Calls Try.prog 23 #[.slice A1 0 c1, .slice A2 0 c2] w (SamePost w) := by
  go_enter Try.func23, Try.ntmps23
  go_wp2
  go_loopw [5] (fun i wr => i = .int .i64 0 ∧ wr = w) (fun _ _ => 0)
  case atStart => exact ⟨rfl, rfl⟩
  case round =>
    obtain ⟨rfl, rfl⟩ := hrel
    go_wp2
    go_ret
    exact ⟨rfl, 0, rfl⟩
theorem same_own {B B2 : Nat} {w : World} {v1 v2 : Value} {zs : List Int} (h1 : OwnU B w v1 zs) (h2 : OwnU B2 w v2 zs) (hl : zs.length ≤ 100000) : Calls Try.prog 23 #[v1, v2] w (SamePost w) := by
  obtain ⟨A1, c1, e1, n1, s1⟩ := h1.out
  obtain ⟨A2, c2, e2, n2, s2⟩ := h2.out
  subst e1; subst e2
  by_cases h0 : zs = []
  · subst h0
    exact same_nil A1 A2 c1 c2 w
  · cases A1 with
    | none => exact absurd (n1 rfl) h0
    | some a1 =>
      cases A2 with
      | none => exact absurd (n2 rfl) h0
      | some a2 =>
        obtain ⟨g1, rfl⟩ := s1 _ rfl
        obtain ⟨g2, rfl⟩ := s2 _ rfl
        exact same_yes g1 g2 0 0 c1 c2 zs w hl (fun i hi => by rw [Nat.zero_add]; exact h1.cell i hi) (fun i hi => by rw [Nat.zero_add]; exact h2.cell i hi)
theorem used_eq {s : St} (ok : Ok s) : cnt s.taken = ((allTo s s.tags.length).length : Int) := by
  rw [allTo_cnt s _ (by rw [ok.tl]; exact Nat.le_refl _), ← ok.tl, List.take_length]
theorem allTo_le {s : St} (ok : Ok s) : (allTo s s.tags.length).length ≤ 4096 := Nat.le_trans (allTo_len s _) ok.n1
end Go.Proofs.Ytecnlneilgiheaa
