/- Marks, as layer 17's statements walk with them: contracts of package mark, each out of XMkF, G, H, N; condition: at most 1000 times. -/
import Derived.Test.YtbbinfdgmfmaeaaMkN
namespace Go.Proofs.Ytbbinfdgmfmaeaa
open Go.ChangeShapes Go.WideShapes Go.ChangeAt Go.RowKit
set_option linter.unusedVariables false

/-- Since W Marks m have been made, in new blocks S; they hold l; nothing of W has turned. -/
structure Mk (W w : World) (m : Nat) (S : Nat → Prop) (l : List Int) : Prop where
  fl : Flat l
  g : ∀ k, S k → W.heap.size ≤ k
  lt : ∀ k, S k → k < w.heap.size
  b : Below W.heap.size W w
  o : ∃ q v ts, MkAt w m q v ts ∧ spread ts = l ∧ (∀ x ∈ ts, 1 ≤ x.n) ∧ ∀ k, S k ↔ FootM m q v ts k
section
variable {W w w' : World} {m : Nat} {S S' T : Nat → Prop} {l l' : List Int}
theorem Mk.own (h : Mk W w m S l) {X : Nat → Prop} (kk : Keep X w w') (hX : ∀ g, X g → ¬ S g ∧ W.heap.size ≤ g) : Mk W w' m S l := by
  obtain ⟨q, v, ts, h1, h2, h3, h4⟩ := h.o
  exact ⟨h.fl, h.g, fun x hx => Nat.lt_of_lt_of_le (h.lt x hx) kk.size, h.b.trans (kk.below h.b.size (fun g hg => (hX g hg).2)), q, v, ts, h1.keep kk (fun g hg y => (hX g y).1 ((h4 g).2 hg)), h2, h3, h4⟩
theorem Mk.quiet (h : Mk W w m S l) (kk : Keep (fun _ => False) w w') : Mk W w' m S l := h.own kk (fun g hg => hg.elim)
theorem Mk.went (h : Mk W w m S l) {q : Nat} {v : Value} {ts : List Ta} (h4 : ∀ k, S k ↔ FootM m q v ts k) (hw : Went w m q v ts l' w') : ∃ S', Mk W w' m S' l' ∧ VKeep S S' w w' := by
  obtain ⟨q', v', ts', a1, rfl, a3, a4, a5⟩ := hw
  have k4 : Keep S w w' := a4.mono (fun k hk => (h4 k).2 hk)
  have sz := h.b.size
  refine ⟨FootM m q' v' ts', ⟨spread_flat a1.up, fun k hk => ?_, a1.lt, h.b.trans (k4.below sz h.g), q', v', ts', a1, rfl, a3, fun k => Iff.rfl⟩, k4, fun k hk => ?_⟩
  · rcases a5 k hk with a | a
    · exact h.g k ((h4 k).2 a)
    · omega
  · rcases a5 k hk with a | a
    · exact .inl ((h4 k).2 a)
    · exact .inr a
theorem mk_new (w : World) : Calls Try.prog 7 #[] w fun e w' => ∃ m S, e = .returned (.pointer (some ⟨m, 0, none⟩)) ∧ Mk w w' m S [] := by
  refine (marks_new w).mono ?_
  rintro e w' ⟨m, q, v, rfl, h, k, hg⟩
  exact ⟨m, FootM m q v [], rfl, trivial, hg, h.lt, k.below (Nat.le_refl _) (fun _ e => e.elim), q, v, [], h, rfl, by simp, fun k => Iff.rfl⟩
theorem Mk.ok (h : Mk W w m S l) (hl : l.length ≤ 1000) : ∃ q v ts, MkAt w m q v ts ∧ spread ts = l ∧ (∀ x ∈ ts, 1 ≤ x.n ∧ x.n ≤ 10000) ∧ (∀ x ∈ ts, 1 ≤ x.n) ∧ ts.length ≤ 10000 ∧ ∀ k, S k ↔ FootM m q v ts k := by
  obtain ⟨q, v, ts, h1, h2, h3, h4⟩ := h.o
  have := spread_len_le h3
  rw [h2] at this
  exact ⟨q, v, ts, h1, h2, fun x hx => ⟨h3 x hx, by have := spread_n_le hx; rw [h2] at this; omega⟩, h3, by omega, h4⟩
theorem mk_enter (h : Mk W w m S l) (hl : l.length ≤ 1000) (x : Int) (hx : U64 x) :
    Calls Try.prog 8 #[.pointer (some ⟨m, 0, none⟩), .int .u64 x] w fun e w' => e = .returned (.tuple #[]) ∧ ∃ S', Mk W w' m S' (insM l x) ∧ VKeep S S' w w' := by
  obtain ⟨q, v, ts, h1, rfl, h3, _, h5, h4⟩ := h.ok hl
  refine (enter_any h1 h5 h3 x).mono ?_
  rintro e w' ⟨rfl, hw⟩
  exact ⟨rfl, h.went h4 hw⟩
theorem mk_leave (h : Mk W w m S l) (hl : l.length ≤ 1000) (x : Int) (hx : U64 x) (b : Bool) (hb : decide (x ∈ l) = b) :
    Calls Try.prog 10 #[.pointer (some ⟨m, 0, none⟩), .int .u64 x] w fun e w' => e = .returned (.bool b) ∧ ∃ S', Mk W w' m S' (l.erase x) ∧ VKeep S S' w w' := by
  obtain ⟨q, v, ts, h1, rfl, h3, _, h5, h4⟩ := h.ok hl
  refine (leave_any h1 h5 h3 x b hb).mono ?_
  rintro e w' ⟨rfl, hw⟩
  exact ⟨rfl, h.went h4 hw⟩
theorem mk_low (h : Mk W w m S l) (hl : l.length ≤ 1000) (now : Int) (hn : U64 now) (y : Int) (hy : lowM l now = y) :
    Calls Try.prog 9 #[.pointer (some ⟨m, 0, none⟩), .int .u64 now] w fun e w' => e = .returned (.int .u64 y) ∧ ∃ S', Mk W w' m S' l ∧ VKeep S S' w w' := by
  obtain ⟨q, v, ts, h1, rfl, h3, h6, h5, h4⟩ := h.ok hl
  refine (low_any h1 h6 now y hy).mono ?_
  rintro e w' ⟨rfl, k⟩
  exact ⟨rfl, S, h.quiet k, k.mono (fun _ e => e.elim), fun _ hk => .inl hk⟩
theorem mk_len (h : Mk W w m S l) (hl : l.length ≤ 1000) (n : Int) (hn : (l.length : Int) = n) :
    Calls Try.prog 11 #[.pointer (some ⟨m, 0, none⟩)] w fun e w' => e = .returned (.int .i64 n) ∧ ∃ S', Mk W w' m S' l ∧ VKeep S S' w w' := by
  obtain ⟨q, v, ts, h1, rfl, h3, h6, h5, h4⟩ := h.ok hl
  refine (len_any h1 h6 (by omega) n hn).mono ?_
  rintro e w' ⟨rfl, rfl⟩
  exact ⟨rfl, S, h, Keep.refl _ _, fun _ hk => .inl hk⟩
theorem mk_all (h : Mk W w m S l) (hl : l.length ≤ 1000) :
    Calls Try.prog 12 #[.pointer (some ⟨m, 0, none⟩)] w fun e w' => ∃ v S', e = .returned v ∧ OwnU w.heap.size w' v l ∧ (∀ g, v.ownBlock = some g → ¬ S' g) ∧ Mk W w' m S' l ∧ VKeep S S' w w' := by
  obtain ⟨q, v, ts, h1, rfl, h3, h6, h5, h4⟩ := h.ok hl
  refine (all_any h1 h6 (by omega)).mono ?_
  rintro e w' ⟨u, rfl, o, k⟩
  exact ⟨u, S, rfl, o, fun g hg hs => by have := (OwnU.lt o hg).1; have := h.lt g hs; omega, h.quiet k, k.mono (fun _ e => e.elim), fun _ hk => .inl hk⟩
theorem garb_any (b e low : Int) (hb : U64 b) (he : U64 e) (hl : U64 low) (r : Bool) (hr : garbI e low = r) (w : World) :
    Calls Try.prog 14 #[.int .u64 b, .int .u64 e, .int .u64 low] w fun y w' => y = .returned (.bool r) ∧ Below w.heap.size w w' := by
  refine (garbw_any b e low r hr w).mono ?_
  rintro y w' ⟨rfl, rfl⟩
  exact ⟨rfl, Below.refl _ _⟩
end
theorem awake17_any (w : World) : Calls Try.prog 13 #[] w fun e w' => e = .returned (.bool true) ∧ Below w.heap.size w w' := by
  go_enter Try.func13, Try.ntmps13
  go_wp2_with fail
  refine (mk_new w).mono ?_
  rintro e w1 ⟨m, S1, rfl, h1⟩
  go_wp2_with fail
  refine (mk_enter h1 (by simp) 5 ⟨by omega, by omega⟩).mono ?_
  rintro e w2 ⟨rfl, S2, h2, k2⟩
  go_wp2_with fail
  refine (mk_enter h2 (by decide) 3 ⟨by omega, by omega⟩).mono ?_
  rintro e w3 ⟨rfl, S3, h3, k3⟩
  have h3 : Mk w w3 m S3 [3, 5] := h3
  go_wp2_with fail
  refine (mk_low h3 (by decide) 9 ⟨by omega, by omega⟩ 3 rfl).mono ?_
  rintro e w4 ⟨rfl, S4, h4, k4⟩
  go_wp2_with fail
  refine (mk_len h4 (by decide) 2 rfl).mono ?_
  rintro e w5 ⟨rfl, S5, h5, k5⟩
  go_wp2_with fail
  refine (mk_leave h5 (by decide) 3 ⟨by omega, by omega⟩ true (by decide)).mono ?_
  rintro e w6 ⟨rfl, S6, h6, k6⟩
  have h6 : Mk w w6 m S6 [5] := h6
  go_wp2_with fail
  refine (mk_low h6 (by decide) 9 ⟨by omega, by omega⟩ 5 rfl).mono ?_
  rintro e w7 ⟨rfl, S7, h7, k7⟩
  go_wp2_with fail
  refine (mk_low h7 (by decide) 4 ⟨by omega, by omega⟩ 4 rfl).mono ?_
  rintro e w8 ⟨rfl, S8, h8, k8⟩
  go_wp2_with fail
  refine (garb_any 1 3 3 ⟨by omega, by omega⟩ ⟨by omega, by omega⟩ ⟨by omega, by omega⟩ true (by decide) _).mono ?_
  rintro e w9 ⟨rfl, b9⟩
  go_wp2
  go_ret
  exact ⟨rfl, h8.b.trans (b9.mono h8.b.size)⟩
end Go.Proofs.Ytbbinfdgmfmaeaa
