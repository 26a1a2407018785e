/- The document's own Bonds: Open. Conditions: as XRfB's, and fewer than 60 ids. -/
import Derived.Test.YtjobphjpfknfeaaDoorRfE
namespace Go.Proofs.YtjobphjpfknfeaaDoor
open Go.ChangeShapes Go.WideShapes Go.ChangeAt Go.RowKit
set_option linter.unusedVariables false
open Classical

/-- Four rows behind a struct, whatever they hold. -/
structure RB0 (w : World) (r : Nat) (vs : Nat → Value) (rows : Nat → List Int) : Prop where
  cell : ∀ i, i < 4 → w.cell? ⟨r, i, none⟩ = some (vs i)
  free : ∀ i, w.frozen? ⟨r, i, none⟩ = false
  lt : r < w.heap.size
  own : ∀ i, i < 4 → OwnN (r + 1) w (vs i) (rows i)
  ne : ∀ i j g, i < 4 → j < 4 → (vs i).ownBlock = some g → (vs j).ownBlock = some g → i = j
section
variable {w w' w9 : World} {r : Nat} {vs : Nat → Value} {s s' : BdS} {id tt v c l : Int} {rows : Nat → List Int} {u9 : Value}
theorem RB.raw (h : RB w r vs s) : RB0 w r vs (rowB s) := ⟨h.cell, h.free, h.lt, h.own, h.ne⟩
theorem RB0.as (h : RB0 w r vs rows) (e : ∀ i, i < 4 → rows i = rowB s i) (h1 : (s.ids.map Prod.fst).Nodup) (h2 : s.ids.length ≤ 60 ∧ s.ed.length ≤ 60) : RB w r vs s :=
  ⟨h.cell, h.free, h.lt, fun i hi => by rw [← e i hi]; exact h.own i hi, h.ne, h1, h2⟩
def vset (vs : Nat → Value) (i : Nat) (u : Value) (j : Nat) : Value := if j = i then u else vs j
def rpush (rows : Nat → List Int) (i : Nat) (l : Int) (j : Nat) : List Int := if j = i then rows i ++ [l] else rows j
theorem RB0.push (h : RB0 w r vs rows) {i : Nat} (hi : i < 4) (k9 : Keep (fun j => (vs i).ownBlock = some j) w w9) (o9 : OwnN (r + 1) w9 u9 (rows i ++ [l])) (hg : ∀ g, u9.ownBlock = some g → (vs i).ownBlock = some g ∨ w.heap.size ≤ g) :
    RB0 (w9.setCell ⟨r, i, none⟩ u9) r (vset vs i u9) (rpush rows i l) ∧ VKeep (RFt r vs) (RFt r (vset vs i u9)) w (w9.setCell ⟨r, i, none⟩ u9) := by
  have nr : ∀ j, j < 4 → (vs j).ownBlock ≠ some r := fun j hj e => by have := (OwnN.lt (h.own j hj) e).1; omega
  have nu : u9.ownBlock ≠ some r := fun e => by have := (OwnN.lt o9 e).1; omega
  have lt9 := Nat.lt_of_lt_of_le h.lt k9.size
  have c9 : ∀ j, j < 4 → w9.cell? ⟨r, j, none⟩ = some (vs j) := fun j hj => k9.cell (h.cell j hj) (nr i hi)
  have kS : Keep (fun q => q = r) w9 (w9.setCell ⟨r, i, none⟩ u9) := (Keep.refl _ _).setCell (S := fun q => q = r) rfl _
  refine ⟨⟨fun j hj => ?_, fun j => ?_, Nat.lt_of_lt_of_le lt9 kS.size, fun j hj => ?_, fun a b g ha hb ea eb => ?_⟩, ?_, ?_⟩
  · unfold vset
    by_cases e : j = i
    · subst e
      rw [if_pos rfl, World.cell?_setCell_same _ _ _ (c9 j hj)]
    · rw [if_neg e, World.cell?_setCell_other _ _ _ _ (by simp <;> omega), c9 j hj]
  · have := (k9.frozen (a := ⟨r, j, none⟩) h.lt (nr i hi)).trans (h.free j)
    simpa using this
  · unfold vset rpush
    by_cases e : j = i
    · subst e
      rw [if_pos rfl, if_pos rfl]
      exact OwnN.keep o9 kS fun g e1 e2 => nu (e2 ▸ e1)
    · rw [if_neg e, if_neg e]
      exact OwnN.keep (OwnN.keep (h.own j hj) k9 fun g e1 e2 => e (h.ne j i g hj hi e1 e2)) kS fun g e1 e2 => nr j hj (e2 ▸ e1)
  · have old : ∀ j, j < 4 → j ≠ i → ∀ g, (vs j).ownBlock = some g → u9.ownBlock = some g → False := fun j hj hn g e1 e2 => by
      rcases hg g e2 with q | q
      · exact hn (h.ne j i g hj hi e1 q)
      · have := (OwnN.lt (h.own j hj) e1).2; omega
    unfold vset at ea eb
    by_cases e1 : a = i
    · rw [if_pos e1] at ea
      by_cases e2 : b = i
      · exact e1.trans e2.symm
      · rw [if_neg e2] at eb
        exact (old b hb e2 g eb ea).elim
    · rw [if_neg e1] at ea
      by_cases e2 : b = i
      · rw [if_pos e2] at eb
        exact (old a ha e1 g ea eb).elim
      · rw [if_neg e2] at eb
        exact h.ne a b g ha hb ea eb
  · exact (k9.mono (fun q e => .inr ⟨i, hi, e⟩)).trans (kS.mono (fun q e => .inl e))
  · rintro g (e | ⟨j, hj, e⟩)
    · exact .inl (.inl e)
    · unfold vset at e
      by_cases q : j = i
      · rw [if_pos q] at e
        rcases hg g e with z | z
        · exact .inl (.inr ⟨i, hi, z⟩)
        · exact .inr z
      · rw [if_neg q] at e
        exact .inl (.inr ⟨j, hj, e⟩)
theorem VKeep.then {S T U : Nat → Prop} {a b c : World} (h : VKeep S T a b) (k : VKeep T U b c) : VKeep S U a c := by
  refine ⟨⟨k.1.os.trans h.1.os, k.1.tape.trans h.1.tape, k.1.output.trans h.1.output, Nat.le_trans h.1.size k.1.size, fun j hj hn => ?_⟩, fun g hg => ?_⟩
  · rw [k.1.block j (Nat.lt_of_lt_of_le hj h.1.size) (fun q => (h.2 j q).elim hn (by omega)), h.1.block j hj hn]
  · rcases k.2 g hg with q | q
    · exact h.2 g q
    · exact .inr (Nat.le_trans h.1.size q)
theorem VKeep.quiet {S : Nat → Prop} {a b : World} (k : Keep (fun _ => False) a b) : VKeep S S a b := ⟨k.mono (fun _ q => q.elim), fun _ q => .inl q⟩
theorem open_rows (hs : s' = { s with ids := s.ids ++ [(id, 1)] }) : ∀ i, i < 4 → rpush (rpush (rowB s) 0 id) 1 1 i = rowB s' i := by
  subst hs
  intro i hi
  match i, hi with
  | 0, _ => simp [rpush, rowB]
  | 1, _ => simp [rpush, rowB]
  | 2, _ => simp [rpush, rowB]
  | 3, _ => simp [rpush, rowB]
set_option maxRecDepth 100000 in
set_option maxHeartbeats 4000000 in
theorem ropen_any (h : RB w r vs s) (room : s.ids.length + 1 ≤ 60) (hs : s.open id = (c, s')) : Calls Tryd.prog 19 #[.pointer (some ⟨r, 0, .none⟩), .int .i64 id] w fun e w' => e = .returned (.int .i64 c) ∧ ∃ vs', RB w' r vs' s' ∧ VKeep (RFt r vs) (RFt r vs') w w' := by
  have same : ∃ vs', RB w r vs' s ∧ VKeep (RFt r vs) (RFt r vs') w w := ⟨vs, h, VKeep.quiet (Keep.refl _ _)⟩
  have ra := rat_any (id := id) h
  obtain ⟨A0, c0, d0, v0, hr0⟩ := h.row 0 (by omega)
  obtain ⟨A1, c1, d1, v1, _⟩ := h.row 1 (by omega)
  have fr := h.free
  have lt := h.lt
  have o0 := h.own 0 (by omega)
  have l0 : (rowB s 0).length = s.ids.length := row_len0
  obtain ⟨n, hn⟩ : ∃ n, (rowB s 0).length = n := ⟨_, rfl⟩
  obtain ⟨n1, hn1⟩ : ∃ n1, (rowB s 1).length = n1 := ⟨_, rfl⟩
  rw [hn] at d0 l0 v0
  rw [hn1] at d1 v1
  rw [v0] at o0
  have nn : n ≤ 60 := by omega
  clear l0
  unfold BdS.open at hs
  by_cases h1 : id < 1
  · rw [if_pos h1] at hs
    obtain ⟨rfl, rfl⟩ : 1 = c ∧ s = s' := by simpa using hs
    have same := Lib.hid same
    clear h hr0 ra hs
    go_enter Tryd.func19, Tryd.ntmps19
    go_wp2_with fail
    go_ret
    exact ⟨rfl, same.out⟩
  · rw [if_neg h1] at hs
    by_cases h2 : s.has id
    · rw [if_pos h2] at hs
      obtain ⟨rfl, rfl⟩ : 12 = c ∧ s = s' := by simpa using hs
      have same := Lib.hid same
      have H2 := Lib.hid h2
      clear h hr0 hs h2
      go_enter Tryd.func19, Tryd.ntmps19
      go_wp2_with fail
      refine ra.mono ?_
      rintro e w1 ⟨rfl, a, rfl, ⟨_, hq⟩ | ⟨i, rfl, _, _⟩⟩
      · exact absurd H2.out hq
      · have p0 : (0 : Int) ≤ (i : Int) := by omega
        clear ra
        go_wp2_with fail
        go_ret
        exact ⟨rfl, same.out⟩
    · rw [if_neg h2, if_neg (by omega)] at hs
      obtain ⟨rfl, hs2⟩ := Prod.mk.inj hs
      have RW := open_rows (s := s) hs2.symm
      have ND : (s'.ids.map Prod.fst).Nodup := by
        rw [← hs2]
        show ((s.ids ++ [(id, 1)]).map Prod.fst).Nodup
        rw [List.map_append, List.nodup_append]
        exact ⟨h.one, by simp, fun a ha b hb => by
          have hb : b = id := by simpa using hb
          subst hb
          exact fun e => h2 (e ▸ ha)⟩
      have FW : s'.ids.length ≤ 60 ∧ s'.ed.length ≤ 60 := by
        rw [← hs2]
        exact ⟨by simp; omega, h.few.2⟩
      have RW := Lib.hid RW
      have ND := Lib.hid ND
      have FW := Lib.hid FW
      have HR := Lib.hid h.raw
      have H2 := Lib.hid h2
      have L0 := Lib.hid hn
      have L1 := Lib.hid hn1
      have V0 := Lib.hid v0
      clear h hr0 hs hs2 h2 same
      go_enter Tryd.func19, Tryd.ntmps19
      go_wp2_with fail
      refine ra.mono ?_
      rintro e w1 ⟨rfl, a, rfl, ⟨rfl, _⟩ | ⟨i, rfl, hi, ei⟩⟩
      · clear ra
        go_wp2_with (with_reducible refine wp_stop 27 rfl ?_)
        intro _
        refine wp_pushN rfl (.tmp 24) (.tmp 26) rfl (r + 1) lt (.slice A0 n c0) (rowB s 0) rfl o0 id rfl (by rw [L0.out]; omega) ?_
        intro g9 c9 y9 o9 k9 hg9
        rw [← V0.out] at k9 hg9
        obtain ⟨P1, K1⟩ := HR.out.push (i := 0) (by omega) k9 o9 (fun g e => by
          have e : g9 = g := by simpa [Value.ownBlock] using e
          exact e ▸ hg9)
        have f9 : ∀ i, y9.frozen? ⟨r, i, none⟩ = false := fun i => by simpa using P1.free i
        have e9 := k9.cell (HR.out.cell 0 (by omega)) (fun e => by have := (OwnN.lt (HR.out.own 0 (by omega)) (g := r) e).1; omega)
        rw [V0.out] at e9
        rw [L0.out] at P1 K1 ⊢
        have P1 := Lib.hid P1
        have K1 := Lib.hid K1
        clear o9 k9 hg9 d0 d1 fr lt o0
        go_upto_region 8 with fail
        generalize y9.setCell ⟨r, 0, none⟩ (.slice (some ⟨g9, 0, none⟩) (n + 1) c9) = y2 at P1 K1 ⊢
        have d1 : y2.cell? ⟨r, 1, none⟩ = some (.slice A1 n1 c1) := by
          have := P1.out.cell 1 (by omega)
          rw [show vset vs 0 (.slice (some ⟨g9, 0, none⟩) (n + 1) c9) 1 = vs 1 from rfl, v1] at this
          exact this
        have o1 : OwnN (r + 1) y2 (.slice A1 n1 c1) (rowB s 1) := by
          have := P1.out.own 1 (by omega)
          rw [show vset vs 0 (.slice (some ⟨g9, 0, none⟩) (n + 1) c9) 1 = vs 1 from rfl, v1] at this
          exact this
        have lt := P1.out.lt
        have fr := P1.out.free
        have V1 := Lib.hid v1
        clear f9 e9 v1 v0
        go_wp2_with (with_reducible refine wp_stop 36 rfl ?_)
        intro _
        refine wp_pushN rfl (.tmp 34) (.tmp 35) rfl (r + 1) lt (.slice A1 n1 c1) (rowB s 1) rfl o1 1 rfl (by rw [row_len1, ← row_len0 (s := s), L0.out]; omega) ?_
        intro g8 c8 y8 o8 k8 hg8
        have V2 : vset vs 0 (.slice (some ⟨g9, 0, none⟩) (n + 1) c9) 1 = .slice A1 n1 c1 := by
          show vs 1 = _
          rw [V1.out]
        rw [← V2] at k8 hg8
        obtain ⟨P2, K2⟩ := P1.out.push (i := 1) (by omega) k8 o8 (fun g e => by
          have e : g8 = g := by simpa [Value.ownBlock] using e
          exact e ▸ hg8)
        have f8 : ∀ i, y8.frozen? ⟨r, i, none⟩ = false := fun i => by simpa using P2.free i
        have e8 := k8.cell (P1.out.cell 1 (by omega)) (fun e => by have := (OwnN.lt (P1.out.own 1 (by omega)) (g := r) e).1; omega)
        rw [V2] at e8
        rw [L1.out] at P2 K2 ⊢
        have RES : RB _ r _ s' := P2.as RW.out ND.out FW.out
        have VK := K1.out.then K2
        have RES := Lib.hid RES
        have VK := Lib.hid VK
        clear o8 k8 hg8 d1 fr lt o1 P2 K2 V2
        go_wp2
        go_ret
        exact ⟨rfl, _, RES.out, VK.out⟩
      · exact absurd (has_at.2 ⟨i, hi, ei⟩) H2.out
end
end Go.Proofs.YtjobphjpfknfeaaDoor
