/- The document's own Bonds: whom one waits for (For). Conditions: as XRfB's. -/
import Derived.Test.YtjobphjpfknfeaaDoorRfB
import Derived.Test.YtjobphjpfknfeaaDoorRfP
namespace Go.Proofs.YtjobphjpfknfeaaDoor
open Go.ChangeShapes Go.WideShapes Go.ChangeAt Go.RowKit
set_option linter.unusedVariables false
open Classical

theorem putB_len : ∀ {l : List Int} {n : Int}, (putB l n).length ≤ l.length + 1
  | [], n => by simp [putB]
  | x :: l, n => by
    unfold putB
    by_cases h : n < x
    · rw [if_pos h]; simp
    · rw [if_neg h]
      by_cases e : n = x
      · rw [if_pos e]; simp
      · rw [if_neg e, List.length_cons, List.length_cons]
        have := putB_len (l := l) (n := n)
        omega
section
variable {w w' : World} {r : Nat} {vs : Nat → Value} {s : BdS} {id tt : Int}
/-- Whom the first k bonds name. -/
def Upk (s : BdS) (id : Int) (k : Nat) (zs : List Int) : Prop := zs.Pairwise (· < ·) ∧ zs.length ≤ k ∧ ∀ x, x ∈ zs ↔ ∃ j, j < k ∧ (s.ed.getD j (0, 0)).1 = id ∧ (s.ed.getD j (0, 0)).2 = x ∧ s.st x ≠ 3
theorem Upk.none : Upk s id 0 [] := ⟨List.Pairwise.nil, Nat.le_refl _, fun x => ⟨(fun h => by cases h), fun ⟨_, h, _⟩ => by omega⟩⟩
theorem Upk.put {k : Nat} {zs : List Int} {x : Int} (h : Upk s id k zs) (h1 : (s.ed.getD k (0, 0)).1 = id) (h2 : (s.ed.getD k (0, 0)).2 = x) (h3 : s.st x ≠ 3) : Upk s id (k + 1) (putB zs x) := by
  refine ⟨putB_rises h.1, Nat.le_trans putB_len (by have := h.2.1; omega), fun y => ?_⟩
  rw [mem_putB, h.2.2]
  constructor
  · rintro (rfl | ⟨j, q, r⟩)
    · exact ⟨k, by omega, h1, h2, h3⟩
    · exact ⟨j, by omega, r⟩
  · rintro ⟨j, q, r1, r2, r3⟩
    by_cases e : j = k
    · subst e; exact .inl (r2.symm.trans h2)
    · exact .inr ⟨j, by omega, r1, r2, r3⟩
theorem Upk.skip {k : Nat} {zs : List Int} {x : Int} (h : Upk s id k zs) (h2 : (s.ed.getD k (0, 0)).2 = x) (hn : (s.ed.getD k (0, 0)).1 = id → s.st x = 3) : Upk s id (k + 1) zs := by
  refine ⟨h.1, Nat.le_succ_of_le h.2.1, fun y => ?_⟩
  rw [h.2.2]
  constructor
  · rintro ⟨j, q, r⟩
    exact ⟨j, by omega, r⟩
  · rintro ⟨j, q, r1, r2, r3⟩
    by_cases e : j = k
    · subst e; exact absurd (r2.symm.trans h2 ▸ hn r1) r3
    · exact ⟨j, by omega, r1, r2, r3⟩
theorem Upk.all {zs : List Int} (h : Upk s id s.ed.length zs) : zs = s.waits id :=
  rise_ext h.1 rise_rises fun x => by
    have e : x ∈ s.waits id ↔ _ := mem_waits
    rw [h.2.2]
    refine Iff.trans ?_ e.symm
    constructor
    · rintro ⟨j, q, r1, r2, r3⟩
      exact ⟨ed_at.2 ⟨j, q, r1, r2⟩, r3⟩
    · rintro ⟨q, r3⟩
      obtain ⟨j, q, r1, r2⟩ := ed_at.1 q
      exact ⟨j, q, r1, r2, r3⟩
def FoR2 (w : World) (s : BdS) (id : Int) (n k : Nat) (u iv : Value) (wr : World) : Prop := ∃ zs, k ≤ n ∧ iv = .int .i64 k ∧ OwnN w.heap.size wr u zs ∧ Upk s id k zs ∧ Keep (fun _ => False) w wr
set_option maxRecDepth 100000 in
theorem rfor_any (h : RB w r vs s) : Calls Tryd.prog 24 #[.pointer (some ⟨r, 0, .none⟩), .int .i64 id] w fun e w' => ∃ u, e = .returned u ∧ OwnN w.heap.size w' u (s.waits id) ∧ Keep (fun _ => False) w w' := by
  have few := h.few.2
  obtain ⟨n, hn⟩ : ∃ n, s.ed.length = n := ⟨_, rfl⟩
  rw [hn] at few
  have HN := Lib.hid hn
  have HH := Lib.hid h
  clear h hn
  go_enter Tryd.func24, Tryd.ntmps24
  go_wp2
  go_loopg [5, 6] n (fun mm u iv wr => ∃ k : Nat, mm + k = n ∧ FoR2 w s id n k u iv wr)
  case atStart => exact ⟨0, by omega, [], by omega, rfl, World.ownsRow_nil _ _ _ _, Upk.none, Keep.refl _ _⟩
  case round =>
    obtain ⟨k, hgk, zs, kn, rfl, ow, up, kw⟩ := hrel
    have h := HH.out.later kw
    obtain ⟨A2, c2, d2, _, hr2⟩ := h.row 2 (by omega)
    obtain ⟨A3, c3, d3, _, hr3⟩ := h.row 3 (by omega)
    have fr := h.free
    rw [row_len2, HN.out] at d2 hr2
    rw [row_len3, HN.out] at d3 hr3
    have UP := Lib.hid up
    clear up
    by_cases hlt : k < n
    · obtain ⟨g2, rfl, hd2⟩ := hr2 (by omega)
      obtain ⟨g3, rfl, hd3⟩ := hr3 (by omega)
      have hc2 := hd2 k hlt
      have hc3 := hd3 k hlt
      clear hd2 hd3 hr2 hr3
      rw [row_fr] at hc2
      rw [row_to] at hc3
      obtain ⟨x, ex⟩ : ∃ x, (s.ed.getD k (0, 0)).1 = x := ⟨_, rfl⟩
      obtain ⟨z, ez⟩ : ∃ z, (s.ed.getD k (0, 0)).2 = z := ⟨_, rfl⟩
      rw [ex] at hc2
      rw [ez] at hc3
      have wk : IntKind.i64.wrap ((k : Int) + 1) = (k : Int) + 1 := IntWalk.i64_in _ (by omega)
      by_cases hx : x = id
      · subst hx
        have st := rstate_any (id := z) h
        obtain ⟨y, ey⟩ : ∃ y, s.st z = y := ⟨_, rfl⟩
        rw [ey] at st
        by_cases hy : y = 3
        · subst hy
          have SK := Lib.hid (UP.out.skip ez fun _ => ey)
          clear ex ez ey h
          go_wp2_with fail
          refine st.mono ?_
          rintro e w' ⟨rfl, rfl⟩
          clear st
          go_wp2_with fail
          go_roundg (n - (k + 1)); (case measure => omega); exact ⟨k + 1, by omega, _, by omega, by go_num, ow, SK.out, kw⟩
        · have hy2 : (y != 3) = true := by simpa using hy
          have SK := Lib.hid (UP.out.put ex ez (by rw [ey]; exact hy))
          have zl := UP.out.2.1
          have bw := kw.size
          clear ex ez ey h
          go_wp2_with fail
          refine st.mono ?_
          rintro e w' ⟨rfl, rfl⟩
          clear st
          go_wp2_with fail
          refine (put_any (o := z) ow (by omega) bw).mono ?_
          rintro e w9 ⟨u9, rfl, o9, k9⟩
          have ow := o9
          have kw := kw.trans k9
          clear o9 k9 d2 d3 fr hc2 hc3
          go_wp2_with fail
          go_roundg (n - (k + 1)); (case measure => omega); exact ⟨k + 1, by omega, _, by omega, by go_num, ow, SK.out, kw⟩
      · have hx2 : (x == id) = false := by simpa using hx
        have SK := Lib.hid (UP.out.skip ez fun q => absurd (ex.symm.trans q) hx)
        clear ex ez h
        go_wp2_with fail
        go_roundg (n - (k + 1)); (case measure => omega); exact ⟨k + 1, by omega, _, by omega, by go_num, ow, SK.out, kw⟩
    · obtain rfl : k = n := by omega
      clear h
      go_wp2_with fail
      go_ret
      exact ⟨_, rfl, by rw [← (show zs = s.waits id from Upk.all (by rw [HN.out]; exact UP.out))]; exact ow, kw⟩
end
end Go.Proofs.YtjobphjpfknfeaaDoor
