/- The document's own Bonds (vinculumref16) in memory: four slices of the call's own behind one struct; where an id stands, its state, who waits for whom. Conditions: the ids are named once each. -/
import Derived.Test.YtjobphjpfknfeaaDoorBdW
import Derived.Test.YtjobphjpfknfeaaDoorPushN
import Derived.Deep.LoopGhost
import Derived.Deep.CutRange
import Derived.Deep.CutBlock
namespace Go.Proofs.YtjobphjpfknfeaaDoor
open Go.ChangeShapes Go.WideShapes Go.ChangeAt Go.RowKit
set_option linter.unusedVariables false
open Classical

/-- The four rows: ids, states, from, to. -/
def rowB (s : BdS) : Nat → List Int
  | 0 => s.ids.map Prod.fst
  | 1 => s.ids.map Prod.snd
  | 2 => s.ed.map Prod.fst
  | _ => s.ed.map Prod.snd
structure RB (w : World) (r : Nat) (vs : Nat → Value) (s : BdS) : Prop where
  cell : ∀ i, i < 4 → w.cell? ⟨r, i, none⟩ = some (vs i)
  free : ∀ i, w.frozen? ⟨r, i, none⟩ = false
  lt : r < w.heap.size
  own : ∀ i, i < 4 → OwnN (r + 1) w (vs i) (rowB s i)
  ne : ∀ i j g, i < 4 → j < 4 → (vs i).ownBlock = some g → (vs j).ownBlock = some g → i = j
  one : (s.ids.map Prod.fst).Nodup
  few : s.ids.length ≤ 60 ∧ s.ed.length ≤ 60
/-- Its blocks. -/
def RFt (r : Nat) (vs : Nat → Value) (g : Nat) : Prop := g = r ∨ ∃ i, i < 4 ∧ (vs i).ownBlock = some g
section
variable {w w' : World} {r : Nat} {vs : Nat → Value} {s : BdS} {id tt : Int}
theorem RB.keep {S : Nat → Prop} (h : RB w r vs s) (k : Keep S w w') (hn : ∀ g, RFt r vs g → ¬ S g) : RB w' r vs s :=
  ⟨fun i hi => k.cell (h.cell i hi) (hn r (.inl rfl)), fun i => (k.frozen (a := ⟨r, i, none⟩) h.lt (hn r (.inl rfl))).trans (h.free i), Nat.lt_of_lt_of_le h.lt k.size, fun i hi => OwnN.keep (h.own i hi) k fun g hg => hn g (.inr ⟨i, hi, hg⟩), h.ne, h.one, h.few⟩
theorem RB.later (h : RB w r vs s) (k : Keep (fun _ => False) w w') : RB w' r vs s := h.keep k fun _ _ q => q
theorem RB.foot (h : RB w r vs s) {g : Nat} (hg : RFt r vs g) : r ≤ g ∧ g < w.heap.size := by
  rcases hg with rfl | ⟨i, hi, hg⟩
  · exact ⟨Nat.le_refl _, h.lt⟩
  · have := OwnN.lt (h.own i hi) hg; omega
/-- A row, as the walk reads it. -/
theorem RB.row (h : RB w r vs s) (i : Nat) (hi : i < 4) : ∃ A c, w.cell? ⟨r, i, none⟩ = some (.slice A (rowB s i).length c) ∧ vs i = .slice A (rowB s i).length c ∧ (0 < (rowB s i).length → ∃ g, A = some ⟨g, 0, none⟩ ∧ ∀ j, j < (rowB s i).length → w.cell? ⟨g, j, none⟩ = some (.int .i64 ((rowB s i).getD j 0))) := by
  obtain ⟨A, c, e, h0, h1⟩ := OwnN.shapeN (h.own i hi)
  refine ⟨A, c, by rw [h.cell i hi, e], e, fun hp => ?_⟩
  cases A with
  | none => rw [h0 rfl] at hp; simp at hp
  | some ad =>
    obtain ⟨g, rfl⟩ := h1 _ rfl
    have o := h.own i hi
    rw [e] at o
    exact ⟨g, rfl, fun j hj => OwnN.cell o j hj⟩
theorem row_id {i : Nat} : (rowB s 0).getD i 0 = (s.ids.getD i (0, 0)).1 := by
  simp only [rowB, List.getD_eq_getElem?_getD, List.getElem?_map]
  cases s.ids[i]? <;> rfl
theorem row_st {i : Nat} : (rowB s 1).getD i 0 = (s.ids.getD i (0, 0)).2 := by
  simp only [rowB, List.getD_eq_getElem?_getD, List.getElem?_map]
  cases s.ids[i]? <;> rfl
theorem row_fr {i : Nat} : (rowB s 2).getD i 0 = (s.ed.getD i (0, 0)).1 := by
  simp only [rowB, List.getD_eq_getElem?_getD, List.getElem?_map]
  cases s.ed[i]? <;> rfl
theorem row_to {i : Nat} : (rowB s 3).getD i 0 = (s.ed.getD i (0, 0)).2 := by
  simp only [rowB, List.getD_eq_getElem?_getD, List.getElem?_map]
  cases s.ed[i]? <;> rfl
theorem row_len0 : (rowB s 0).length = s.ids.length := by simp [rowB]
theorem row_len1 : (rowB s 1).length = s.ids.length := by simp [rowB]
theorem row_len2 : (rowB s 2).length = s.ed.length := by simp [rowB]
theorem row_len3 : (rowB s 3).length = s.ed.length := by simp [rowB]
theorem has_at : s.has id ↔ ∃ i, i < s.ids.length ∧ (s.ids.getD i (0, 0)).1 = id := by
  unfold BdS.has
  rw [List.mem_map]
  constructor
  · rintro ⟨p, hp, rfl⟩
    obtain ⟨i, hi, rfl⟩ := List.mem_iff_getElem.1 hp
    exact ⟨i, hi, by rw [List.getD_eq_getElem?_getD, List.getElem?_eq_getElem hi]; rfl⟩
  · rintro ⟨i, hi, rfl⟩
    exact ⟨s.ids[i], List.getElem_mem hi, by rw [List.getD_eq_getElem?_getD, List.getElem?_eq_getElem hi]; rfl⟩
theorem st_none (h : ¬ s.has id) : s.st id = 0 := by
  unfold BdS.st
  cases e : s.ids.find? (fun p => p.1 == id) with
  | none => rfl
  | some p =>
    exfalso
    apply h
    have h1 := List.find?_some e
    exact List.mem_map.2 ⟨p, List.mem_of_find?_eq_some e, by simpa using h1⟩
theorem find_nodup : ∀ {l : List (Int × Int)}, (l.map Prod.fst).Nodup → ∀ i, i < l.length → l.find? (fun p => p.1 == (l.getD i (0, 0)).1) = some (l.getD i (0, 0))
  | [], _, i, hi => by simp at hi
  | p :: l, hn, 0, _ => by simp
  | p :: l, hn, i + 1, hi => by
    rw [List.map_cons, List.nodup_cons] at hn
    have hi : i < l.length := by simpa using hi
    have e : (p :: l).getD (i + 1) (0, 0) = l.getD i (0, 0) := rfl
    rw [e, List.find?_cons_of_neg, find_nodup hn.2 i hi]
    intro q
    have q : p.1 = (l.getD i (0, 0)).1 := by simpa using q
    apply hn.1
    rw [q, List.getD_eq_getElem?_getD, List.getElem?_eq_getElem hi]
    exact List.mem_map_of_mem (List.getElem_mem hi)
theorem st_at (hn : (s.ids.map Prod.fst).Nodup) {i : Nat} (hi : i < s.ids.length) (e : (s.ids.getD i (0, 0)).1 = id) : s.st id = (s.ids.getD i (0, 0)).2 := by
  unfold BdS.st
  rw [← e, find_nodup hn i hi]
theorem ed_at {a b : Int} : (a, b) ∈ s.ed ↔ ∃ i, i < s.ed.length ∧ (s.ed.getD i (0, 0)).1 = a ∧ (s.ed.getD i (0, 0)).2 = b := by
  constructor
  · intro h
    obtain ⟨i, hi, e⟩ := List.mem_iff_getElem.1 h
    refine ⟨i, hi, ?_⟩
    rw [List.getD_eq_getElem?_getD, List.getElem?_eq_getElem hi, e]
    exact ⟨rfl, rfl⟩
  · rintro ⟨i, hi, rfl, rfl⟩
    rw [List.getD_eq_getElem?_getD, List.getElem?_eq_getElem hi]
    exact List.getElem_mem hi
set_option maxRecDepth 100000 in
theorem rat_any (h : RB w r vs s) : Calls Tryd.prog 32 #[.pointer (some ⟨r, 0, .none⟩), .int .i64 id] w fun e w' => w = w' ∧ ∃ a : Int, e = .returned (.int .i64 a) ∧ ((a = -1 ∧ ¬ s.has id) ∨ ∃ i : Nat, a = (i : Int) ∧ i < s.ids.length ∧ (s.ids.getD i (0, 0)).1 = id) := by
  obtain ⟨A, c, c0, _, hr⟩ := h.row 0 (by omega)
  have few := h.few.1
  have fr := h.free
  rw [row_len0] at c0 hr
  obtain ⟨n, hn⟩ : ∃ n, s.ids.length = n := ⟨_, rfl⟩
  rw [hn] at c0 hr few
  have HN := Lib.hid hn
  clear h hn
  go_enter Tryd.func32, Tryd.ntmps32
  go_wp2
  go_loopg [5] n (fun mm iv wx => w = wx ∧ ∃ k : Nat, mm + k = n ∧ iv = .int .i64 k ∧ ∀ j, j < k → (s.ids.getD j (0, 0)).1 ≠ id)
  case atStart => exact ⟨rfl, 0, by omega, rfl, fun j hj => by omega⟩
  case round =>
    obtain ⟨rfl, k, hgk, rfl, hj⟩ := hrel
    have HJ := Lib.hid hj
    clear hj
    by_cases hlt : k < n
    · obtain ⟨g, rfl, hd⟩ := hr (by omega)
      have hc := hd k hlt
      clear hd
      rw [row_id] at hc
      obtain ⟨x, ex⟩ : ∃ x, (s.ids.getD k (0, 0)).1 = x := ⟨_, rfl⟩
      rw [ex] at hc
      have EX := Lib.hid ex
      have wk : IntKind.i64.wrap ((k : Int) + 1) = (k : Int) + 1 := IntWalk.i64_in _ (by omega)
      clear ex hr
      by_cases hx : x = id
      · subst hx
        go_wp2_with fail
        go_ret
        exact ⟨rfl, k, rfl, .inr ⟨k, rfl, by rw [HN.out]; exact hlt, EX.out⟩⟩
      · have hx2 : (x == id) = false := by simpa using hx
        go_wp2_with fail
        go_roundg (n - (k + 1))
        case measure => omega
        case rel => exact ⟨rfl, k + 1, by omega, by go_num, fun j q => by
          by_cases e : j = k
          · subst e; rw [EX.out]; exact hx
          · exact HJ.out j (by omega)⟩
    · obtain rfl : k = n := by omega
      go_wp2_with fail
      go_ret
      exact ⟨rfl, -1, rfl, .inl ⟨rfl, fun q => by
        obtain ⟨i, hi, e⟩ := has_at.1 q
        exact HJ.out i (by rw [HN.out] at hi; exact hi) e⟩⟩
set_option maxRecDepth 100000 in
theorem rstate_any (h : RB w r vs s) : Calls Tryd.prog 23 #[.pointer (some ⟨r, 0, .none⟩), .int .i64 id] w fun e w' => w = w' ∧ e = .returned (.int .i64 (s.st id)) := by
  have at1 := rat_any (id := id) h
  obtain ⟨A, c, c0, _, hr⟩ := h.row 1 (by omega)
  have few := h.few.1
  have fr := h.free
  have one := Lib.hid h.one
  rw [row_len1] at c0 hr
  clear h
  go_enter Tryd.func23, Tryd.ntmps23
  go_wp2_with fail
  refine at1.mono ?_
  rintro e w' ⟨rfl, a, rfl, ⟨rfl, hn⟩ | ⟨i, rfl, hi, ei⟩⟩
  · have E0 := Lib.hid (st_none hn)
    clear hn hr at1
    go_wp2
    go_ret
    refine ⟨rfl, ?_⟩
    rw [E0.out]
    rfl
  · obtain ⟨g, rfl, hd⟩ := hr (by omega)
    have hc := hd i hi
    clear hd
    rw [row_st, ← st_at one.out hi ei] at hc
    obtain ⟨n, hn⟩ : ∃ n, s.ids.length = n := ⟨_, rfl⟩
    obtain ⟨x, ex⟩ : ∃ x, s.st id = x := ⟨_, rfl⟩
    rw [hn] at hi c0 few
    rw [ex] at hc
    have EX := Lib.hid ex
    clear ei hr at1 hn ex one
    go_wp2
    go_ret
    refine ⟨rfl, ?_⟩
    rw [EX.out]
    rfl
set_option maxRecDepth 100000 in
theorem rwaits_any (h : RB w r vs s) : Calls Tryd.prog 33 #[.pointer (some ⟨r, 0, .none⟩), .int .i64 id, .int .i64 tt] w fun e w' => w = w' ∧ e = .returned (.bool (yes (s.wt id tt))) := by
  have st := rstate_any (id := tt) h
  obtain ⟨A2, c2, d2, _, hr2⟩ := h.row 2 (by omega)
  obtain ⟨A3, c3, d3, _, hr3⟩ := h.row 3 (by omega)
  have few := h.few.2
  have fr := h.free
  rw [row_len2] at d2 hr2
  rw [row_len3] at d3 hr3
  obtain ⟨n, hn⟩ : ∃ n, s.ed.length = n := ⟨_, rfl⟩
  rw [hn] at d2 hr2 d3 hr3 few
  obtain ⟨y, ey⟩ : ∃ y, s.st tt = y := ⟨_, rfl⟩
  rw [ey] at st
  have EY := Lib.hid ey
  have HN := Lib.hid hn
  clear h hn ey
  go_enter Tryd.func33, Tryd.ntmps33
  go_wp2
  go_loopg [7] n (fun mm iv wx => w = wx ∧ ∃ k : Nat, mm + k = n ∧ iv = .int .i64 k ∧ ∀ j, j < k → (s.ed.getD j (0, 0)).1 = id → (s.ed.getD j (0, 0)).2 = tt → y = 3)
  case atStart => exact ⟨rfl, 0, by omega, rfl, fun j hj => by omega⟩
  case round =>
    obtain ⟨rfl, k, hgk, rfl, hj⟩ := hrel
    have HJ := Lib.hid hj
    clear hj
    by_cases hlt : k < n
    · obtain ⟨g2, rfl, hd2⟩ := hr2 (by omega)
      obtain ⟨g3, rfl, hd3⟩ := hr3 (by omega)
      have hc2 := hd2 k hlt
      have hc3 := hd3 k hlt
      clear hd2 hd3
      rw [row_fr] at hc2
      rw [row_to] at hc3
      obtain ⟨x, ex⟩ : ∃ x, (s.ed.getD k (0, 0)).1 = x := ⟨_, rfl⟩
      obtain ⟨z, ez⟩ : ∃ z, (s.ed.getD k (0, 0)).2 = z := ⟨_, rfl⟩
      rw [ex] at hc2
      rw [ez] at hc3
      have EX := Lib.hid ex
      have EZ := Lib.hid ez
      have wk : IntKind.i64.wrap ((k : Int) + 1) = (k : Int) + 1 := IntWalk.i64_in _ (by omega)
      clear ex ez hr2 hr3
      by_cases hx : x = id
      · subst hx
        by_cases hz : z = tt
        · subst hz
          by_cases hy : y = 3
          · subst hy
            go_wp2_with fail
            refine st.mono ?_
            rintro e w' ⟨rfl, rfl⟩
            go_wp2_with fail
            go_roundg (n - (k + 1)); (case measure => omega); refine ⟨rfl, k + 1, by omega, by go_num, fun j q => ?_⟩; by_cases e : j = k; (· subst e; simp); (· exact HJ.out j (by omega))
          · have hy2 : (y == 3) = false := by simpa using hy
            go_wp2_with fail
            refine st.mono ?_
            rintro e w' ⟨rfl, rfl⟩
            go_wp2_with fail
            go_ret
            refine ⟨rfl, ?_⟩
            rw [yes_of (show s.wt x z from ⟨ed_at.2 ⟨k, by rw [HN.out]; exact hlt, EX.out, EZ.out⟩, by rw [EY.out]; exact hy⟩)]
            rfl
        · have hz2 : (z == tt) = false := by simpa using hz
          clear st
          go_wp2_with fail
          go_roundg (n - (k + 1)); (case measure => omega); refine ⟨rfl, k + 1, by omega, by go_num, fun j q => ?_⟩; by_cases e : j = k; (· subst e; rw [EZ.out]; exact fun _ q => absurd q hz); (· exact HJ.out j (by omega))
      · have hx2 : (x == id) = false := by simpa using hx
        clear st
        go_wp2_with fail
        go_roundg (n - (k + 1)); (case measure => omega); refine ⟨rfl, k + 1, by omega, by go_num, fun j q => ?_⟩; by_cases e : j = k; (· subst e; rw [EX.out]; exact fun q => absurd q hx); (· exact HJ.out j (by omega))
    · obtain rfl : k = n := by omega
      clear st
      go_wp2_with fail
      go_ret
      refine ⟨rfl, ?_⟩
      have hw : ¬ s.wt id tt := by
        rintro ⟨h1, h2⟩
        obtain ⟨i, hi, e1, e2⟩ := ed_at.1 h1
        exact h2 (EY.out.trans (HJ.out i (by rw [HN.out] at hi; exact hi) e1 e2))
      rw [yes_not hw]
      rfl
end
end Go.Proofs.YtjobphjpfknfeaaDoor
