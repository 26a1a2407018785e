/- Package writes as landed, second part: slices.Clone of writes, All; ascending (and the statement's rising); find by slices.BinarySearchFunc; conditions: what a Set always keeps; pairs at most 100,000. -/
import Derived.Test.YthojmdjcfkadoaaWrM
namespace Go.Proofs.Ythojmdjcfkadoaa
open Go.ChangeShapes Go.WideShapes Go.ChangeAt Go.RowKit
set_option linter.unusedVariables false

section
variable {w w' : World} {t : Nat} {s : List WrI} {v : Value} {T : Nat → Prop} {l : List PrI}
theorem wr_one (s : List WrI) : ∀ u ∈ s.flatMap wrC, u.oneCell' = true := by
  intro u hu
  obtain ⟨x, hx, hm⟩ := List.mem_flatMap.1 hu
  simp only [wrC, List.mem_cons, List.not_mem_nil, or_false] at hm
  rcases hm with rfl | rfl | rfl <;> rfl
/-- What slices.Clone of the writes leaves. -/
def ClonedW (w : World) (s : List WrI) (e : Ending) (w' : World) : Prop := ∃ v', e = .returned v' ∧ OwnW w.heap.size w' v' s ∧ Keep (fun _ => False) w w'
theorem clone_w (o : OwnM 3 wrC 38 w v s) (hl : s.length ≤ 100000) : Calls Try.prog 20 #[v] w (ClonedW w s) := by
  obtain ⟨A, c, rfl, hA0, hA1⟩ := wr_shape o
  cases A with
  | none =>
    obtain rfl := hA0 rfl
    have qn : ∀ w : World, (binOp .eql 33 (.slice none 0 c) (.slice none 0 0)).run Try.prog w = .ok (.bool true) w := fun w => Lib.run_eql_slice_nil w _ _ none 0 c 0 0 Try.underlying33
    simp only [List.length_nil] at *
    go_enter Try.func20, Try.ntmps20
    go_wp2
    go_ret
    exact ⟨_, rfl, World.ownsRow_nil _ _ _ _, Keep.refl _ _⟩
  | some ad =>
    obtain ⟨g, rfl⟩ := hA1 _ rfl
    obtain ⟨i0, hi0, hz0, hz1, hz2⟩ := info_parts info_wr
    have k0 := (Keep.refl (fun _ => False) w).alloc (.cells #[] 38)
    have o1 := o.keep k0 (by simp)
    have hn1 : ∀ j u, (s.flatMap wrC)[j]? = some u → (w.alloc (.cells #[] 38)).cell? ((⟨g, 0, none⟩ : Addr).add j) = some u := fun j u hj => by
      rw [add_plain, Nat.zero_add]
      have lj : j < s.length * 3 := by
        have := (List.getElem?_eq_some_iff.1 hj).1
        rwa [flat_len wrC_len] at this
      have h1 := World.ownsRow.cellAt o1 j lj
      rw [h1]; exact hj
    have one := wr_one s
    have fl := flat_len wrC_len s
    have e0 : (w.alloc (.cells #[] 38)).ownsRow w.heap.size 38 3 (.slice (some ⟨w.heap.size, 0, none⟩) 0 0) 0 [] := World.ownsRow_lit w #[] 0 (Nat.le_refl _) (by unfold maxLen; omega) rfl
    obtain ⟨n, en⟩ : ∃ n, s.length = n := ⟨_, rfl⟩
    have EN := Lib.hid en
    rw [en] at fl hl ⊢
    have qn : ∀ w : World, (binOp .eql 33 (.slice (some ⟨g, 0, none⟩) n c) (.slice none 0 0)).run Try.prog w = .ok (.bool false) w := fun w => Lib.run_eql_slice_nil w _ _ (some ⟨g, 0, none⟩) n c 0 0 Try.underlying33
    clear en o o1 hA0 hA1
    go_enter Try.func20, Try.ntmps20
    go_wp2_with (with_reducible refine wp_stop 7 rfl ?_)
    intro _
    refine wpList_append_own _ rfl (.tmp 5) (.tmp 6) 33 rfl w.heap.size 38 i0 _ 3 24 Try.underlying33 hi0 hz0 hz1 hz2 rfl (by decide) _ 0 [] rfl e0 ⟨g, 0, none⟩ n c (s.flatMap wrC) rfl fl hn1 one (by unfold maxLen; omega) (by omega) k0.size ?_
    intro v' w' o2 gr _
    have k1 : Keep (fun j => j = w.heap.size) (w.alloc (.cells #[] 38)) w' := ⟨gr.os, gr.tape, gr.output, gr.size, fun j hj hn => gr.block j hj (fun e => hn (by cases e; rfl))⟩
    rw [Nat.zero_add, List.nil_append] at o2
    have o3 : OwnW w.heap.size w' v' s := by unfold OwnW; rw [EN.out]; exact o2
    clear qn hn1 one e0 o2 gr
    go_wp2
    go_ret
    exact ⟨v', rfl, o3, k0.older k1 (fun j e => by cases e; exact Nat.le_refl _)⟩
theorem wall_any (h : WrA w t s v) : Calls Try.prog 10 #[.pointer (some ⟨t, 0, none⟩)] w (ClonedW w s) := by
  have hc := clone_w h.r (Nat.le_trans h.short (by omega))
  have cl := h.cl
  clear h
  go_enter Try.func10, Try.ntmps10
  go_wp2_with fail
  refine hc.mono ?_
  rintro e w1 ⟨u, rfl, o1, k1⟩
  clear hc cl
  go_wp2
  go_ret
  exact ⟨_, rfl, o1, k1⟩
theorem rising_adj : ∀ {l : List PrI}, (∀ j p q, l[j]? = some p → l[j + 1]? = some q → p.k < q.k) → Rising l
  | [], _ => trivial
  | [p], _ => ⟨fun q hq => by simp at hq, trivial⟩
  | p :: q :: l, h => by
    have ih := rising_adj (l := q :: l) fun j a b ha hb => h (j + 1) a b (by simpa using ha) (by simpa using hb)
    have pq : p.k < q.k := h 0 p q rfl rfl
    exact ⟨fun r hr => by
      rcases List.mem_cons.1 hr with rfl | hr
      · exact pq
      · have := ih.1 r hr; omega, ih⟩
theorem rising_get : ∀ {l : List PrI}, Rising l → ∀ {i j : Nat} {p q : PrI}, l[i]? = some p → l[j]? = some q → i < j → p.k < q.k
  | a :: l, h, 0, j + 1, p, q, hp, hq, _ => by
    simp at hp hq
    subst hp
    exact h.1 q (List.mem_of_getElem? hq)
  | a :: l, h, i + 1, j + 1, p, q, hp, hq, hij => rising_get h.2 (by simpa using hp) (by simpa using hq) (by omega)
set_option maxRecDepth 100000 in
theorem asc_any {w : World} {v : Value} {l : List PrI} (h : LiesP w v l) (b : Bool) (hb : b = true ↔ Rising l) (hl : l.length ≤ 100000) :
    Calls Try.prog 21 #[v] w fun e w' => e = .returned (.bool b) ∧ ∃ d, w' = w.drewN d := by
  obtain ⟨A, c, rfl, _, _, e1⟩ := h
  go_enter Try.func21, Try.ntmps21
  go_wp2
  go_loopw [3] (fun i wr => ∃ k d : Nat, (k ≤ l.length ∨ k = 1) ∧ 1 ≤ k ∧ i = .int .i64 k ∧ wr = w.drewN d ∧ ∀ j p q, j + 1 < k → l[j]? = some p → l[j + 1]? = some q → p.k < q.k) (fun i _ => l.length - (intOf i).toNat)
  case atStart => exact ⟨1, 0, .inr rfl, Nat.le_refl _, rfl, rfl, fun j p q h => by omega⟩
  case round =>
    obtain ⟨k, d, hk, hk1, rfl, rfl, hup⟩ := hrel
    by_cases hlt : k < l.length
    · obtain ⟨b1, o1, rfl, _, f1⟩ := e1 (by omega)
      obtain ⟨j, rfl⟩ : ∃ j, k = j + 1 := ⟨k - 1, by omega⟩
      obtain ⟨p, hp⟩ : ∃ p, l[j + 1]? = some p := ⟨_, List.getElem?_eq_getElem hlt⟩
      obtain ⟨q, hq⟩ : ∃ q, l[j]? = some q := ⟨_, List.getElem?_eq_getElem (by omega)⟩
      have c0 := (f1 _ p hp).1
      have c1 := (f1 _ q hq).1
      obtain ⟨pk, pv⟩ := p
      obtain ⟨qk, qv⟩ := q
      have wk : IntKind.i64.wrap (((j + 1 : Nat) : Int) + 1) = ((j + 1 : Nat) : Int) + 1 := IntWalk.i64_in _ (by omega)
      have wj : IntKind.i64.wrap (((j + 1 : Nat) : Int) - 1) = (j : Int) := (IntWalk.i64_in _ (by omega)).trans (by omega)
      have wj2 : IntKind.i64.wrap ((j : Int) + 1 - 1) = (j : Int) := (IntWalk.i64_in _ (by omega)).trans (by omega)
      have wk2 : IntKind.i64.wrap ((j : Int) + 1 + 1) = (j : Int) + 1 + 1 := IntWalk.i64_in _ (by omega)
      have wj3 : IntKind.i64.wrap (j : Int) = (j : Int) := IntWalk.i64_in _ (by omega)
      have hj : j < l.length := by omega
      by_cases hlt2 : qk < pk
      · have d0 : decide (pk ≤ qk) = false := decide_eq_false (by omega)
        have hup2 := Lib.hid (show ∀ i p q, i + 1 < j + 1 + 1 → l[i]? = some p → l[i + 1]? = some q → p.k < q.k from fun i p q hi h1 h2 => by
          by_cases e : i = j
          · subst e
            rw [hq] at h1
            rw [hp] at h2
            cases h1
            cases h2
            exact hlt2
          · exact hup i p q (by omega) h1 h2)
        clear f1 hp hq e1 hup
        go_wp2_with fail
        go_quiet (fail)
        go_wp2
        go_roundw
        case rel => exact ⟨j + 1 + 1, _, .inl (by omega), by omega, by go_num, rfl, hup2.out⟩
        case measure => simp [intOf]; omega
      · have d0 : decide (pk ≤ qk) = true := decide_eq_true (by omega)
        obtain rfl : b = false := by
          cases b
          · rfl
          · have := rising_get (hb.1 rfl) hq hp (by omega)
            exact absurd this hlt2
        clear f1 hp hq e1 hup hb
        go_wp2_with fail
        go_quiet (fail)
        go_wp2
        go_ret
        exact ⟨rfl, _, World.drewN_drewN _ _ _⟩
    · obtain rfl : b = true := hb.2 (rising_adj fun j p q h1 h2 => hup j p q (by have := (List.getElem?_eq_some_iff.1 h2).1; omega) h1 h2)
      clear e1 hup hb
      go_wp2
      go_ret
      exact ⟨rfl, d, rfl⟩
set_option maxRecDepth 100000 in
theorem ris_any {w : World} {v : Value} {l : List PrI} (h : LiesP w v l) (b : Bool) (hb : b = true ↔ Rising l) (hl : l.length ≤ 100000) :
    Calls Try.prog 16 #[v] w fun e w' => e = .returned (.bool b) ∧ ∃ d, w' = w.drewN d := by
  obtain ⟨A, c, rfl, _, _, e1⟩ := h
  go_enter Try.func16, Try.ntmps16
  go_wp2
  go_loopw [3] (fun i wr => ∃ k d : Nat, (k ≤ l.length ∨ k = 1) ∧ 1 ≤ k ∧ i = .int .i64 k ∧ wr = w.drewN d ∧ ∀ j p q, j + 1 < k → l[j]? = some p → l[j + 1]? = some q → p.k < q.k) (fun i _ => l.length - (intOf i).toNat)
  case atStart => exact ⟨1, 0, .inr rfl, Nat.le_refl _, rfl, rfl, fun j p q h => by omega⟩
  case round =>
    obtain ⟨k, d, hk, hk1, rfl, rfl, hup⟩ := hrel
    by_cases hlt : k < l.length
    · obtain ⟨b1, o1, rfl, _, f1⟩ := e1 (by omega)
      obtain ⟨j, rfl⟩ : ∃ j, k = j + 1 := ⟨k - 1, by omega⟩
      obtain ⟨p, hp⟩ : ∃ p, l[j + 1]? = some p := ⟨_, List.getElem?_eq_getElem hlt⟩
      obtain ⟨q, hq⟩ : ∃ q, l[j]? = some q := ⟨_, List.getElem?_eq_getElem (by omega)⟩
      have c0 := (f1 _ p hp).1
      have c1 := (f1 _ q hq).1
      obtain ⟨pk, pv⟩ := p
      obtain ⟨qk, qv⟩ := q
      have wk : IntKind.i64.wrap (((j + 1 : Nat) : Int) + 1) = ((j + 1 : Nat) : Int) + 1 := IntWalk.i64_in _ (by omega)
      have wj : IntKind.i64.wrap (((j + 1 : Nat) : Int) - 1) = (j : Int) := (IntWalk.i64_in _ (by omega)).trans (by omega)
      have wj2 : IntKind.i64.wrap ((j : Int) + 1 - 1) = (j : Int) := (IntWalk.i64_in _ (by omega)).trans (by omega)
      have wk2 : IntKind.i64.wrap ((j : Int) + 1 + 1) = (j : Int) + 1 + 1 := IntWalk.i64_in _ (by omega)
      have wj3 : IntKind.i64.wrap (j : Int) = (j : Int) := IntWalk.i64_in _ (by omega)
      have hj : j < l.length := by omega
      by_cases hlt2 : qk < pk
      · have d0 : decide (pk ≤ qk) = false := decide_eq_false (by omega)
        have hup2 := Lib.hid (show ∀ i p q, i + 1 < j + 1 + 1 → l[i]? = some p → l[i + 1]? = some q → p.k < q.k from fun i p q hi h1 h2 => by
          by_cases e : i = j
          · subst e
            rw [hq] at h1
            rw [hp] at h2
            cases h1
            cases h2
            exact hlt2
          · exact hup i p q (by omega) h1 h2)
        clear f1 hp hq e1 hup
        go_wp2_with fail
        go_quiet (fail)
        go_wp2
        go_roundw
        case rel => exact ⟨j + 1 + 1, _, .inl (by omega), by omega, by go_num, rfl, hup2.out⟩
        case measure => simp [intOf]; omega
      · have d0 : decide (pk ≤ qk) = true := decide_eq_true (by omega)
        obtain rfl : b = false := by
          cases b
          · rfl
          · have := rising_get (hb.1 rfl) hq hp (by omega)
            exact absurd this hlt2
        clear f1 hp hq e1 hup hb
        go_wp2_with fail
        go_quiet (fail)
        go_wp2
        go_ret
        exact ⟨rfl, _, World.drewN_drewN _ _ _⟩
    · obtain rfl : b = true := hb.2 (rising_adj fun j p q h1 h2 => hup j p q (by have := (List.getElem?_eq_some_iff.1 h2).1; omega) h1 h2)
      clear e1 hup hb
      go_wp2
      go_ret
      exact ⟨rfl, d, rfl⟩
def cmpI (x y : Int) : Int := if x < y then -1 else if y < x then 1 else 0
theorem nan_any (x : Int) (w : World) : Calls Try.prog 38 #[.int .i64 x] w fun e w' => e = .returned (.bool false) ∧ w = w' := by
  go_enter Try.func38, Try.ntmps38
  go_wp2
  go_ret
  exact ⟨by simp, rfl⟩
theorem cmp_any (x y : Int) (w : World) : Calls Try.prog 29 #[.int .i64 x, .int .i64 y] w fun e w' => e = .returned (.int .i64 (cmpI x y)) ∧ w = w' := by
  go_enter Try.func29, Try.ntmps29
  go_wp2_with (go_at_call 38; refine (nan_any _ _).mono ?_; rintro e w' ⟨rfl, rfl⟩)
  all_goals (go_ret; refine ⟨?_, rfl⟩; unfold cmpI; (repeat' split) <;> first | rfl | (exfalso; omega))
/-- The closure of find: how a pair's key stands to the key. -/
theorem fnd_any (p : PrI) (key : Int) (w : World) : Calls Try.prog 31 #[.agg #[.int .i64 p.k, .int .i64 p.v], .int .i64 key] w fun e w' => e = .returned (.int .i64 (cmpI p.k key)) ∧ Keep (fun _ => False) w w' := by
  go_enter Try.func31, Try.ntmps31
  go_wp2_with fail
  refine (cmp_any _ _ _).mono ?_
  rintro e w1 ⟨rfl, rfl⟩
  go_wp2
  go_ret
  exact ⟨rfl, (Keep.refl _ w).alloc _⟩
theorem LiesP.same (h : LiesP w v l) (k : Keep (fun _ => False) w w') : LiesP w' v l := by
  obtain ⟨A, c, rfl, hc, hz, hf⟩ := h
  refine ⟨A, c, rfl, hc, hz, fun h0 => ?_⟩
  obtain ⟨b, off, rfl, hb, he⟩ := hf h0
  exact ⟨b, off, rfl, Nat.lt_of_lt_of_le hb k.size, fun j p hp => ⟨k.cell (he j p hp).1 id, k.cell (he j p hp).2 id⟩⟩
theorem LiesP.cap (h : LiesP w v l) : ∃ A c, v = .slice A l.length c ∧ l.length ≤ c := by
  obtain ⟨A, c, rfl, hc, _, _⟩ := h
  exact ⟨A, c, rfl, hc⟩
theorem LiesP.at' {A : Option Addr} {n c : Nat} (h : LiesP w (.slice A n c) l) (j : Nat) (p : PrI) (hp : l[j]? = some p) : ∃ b off, A = some ⟨b, off, none⟩ ∧ w.cell? ⟨b, off + j * 2, none⟩ = some (.int .i64 p.k) ∧ w.cell? ⟨b, off + j * 2 + 1, none⟩ = some (.int .i64 p.v) := by
  obtain ⟨A', c', e, hc, _, hf⟩ := h
  cases e
  obtain ⟨b, off, rfl, hb, he⟩ := hf (by have := (List.getElem?_eq_some_iff.1 hp).1; omega)
  exact ⟨b, off, rfl, he j p hp⟩
/-- What find tells. -/
structure Found (l : List PrI) (key : Int) (i : Nat) (b : Bool) : Prop where
  len : i ≤ l.length
  low : ∀ p ∈ l.take i, p.k < key
  yes : b = true → ∃ p, l[i]? = some p ∧ p.k = key
  no : b = false → ∀ p, l[i]? = some p → key < p.k
/-- So far the search has come. -/
structure Sought (l : List PrI) (key : Int) (i j : Nat) : Prop where
  le : i ≤ j
  len : j ≤ l.length
  low : ∀ m p, m < i → l[m]? = some p → p.k < key
  up : ∀ m p, j ≤ m → l[m]? = some p → key ≤ p.k
theorem Sought.found {key : Int} {i : Nat} {b : Bool} (h : Sought l key i i) (hb : b = true ↔ ∃ p, l[i]? = some p ∧ p.k = key) : Found l key i b := by
  refine ⟨h.len, fun p hp => ?_, hb.1, fun e p hp => ?_⟩
  · obtain ⟨m, hm, rfl⟩ := List.getElem_of_mem hp
    rw [List.length_take] at hm
    exact h.low m _ (by omega) (by rw [List.getElem_take]; exact List.getElem?_eq_getElem (by omega))
  · have := h.up i p (Nat.le_refl _) hp
    have : p.k ≠ key := fun z => by rw [hb.2 ⟨p, hp, z⟩] at e; cases e
    omega
set_option maxRecDepth 100000 in
set_option maxHeartbeats 1000000 in
theorem search_p (h : LiesP w v l) (hr : Rising l) (hl : l.length ≤ 100000) (key : Int) :
    Calls Try.prog 30 #[v, .int .i64 key, .func (.func 31) #[] #[]] w fun e w' => ∃ (i : Nat) (b : Bool), e = .returned (.tuple #[.int .i64 i, .bool b]) ∧ Found l key i b ∧ Keep (fun _ => False) w w' := by
  obtain ⟨A, c, rfl, hc⟩ := h.cap
  have H := Lib.hid h
  have HR := Lib.hid hr
  obtain ⟨n, en⟩ : ∃ n, l.length = n := ⟨_, rfl⟩
  have EN := Lib.hid en
  rw [en] at hc hl ⊢
  clear h hr en
  go_enter Try.func30, Try.ntmps30
  go_wp2
  go_loopw [9, 10] (fun p q wr => ∃ i j : Nat, p = .int .i64 i ∧ q = .int .i64 j ∧ Sought l key i j ∧ Keep (fun _ => False) w wr) (fun p q _ => (intOf q).toNat - (intOf p).toNat)
  case atStart => exact ⟨0, n, rfl, rfl, ⟨Nat.zero_le _, by rw [EN.out]; exact Nat.le_refl _, fun m p hm => absurd hm (Nat.not_lt_zero m), fun m p hm hp => by have := (List.getElem?_eq_some_iff.1 hp).1; rw [EN.out] at this; omega⟩, Keep.refl _ w⟩
  case round =>
    obtain ⟨i, j, rfl, rfl, hS, bl⟩ := hrel
    have hij := hS.le
    have hjn : j ≤ n := by have := hS.len; rw [EN.out] at this; exact this
    have HS := Lib.hid hS
    clear hS
    by_cases hlt : i < j
    · obtain ⟨m, em⟩ : ∃ m, (i + j) / 2 = m := ⟨_, rfl⟩
      have him : i ≤ m := by omega
      have hmj : m < j := by omega
      have hmn : m < n := by omega
      have wk : IntKind.i64.wrap ((i : Int) + (j : Int)) = (i : Int) + (j : Int) := IntWalk.i64_in _ (by omega)
      have wu : IntKind.u64.wrap ((i : Int) + (j : Int)) = (i : Int) + (j : Int) := by rw [IntKind.wrap_u64]; omega
      have wm : IntKind.i64.wrap ((m : Int) + 1) = (m : Int) + 1 := IntWalk.i64_in _ (by omega)
      have ei : ((i : Int) + (j : Int)) / 2 = (m : Int) := by omega
      have wmi : IntKind.i64.wrap (m : Int) = (m : Int) := IntWalk.i64_in _ (by omega)
      obtain ⟨p, hp⟩ : ∃ p, l[m]? = some p := ⟨_, List.getElem?_eq_getElem (by rw [EN.out]; exact hmn)⟩
      obtain ⟨b, off, rfl, c0, c1⟩ := LiesP.at' (H.out.same bl) m p hp
      have hc := fnd_any p key wr
      by_cases hk : p.k < key
      · have hS2 := Lib.hid (show Sought l key (m + 1) j from ⟨hmj, HS.out.len, fun q z hq hz => by
          by_cases e : q = m
          · subst e; rw [hp] at hz; cases hz; exact hk
          · have := rising_get HR.out hz hp (by omega); omega, HS.out.up⟩)
        rw [show cmpI p.k key = -1 from if_pos hk] at hc
        clear HS hp hk em
        go_wp2_with fail
        refine hc.mono ?_
        rintro e w1 ⟨rfl, k1⟩
        clear hc c0 c1
        go_wp2
        go_roundw
        case rel => exact ⟨m + 1, j, by go_num, rfl, hS2.out, bl.trans k1⟩
        case measure => simp [intOf]; omega
      · have hS2 := Lib.hid (show Sought l key i m from ⟨him, by have := HS.out.len; omega, HS.out.low, fun q z hq hz => by
          by_cases e : q = m
          · subst e; rw [hp] at hz; cases hz; omega
          · have := rising_get HR.out hp hz (by omega); omega⟩)
        obtain ⟨y, ey, y0⟩ : ∃ y, cmpI p.k key = y ∧ ¬ y < 0 := ⟨_, rfl, by unfold cmpI; rw [if_neg hk]; split <;> omega⟩
        rw [ey] at hc
        clear HS hp hk ey em
        go_wp2_with fail
        refine hc.mono ?_
        rintro e w1 ⟨rfl, k1⟩
        clear hc c0 c1
        go_wp2
        go_roundw
        case rel => exact ⟨i, m, rfl, rfl, hS2.out, bl.trans k1⟩
        case measure => simp [intOf]; omega
    · obtain rfl : i = j := by omega
      by_cases hin : i < n
      · obtain ⟨p, hp⟩ : ∃ p, l[i]? = some p := ⟨_, List.getElem?_eq_getElem (by rw [EN.out]; exact hin)⟩
        obtain ⟨b, off, rfl, c0, c1⟩ := LiesP.at' (H.out.same bl) i p hp
        have hc := fnd_any p key wr
        by_cases hk : p.k = key
        · have F := Lib.hid (HS.out.found (b := true) ⟨fun _ => ⟨p, hp, hk⟩, fun _ => rfl⟩)
          rw [show cmpI p.k key = 0 by unfold cmpI; rw [if_neg (by omega), if_neg (by omega)]] at hc
          clear HS hp hk
          go_wp2_with fail
          refine hc.mono ?_
          rintro e w1 ⟨rfl, k1⟩
          clear hc c0 c1
          go_wp2
          go_ret2
          exact ⟨i, true, rfl, F.out, bl.trans k1⟩
        · have F := Lib.hid (HS.out.found (b := false) ⟨fun e => (by cases e), fun ⟨q, hq, e⟩ => by rw [hp] at hq; cases hq; exact absurd e hk⟩)
          obtain ⟨y, ey, y0⟩ : ∃ y, cmpI p.k key = y ∧ (y == 0) = false := ⟨_, rfl, by unfold cmpI; by_cases a : p.k < key; (rw [if_pos a]; rfl); (rw [if_neg a, if_pos (by omega)]; rfl)⟩
          rw [ey] at hc
          clear HS hp hk ey
          go_wp2_with fail
          refine hc.mono ?_
          rintro e w1 ⟨rfl, k1⟩
          clear hc c0 c1
          go_wp2
          go_ret2
          exact ⟨i, false, rfl, F.out, bl.trans k1⟩
      · have F := Lib.hid (HS.out.found (b := false) ⟨fun e => (by cases e), fun ⟨q, hq, e⟩ => by have := (List.getElem?_eq_some_iff.1 hq).1; rw [EN.out] at this; omega⟩)
        clear HS
        go_wp2
        go_ret2
        exact ⟨i, false, rfl, F.out, bl⟩
theorem find_any (h : LiesP w v l) (hr : Rising l) (hl : l.length ≤ 100000) (key : Int) :
    Calls Try.prog 23 #[v, .int .i64 key] w fun e w' => ∃ (i : Nat) (b : Bool), e = .returned (.tuple #[.int .i64 i, .bool b]) ∧ Found l key i b ∧ Keep (fun _ => False) w w' := by
  have hs := search_p h hr hl key
  obtain ⟨A, c, rfl, hc⟩ := h.cap
  clear h hr
  go_enter Try.func23, Try.ntmps23
  go_wp2_with fail
  refine hs.mono ?_
  rintro e w1 ⟨i, b, rfl, hF, k1⟩
  clear hs
  go_wp2
  go_ret2
  exact ⟨i, b, rfl, hF, k1⟩
end
end Go.Proofs.Ythojmdjcfkadoaa
