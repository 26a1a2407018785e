/- Package writes as landed, first part: a Set's cells (64 Onces, the list of the writes), cell by cell; isKey, isValue, New, Len, place, Get; conditions: what a Set always keeps. -/
import Derived.Test.YthojmdjcfkadoaaWrB
import Derived.OwnWalk
import Derived.StillTailTactics
import Derived.Deep.RegionHeld3
namespace Go.Proofs.Ythojmdjcfkadoaa
open Go.ChangeShapes Go.WideShapes Go.ChangeAt Go.RowKit
set_option linter.unusedVariables false

theorem wrC_len (x : WrI) : (wrC x).length = 3 := rfl
/-- Whether the Once of a key is done. -/
def dnW (s : List WrI) (k : Nat) : Int := if (k : Int) ∈ s.map WrI.k then 1 else 0
structure WrA (w : World) (t : Nat) (s : List WrI) (v : Value) : Prop where
  c0 : ∀ k : Nat, k ≤ 63 → w.cell? ⟨t, k * 3, none⟩ = some (.int .u32 (dnW s k))
  c1 : ∀ k : Nat, k ≤ 63 → w.cell? ⟨t, k * 3 + 1, none⟩ = some (.int .i32 0)
  cl : w.cell? ⟨t, 192, none⟩ = some v
  fz : ∀ i, w.frozen? ⟨t, i, none⟩ = false
  r : OwnM 3 wrC 38 w v s
  kb : ∀ x ∈ s, 0 ≤ x.k ∧ x.k ≤ 63 ∧ (x.g = true → x.v = 0)
  nd : (s.map WrI.k).Nodup
  rb : ∀ g, v.ownBlock = some g → g ≠ t
theorem nodup_intW : ∀ (n : Nat) (q : List Int), q.Nodup → (∀ x ∈ q, 0 ≤ x ∧ x < n) → q.length ≤ n
  | 0, q, _, h => by
    cases q with
    | nil => simp
    | cons a q => have := h a (by simp); omega
  | n + 1, q, hq, h => by
    have hi := nodup_intW n (q.erase (n : Int)) (hq.erase _) (fun x hx => by
      have h1 := h x (List.mem_of_mem_erase hx)
      have h2 := (List.Nodup.mem_erase_iff hq).1 hx
      have := h2.1
      omega)
    have := List.length_erase (a := (n : Int)) (l := q)
    split at this <;> omega
section
variable {w w' : World} {t : Nat} {s : List WrI} {v : Value} {T : Nat → Prop}
theorem WrA.short (h : WrA w t s v) : s.length ≤ 64 := by
  have := nodup_intW 64 (s.map WrI.k) h.nd (fun x hx => by
    obtain ⟨y, hy, rfl⟩ := List.mem_map.1 hx
    have := h.kb y hy
    omega)
  simpa using this
theorem WrA.lt (h : WrA w t s v) : t < w.heap.size := lt_of_cell (a := ⟨t, 192, none⟩) h.cl
/-- What a Set lies in. -/
def FootW (t : Nat) (v : Value) (j : Nat) : Prop := j = t ∨ v.ownBlock = some j
theorem WrA.foot_lt (h : WrA w t s v) (j : Nat) (hj : FootW t v j) : j < w.heap.size := by
  rcases hj with rfl | hj
  · exact h.lt
  · exact h.r.lt hj
theorem WrA.keep (h : WrA w t s v) (k : Keep T w w') (hn : ∀ j, FootW t v j → ¬ T j) : WrA w' t s v :=
  have nt : ¬ T t := hn t (.inl rfl)
  { c0 := fun i hi => k.cell (h.c0 i hi) nt
    c1 := fun i hi => k.cell (h.c1 i hi) nt
    cl := k.cell h.cl nt
    fz := fun i => (k.frozen (a := ⟨t, i, none⟩) h.lt nt).trans (h.fz i)
    r := h.r.keep k (fun g hg => hn g (.inr hg))
    kb := h.kb
    nd := h.nd
    rb := h.rb }
theorem WrA.same (h : WrA w t s v) (k : Keep (fun _ => False) w w') : WrA w' t s v := h.keep k (fun _ _ => id)
theorem wr_shape (o : OwnM 3 wrC 38 w v s) : ∃ A c, v = .slice A s.length c ∧ (A = none → s = []) ∧ ∀ ad, A = some ad → ∃ g, ad = ⟨g, 0, none⟩ := by
  rcases o.form with ⟨h1, h2⟩ | ⟨g, c, h1, _⟩
  · exact ⟨none, 0, by rw [h1, h2]; rfl, fun _ => h2, fun ad h => by cases h⟩
  · exact ⟨_, c, h1, fun h => (by cases h), fun ad h => by cases h; exact ⟨g, rfl⟩⟩
theorem wr_cells {g n c : Nat} (o : OwnM 3 wrC 38 w (.slice (some ⟨g, 0, none⟩) n c) s) (i : Nat) (x : WrI) (hx : s[i]? = some x) :
    w.cell? ⟨g, i * 3, none⟩ = some (.int .i64 x.k) ∧ w.cell? ⟨g, i * 3 + 1, none⟩ = some (.int .i64 x.v) ∧ w.cell? ⟨g, i * 3 + 2, none⟩ = some (.bool x.g) := by
  obtain ⟨hi, ex⟩ := List.getElem?_eq_some_iff.1 hx
  have c0 := OwnM.cell wrC_len o i 0 hi (by omega)
  have c1 := OwnM.cell wrC_len o i 1 hi (by omega)
  have c2 := OwnM.cell wrC_len o i 2 hi (by omega)
  rw [ex] at c0 c1 c2
  exact ⟨c0, c1, c2⟩
theorem key_any (n : Int) (w : World) : Calls Try.prog 17 #[.int .i64 n] w fun e w' => e = .returned (.bool (decide (0 ≤ n ∧ n ≤ 63))) ∧ w = w' := by
  by_cases h0 : 0 ≤ n
  · by_cases h1 : n ≤ 63
    · rw [decide_eq_true ⟨h0, h1⟩]
      go_enter Try.func17, Try.ntmps17
      go_wp2
      go_ret
      exact ⟨rfl, rfl⟩
    · rw [decide_eq_false (fun h => h1 h.2)]
      go_enter Try.func17, Try.ntmps17
      go_wp2
      go_ret
      exact ⟨rfl, rfl⟩
  · rw [decide_eq_false (fun h => h0 h.1)]
    go_enter Try.func17, Try.ntmps17
    go_wp2
    go_ret
    exact ⟨rfl, rfl⟩
theorem key_yes (n : Int) (h0 : 0 ≤ n) (h1 : n ≤ 63) (w : World) : Calls Try.prog 17 #[.int .i64 n] w fun e w' => e = .returned (.bool true) ∧ w = w' := by
  have := key_any n w
  rwa [decide_eq_true ⟨h0, h1⟩] at this
theorem key_no (n : Int) (h : n < 0 ∨ 63 < n) (w : World) : Calls Try.prog 17 #[.int .i64 n] w fun e w' => e = .returned (.bool false) ∧ w = w' := by
  have := key_any n w
  rwa [decide_eq_false (by omega)] at this
theorem val_any (n : Int) (w : World) : Calls Try.prog 19 #[.int .i64 n] w fun e w' => e = .returned (.bool (decide (0 ≤ n ∧ n ≤ 65535))) ∧ w = w' := by
  by_cases h0 : 0 ≤ n
  · by_cases h1 : n ≤ 65535
    · rw [decide_eq_true ⟨h0, h1⟩]
      go_enter Try.func19, Try.ntmps19
      go_wp2
      go_ret
      exact ⟨rfl, rfl⟩
    · rw [decide_eq_false (fun h => h1 h.2)]
      go_enter Try.func19, Try.ntmps19
      go_wp2
      go_ret
      exact ⟨rfl, rfl⟩
  · rw [decide_eq_false (fun h => h0 h.1)]
    go_enter Try.func19, Try.ntmps19
    go_wp2
    go_ret
    exact ⟨rfl, rfl⟩
theorem val_yes (n : Int) (h0 : 0 ≤ n) (h1 : n ≤ 65535) (w : World) : Calls Try.prog 19 #[.int .i64 n] w fun e w' => e = .returned (.bool true) ∧ w = w' := by
  have := val_any n w
  rwa [decide_eq_true ⟨h0, h1⟩] at this
theorem val_no (n : Int) (h : n < 0 ∨ 65535 < n) (w : World) : Calls Try.prog 19 #[.int .i64 n] w fun e w' => e = .returned (.bool false) ∧ w = w' := by
  have := val_any n w
  rwa [decide_eq_false (by omega)] at this
set_option maxRecDepth 100000 in
theorem wlen_any (h : WrA w t s v) : Calls Try.prog 14 #[.pointer (some ⟨t, 0, none⟩)] w fun e w' => e = .returned (.int .i64 (s.length : Int)) ∧ Keep (fun _ => False) w w' := by
  obtain ⟨A, c, rfl, _, _⟩ := wr_shape h.r
  have cl := h.cl
  obtain ⟨n, en⟩ : ∃ n, s.length = n := ⟨_, rfl⟩
  rw [en] at cl ⊢
  clear h en
  go_enter Try.func14, Try.ntmps14
  go_wp2
  go_ret
  exact ⟨rfl, Keep.refl _ _⟩
/-- The zero value of a Set, cell by cell. -/
noncomputable def wrZ : Array Value := ((Try.prog.info? 65).bind (fun i => i.zero)).elim #[] Value.cells
def isUW (u : Option Value) : Bool := match u with | some (.int .u32 0) => true | _ => false
def isIW (u : Option Value) : Bool := match u with | some (.int .i32 0) => true | _ => false
def isNW (u : Option Value) : Bool := match u with | some (.slice none 0 0) => true | _ => false
theorem isUW_eq {u : Option Value} (h : isUW u = true) : u = some (.int .u32 0) := by unfold isUW at h; split at h; rfl; cases h
theorem isIW_eq {u : Option Value} (h : isIW u = true) : u = some (.int .i32 0) := by unfold isIW at h; split at h; rfl; cases h
theorem isNW_eq {u : Option Value} (h : isNW u = true) : u = some (.slice none 0 0) := by unfold isNW at h; split at h; rfl; cases h
theorem wrZ_all : (List.range 64).all (fun k => isUW wrZ[k * 3]? && isIW wrZ[k * 3 + 1]?) = true := by kernel_rfl
theorem wrZ_l : isNW wrZ[192]? = true := by kernel_rfl
theorem wrZ_k (k : Nat) (hk : k ≤ 63) : wrZ[k * 3]? = some (.int .u32 0) ∧ wrZ[k * 3 + 1]? = some (.int .i32 0) := by
  have := List.all_eq_true.1 wrZ_all k (List.mem_range.2 (by omega))
  rw [Bool.and_eq_true] at this
  exact ⟨isUW_eq this.1, isIW_eq this.2⟩
theorem info_wset : (Try.prog.info? 65).map (fun i => (i.zero, i.size)) = some (some (.agg wrZ), 193) := by kernel_rfl
theorem zero_wset (w : World) : (zeroValue 65).run Try.prog w = .ok (.agg wrZ) w := by
  have h := info_wset
  cases e : Try.prog.info? 65 with
  | none => rw [e] at h; cases h
  | some i =>
    rw [e] at h
    simp at h
    simp [zeroValue, typeInfo, e, h.1]
theorem wnew_any (w : World) : Calls Try.prog 7 #[] w fun e w' => ∃ t, e = .returned (.pointer (some ⟨t, 0, none⟩)) ∧ WrA w' t [] (.slice none 0 0) ∧ Keep (fun _ => False) w w' ∧ w.heap.size ≤ t := by
  have hz := zero_wset
  have k1 := Keep.alloc (Keep.refl (fun _ => False) w) (.cells wrZ 65)
  have hc : ∀ i, (w.alloc (.cells wrZ 65)).cell? ⟨w.heap.size, i, none⟩ = wrZ[i]? := fun i => by simp
  have hf : ∀ i, (w.alloc (.cells wrZ 65)).frozen? ⟨w.heap.size, i, none⟩ = false := fun i => by simp
  have H := Lib.hid (show WrA (w.alloc (.cells wrZ 65)) w.heap.size [] (.slice none 0 0) from
    { c0 := fun k hk => by rw [hc, (wrZ_k k hk).1]; rfl
      c1 := fun k hk => by rw [hc, (wrZ_k k hk).2]
      cl := by rw [hc]; exact isNW_eq wrZ_l
      fz := hf
      r := OwnM.nil
      kb := fun x hx => by simp at hx
      nd := by simp
      rb := fun g hg => by cases hg })
  clear hc hf
  go_enter Try.func7, Try.ntmps7
  go_wp2
  go_ret
  exact ⟨_, rfl, H.out, k1, Nat.le_refl _⟩
/-- The closure of place: whether it is a write of the key. -/
theorem plc_any (key : Int) (x : WrI) (kb : Nat) (w : World) (h : w.cell? ⟨kb, 0, none⟩ = some (.int .i64 key)) :
    Calls Try.prog 33 #[.agg #[.int .i64 x.k, .int .i64 x.v, .bool x.g], .pointer (some ⟨kb, 0, none⟩)] w fun e w' => e = .returned (.bool (x.k == key)) ∧ Keep (fun _ => False) w w' := by
  have lt := lt_of_cell (a := ⟨kb, 0, none⟩) h
  have hk : (w.alloc (.cells #[.int .i64 x.k, .int .i64 x.v, .bool x.g] 38)).cell? ⟨kb, 0, none⟩ = some (.int .i64 key) := by
    rw [World.cell?_alloc_past _ _ _ lt]; exact h
  go_enter Try.func33, Try.ntmps33
  go_wp2
  go_ret
  exact ⟨rfl, (Keep.refl _ w).alloc _⟩
/-- Where a key is listed, or -1. -/
def IsPlace (s : List WrI) (key r : Int) : Prop := (∃ (i : Nat) (x : WrI), s[i]? = some x ∧ x.k = key ∧ r = (i : Int)) ∨ ((∀ x ∈ s, x.k ≠ key) ∧ r = -1)
set_option maxRecDepth 100000 in
set_option maxHeartbeats 1000000 in
theorem index_w (o : OwnM 3 wrC 38 w v s) (hl : s.length ≤ 100000) (key : Int) (kb : Nat) (hk : w.cell? ⟨kb, 0, none⟩ = some (.int .i64 key)) :
    Calls Try.prog 32 #[v, .func (.func 33) #[] #[.pointer (some ⟨kb, 0, none⟩)]] w fun e w' => ∃ r : Int, e = .returned (.int .i64 r) ∧ IsPlace s key r ∧ Keep (fun _ => False) w w' := by
  obtain ⟨A, c, rfl, hA0, hA1⟩ := wr_shape o
  go_enter Try.func32, Try.ntmps32
  go_wp2
  go_loopw [5, 8] (fun _ q wr => ∃ j : Nat, j ≤ s.length ∧ q = .int .i64 j ∧ Keep (fun _ => False) w wr ∧ ∀ m x, m < j → s[m]? = some x → x.k ≠ key) (fun _ q _ => s.length - (intOf q).toNat)
  case atStart => exact ⟨0, Nat.zero_le _, rfl, Keep.refl _ w, fun m x hm => absurd hm (Nat.not_lt_zero m)⟩
  case round =>
    obtain ⟨j, hj, rfl, bl, hno⟩ := hrel
    by_cases hlt : j < s.length
    · cases A with
      | none => rw [hA0 rfl] at hlt; exact absurd hlt (Nat.not_lt_zero j)
      | some ad =>
        obtain ⟨g, rfl⟩ := hA1 _ rfl
        obtain ⟨x, hx⟩ : ∃ x, s[j]? = some x := ⟨_, List.getElem?_eq_getElem hlt⟩
        obtain ⟨c0, c1, c2⟩ := wr_cells (o.keep bl (by simp)) j x hx
        have ck := bl.cell hk id
        have wk : IntKind.i64.wrap ((j : Int) + 1) = (j : Int) + 1 := IntWalk.i64_in _ (by omega)
        have hc := plc_any key x kb wr ck
        by_cases hy : x.k = key
        · have HX := Lib.hid hx
          have HY := Lib.hid hy
          rw [show (x.k == key) = true by simpa using hy] at hc
          clear hno hA0 hA1 o ck hx hy
          go_wp2_with fail
          refine hc.mono ?_
          rintro e w1 ⟨rfl, b1⟩
          clear hc c0 c1 c2
          go_wp2
          go_ret
          exact ⟨_, rfl, .inl ⟨j, x, HX.out, HY.out, rfl⟩, bl.trans b1⟩
        · rw [show (x.k == key) = false by simpa using hy] at hc
          have hno2 : ∀ m y, m < j + 1 → s[m]? = some y → y.k ≠ key := fun m y hm hy2 => by
            by_cases e : m = j
            · subst e; rw [hx] at hy2; cases hy2; exact hy
            · exact hno m y (by omega) hy2
          have HN := Lib.hid hno2
          clear hno hA0 hA1 hno2 hy o ck hx
          go_wp2_with fail
          refine hc.mono ?_
          rintro e w1 ⟨rfl, b1⟩
          clear hc c0 c1 c2
          go_wp2
          go_roundw
          case rel => exact ⟨j + 1, by omega, by go_num, bl.trans b1, HN.out⟩
          case measure => simp [intOf]; omega
    · obtain rfl : j = s.length := by omega
      have HN := Lib.hid hno
      clear hno hA0 hA1 o
      go_wp2
      go_ret
      refine ⟨_, rfl, .inr ⟨fun x hx => ?_, rfl⟩, bl⟩
      obtain ⟨m, hm, rfl⟩ := List.getElem_of_mem hx
      exact HN.out m _ hm (List.getElem?_eq_getElem hm)
theorem place_any (h : WrA w t s v) (key : Int) : Calls Try.prog 24 #[.pointer (some ⟨t, 0, none⟩), .int .i64 key] w fun e w' => ∃ r : Int, e = .returned (.int .i64 r) ∧ IsPlace s key r ∧ Keep (fun _ => False) w w' := by
  have k1 := (Keep.refl (fun _ => False) w).alloc (.cells #[.int .i64 key] 3)
  have h1 := h.same k1
  have ck : (w.alloc (.cells #[.int .i64 key] 3)).cell? ⟨w.heap.size, 0, none⟩ = some (.int .i64 key) := by simp
  have hc := index_w h1.r (Nat.le_trans h.short (by omega)) key w.heap.size ck
  have cl := h1.cl
  clear h h1 ck
  go_enter Try.func24, Try.ntmps24
  go_wp2_with fail
  refine hc.mono ?_
  rintro e w1 ⟨r, rfl, hr, k2⟩
  clear hc cl
  go_wp2
  go_ret
  exact ⟨r, rfl, hr, k1.trans k2⟩
set_option maxRecDepth 100000 in
theorem wget_any (h : WrA w t s v) (key y : Int) (is wrote : Bool) (hs : getI s key = (y, is, wrote)) :
    Calls Try.prog 15 #[.pointer (some ⟨t, 0, none⟩), .int .i64 key] w fun e w' => e = .returned (.tuple #[.int .i64 y, .bool is, .bool wrote]) ∧ Keep (fun _ => False) w w' := by
  have hp := place_any h key
  have H := Lib.hid h
  clear h
  go_enter Try.func15, Try.ntmps15
  go_wp2_with fail
  refine hp.mono ?_
  rintro e w1 ⟨r, rfl, hr, k1⟩
  clear hp
  rcases hr with ⟨i, x, hx, hk, rfl⟩ | ⟨hno, rfl⟩
  · have hm : x ∈ s := List.mem_of_getElem? hx
    have e1 := wlook_of H.out.nd hm
    rw [hk] at e1
    obtain ⟨A, c, ev, hA0, hA1⟩ := wr_shape H.out.r
    have li : i < s.length := (List.getElem?_eq_some_iff.1 hx).1
    cases A with
    | none => rw [hA0 rfl] at li; exact absurd li (Nat.not_lt_zero i)
    | some ad =>
      obtain ⟨g, rfl⟩ := hA1 _ rfl
      have h1 := H.out.same k1
      have cl := h1.cl
      have o := h1.r
      rw [ev] at cl o
      obtain ⟨c0, c1, c2⟩ := wr_cells o i x hx
      have hg := (H.out.kb x hm).2.2
      have ok : y = x.v ∧ is = !x.g ∧ wrote = true := by
        unfold getI at hs
        rw [e1] at hs
        simp only at hs
        split at hs
        · rename_i q; cases hs; rw [hg q, q]; exact ⟨rfl, rfl, rfl⟩
        · rename_i q; cases hs
          have : x.g = false := by simpa using q
          rw [this]; exact ⟨rfl, rfl, rfl⟩
      obtain ⟨rfl, rfl, rfl⟩ := ok
      obtain ⟨xk, xv, xg⟩ := x
      simp only at c0 c1 c2
      have k2 : Keep (fun _ => False) w (w1.alloc (.cells #[.int .i64 xk, .int .i64 xv, .bool xg] 38)) := k1.alloc _
      clear hs hg hx hm e1 hA0 hA1 ev o h1 hk
      go_wp2_with fail
      go_quiet (fail)
      go_wp2
      go_ret3
      exact ⟨rfl, k2.trans (drewN_keep _ _ _)⟩
  · have e1 : wlook s key = none := wlook_none hno
    unfold getI at hs
    rw [e1] at hs
    cases hs
    clear hno e1
    go_wp2
    go_ret3
    exact ⟨rfl, k1⟩
end
end Go.Proofs.Ythojmdjcfkadoaa
