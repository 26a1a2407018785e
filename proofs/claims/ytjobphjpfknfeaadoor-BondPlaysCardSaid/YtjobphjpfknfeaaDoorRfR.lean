/- The document's own Bonds: all for whom one waits, itself or by others (reach). Conditions: as XRfB's. -/
import Derived.Test.YtjobphjpfknfeaaDoorRfF
import Derived.BigQuiet
namespace Go.Proofs.YtjobphjpfknfeaaDoor
open Go.ChangeShapes Go.WideShapes Go.ChangeAt Go.RowKit
set_option linter.unusedVariables false
open Classical

theorem nodup_le : ∀ {l m : List Int}, l.Nodup → (∀ x ∈ l, x ∈ m) → l.length ≤ m.length
  | [], m, _, _ => Nat.zero_le _
  | x :: l, m, hn, h => by
    rw [List.nodup_cons] at hn
    have hx := h x (by simp)
    have := nodup_le (l := l) (m := m.erase x) hn.2 fun y hy => (List.mem_erase_of_ne (fun e => by subst e; exact hn.1 hy)).2 (h y (by simp [hy]))
    rw [List.length_erase_of_mem hx] at this
    have := List.length_pos_of_mem hx
    rw [List.length_cons]
    omega
section
variable {w w' : World} {r : Nat} {vs : Nat → Value} {s : BdS} {id : Int}
/-- What has been found so far: once each, the first is id, and id reaches the others. -/
structure Fnd (s : BdS) (id : Int) (zs : List Int) : Prop where
  nd : zs.Nodup
  rc : ∀ x ∈ zs, x = id ∨ s.Rch id x
  hd : ∃ ys, zs = id :: ys
def Closed (s : BdS) (i : Nat) (zs : List Int) : Prop := ∀ j, j < i → ∀ y, s.wt (zs.getD j 0) y → y ∈ zs
theorem Fnd.one : Fnd s id [id] := ⟨by simp, fun x hx => .inl (List.mem_singleton.1 hx), [], rfl⟩
theorem Fnd.few {zs : List Int} (h : Fnd s id zs) : zs.length ≤ s.ed.length + 1 := by
  have := nodup_le (m := id :: s.ed.map Prod.snd) h.nd fun x hx => by
    rcases h.rc x hx with rfl | q
    · simp
    · obtain ⟨c, q, _⟩ := Rch.last q
      exact List.mem_cons_of_mem _ (List.mem_map.2 ⟨(c, x), q.1, rfl⟩)
  simpa using this
theorem Fnd.push {zs : List Int} {y : Int} (h : Fnd s id zs) (hy : y ∉ zs) (hr : s.Rch id y) : Fnd s id (zs ++ [y]) := by
  refine ⟨?_, fun x hx => ?_, ?_⟩
  · rw [List.nodup_append]
    exact ⟨h.nd, by simp, fun a ha b hb => by rw [List.mem_singleton] at hb; subst hb; exact fun e => hy (e ▸ ha)⟩
  · rcases List.mem_append.1 hx with hx | hx
    · exact h.rc x hx
    · rw [List.mem_singleton] at hx; subst hx; exact .inr hr
  · obtain ⟨ys, rfl⟩ := h.hd
    exact ⟨ys ++ [y], rfl⟩
theorem getD_push {zs : List Int} {y : Int} {j : Nat} (hj : j < zs.length) : (zs ++ [y]).getD j 0 = zs.getD j 0 := by
  rw [List.getD_eq_getElem?_getD, List.getD_eq_getElem?_getD, List.getElem?_append_left hj]
theorem Closed.push {zs : List Int} {y : Int} {i : Nat} (h : Closed s i zs) (hi : i ≤ zs.length) : Closed s i (zs ++ [y]) := fun j hj z hz => by
  rw [getD_push (by omega)] at hz
  exact List.mem_append_left _ (h j hj z hz)
theorem Closed.next {zs : List Int} {i : Nat} (h : Closed s i zs) (ha : ∀ t, t < (s.waits (zs.getD i 0)).length → (s.waits (zs.getD i 0)).getD t 0 ∈ zs) : Closed s (i + 1) zs := fun j hj y hy => by
  by_cases e : j = i
  · subst e
    have m : y ∈ s.waits (zs.getD j 0) := mem_waits.2 hy
    obtain ⟨t, ht, et⟩ := List.mem_iff_getElem.1 m
    have := ha t ht
    rw [List.getD_eq_getElem?_getD, List.getElem?_eq_getElem ht, et] at this
    exact this
  · exact h j (by omega) y hy
theorem Closed.all {zs : List Int} (h : Closed s zs.length zs) {a b : Int} (r : s.Rch a b) : a ∈ zs → b ∈ zs := by
  have step : ∀ x y, x ∈ zs → s.wt x y → y ∈ zs := fun x y hx hw => by
    obtain ⟨j, hj, e⟩ := List.mem_iff_getElem.1 hx
    exact h j hj y (by rw [List.getD_eq_getElem?_getD, List.getElem?_eq_getElem hj, e]; exact hw)
  induction r with
  | one w => exact fun ha => step _ _ ha w
  | more w _ ih => exact fun ha => ih (step _ _ ha w)
theorem waits_len {a : Int} : (s.waits a).length ≤ s.ed.length := by
  have := nodup_le (l := s.waits a) (m := s.ed.map Prod.snd) (List.Pairwise.imp (fun h => by omega) (rise_rises : (s.waits a).Pairwise (· < ·))) fun x hx => List.mem_map.2 ⟨(a, x), (mem_waits.1 hx).1, rfl⟩
  simpa using this
/-- In the outer look. -/
def Rc1 (w : World) (s : BdS) (id : Int) (i : Nat) (u iv : Value) (wr : World) : Prop := ∃ zs, i ≤ zs.length ∧ iv = .int .i64 i ∧ OwnN w.heap.size wr u zs ∧ Fnd s id zs ∧ Closed s i zs ∧ Keep (fun _ => False) w wr
/-- In the inner one, over those for whom a = zs[i] waits. -/
def Rc2 (w : World) (s : BdS) (id : Int) (b2 i : Nat) (a : Int) (u7 : Value) (k : Nat) (u kv : Value) (wr : World) : Prop :=
  ∃ zs, i < zs.length ∧ zs.getD i 0 = a ∧ k ≤ (s.waits a).length ∧ kv = .int .i64 k ∧ OwnN w.heap.size wr u zs ∧ OwnN b2 wr u7 (s.waits a) ∧ (∀ g, u.ownBlock = some g → u7.ownBlock ≠ some g) ∧ Fnd s id zs ∧ Closed s i zs ∧ (∀ t, t < k → (s.waits a).getD t 0 ∈ zs) ∧ Keep (fun _ => False) w wr
/-- In the innermost: whether y is among the first j. -/
def Rc3 (x : World) (zs : List Int) (y : Int) (j : Nat) (hv jv : Value) (wr : World) : Prop := j ≤ zs.length ∧ jv = .int .i64 j ∧ Keep (fun _ => False) x wr ∧ ∃ h : Bool, hv = .bool h ∧ (h = true ↔ ∃ t, t < j ∧ zs.getD t 0 = y)
set_option maxRecDepth 100000 in
set_option maxHeartbeats 4000000 in
theorem rreach_any (h : RB w r vs s) : Calls Tryd.prog 35 #[.pointer (some ⟨r, 0, .none⟩), .int .i64 id] w fun e w' => ∃ (g off m c : Nat) (ys : List Int), e = .returned (.slice (some ⟨g, off, .none⟩) m c) ∧ ys.length = m ∧ m ≤ c ∧ m ≤ 60 ∧ (∀ t, t < m → w'.cell? ⟨g, off + t, none⟩ = some (.int .i64 (ys.getD t 0))) ∧ w.heap.size ≤ g ∧ (∀ y, y ≠ id → (y ∈ ys ↔ s.Rch id y)) ∧ Keep (fun _ => False) w w' := by
  have few := h.few.2
  have HH := Lib.hid h
  have o0 := own_litN (w := w) (B := w.heap.size) (Nat.le_refl _) id
  have k0 : Keep (fun _ => False) w (w.alloc (.cells #[.int .i64 id] 3)) := (Keep.refl _ _).alloc _
  clear h
  go_enter Tryd.func35, Tryd.ntmps35
  go_wp2
  go_loopg [5, 6, 7, 8, 9, 10] 100 (fun mm u iv v7 v8 v9 v10 wr => ∃ i : Nat, mm + i = 100 ∧ Rc1 w s id i u iv wr)
  case atStart => exact ⟨0, by omega, [id], by simp, rfl, o0, Fnd.one, fun j hj => by omega, k0⟩
  case round =>
    clear o0 k0
    obtain ⟨i, hgi, zs, il, rfl, ow, fd, cl, kw⟩ := hrel
    have zf := fd.few
    have h := HH.out.later kw
    obtain ⟨A, c, rfl, hA0, hA1, hcap⟩ := out9N ow
    have z1 : 1 ≤ zs.length := by obtain ⟨ys, e⟩ := fd.hd; rw [e]; simp
    have hA : A ≠ none := fun q => by rw [(hA0 q).1] at z1; simp at z1
    obtain ⟨ad, rfl⟩ := Option.ne_none_iff_exists'.1 hA
    obtain ⟨g, rfl⟩ := hA1 _ rfl
    have hcap := hcap (by simp)
    clear hA hA0 hA1
    obtain ⟨n, hn⟩ : ∃ n, zs.length = n := ⟨_, rfl⟩
    have ow' := ow
    rw [hn] at il zf z1 hcap ow' ⊢
    have HN := Lib.hid hn
    have FD := Lib.hid fd
    have CL := Lib.hid cl
    have wi : IntKind.i64.wrap ((i : Int) + 1) = (i : Int) + 1 := IntWalk.i64_in _ (by omega)
    clear hn fd cl
    by_cases hlt : i < n
    · have hc := ow'.cell i (by rw [HN.out]; exact hlt)
      obtain ⟨a, ea⟩ : ∃ a, zs.getD i 0 = a := ⟨_, rfl⟩
      rw [ea] at hc
      have EA := Lib.hid ea
      have rf := rfor_any (id := a) h
      have bw := kw.size
      have gw := (OwnN.lt ow' rfl).2
      clear ea h
      go_wp2_with fail
      refine rf.mono ?_
      rintro e w2 ⟨u7, rfl, o7, k7⟩
      have kw2 := kw.trans k7
      have ow2 := OwnN.keep ow k7 (fun _ _ q => q)
      have dj : ∀ g', (Value.slice (some ⟨g, 0, none⟩) zs.length c).ownBlock = some g' → u7.ownBlock ≠ some g' := fun g' e1 e2 => by
        have e1 : g = g' := by simpa [Value.ownBlock] using e1
        have := (OwnN.lt o7 e2).1
        omega
      obtain ⟨b2, eb2⟩ : ∃ b2, wr.heap.size = b2 := ⟨_, rfl⟩
      rw [eb2] at o7 bw
      rw [HN.out] at ow2 dj
      obtain ⟨A7, c7, rfl, hA7, hB7⟩ := OwnN.shapeN o7
      obtain ⟨m, em⟩ : ∃ m, (s.waits a).length = m := ⟨_, rfl⟩
      have m60 : m ≤ 60 := by rw [← em]; exact Nat.le_trans waits_len few
      have EM := Lib.hid em
      rw [em] at o7 dj ⊢
      have R2 : Rc2 w s id b2 i a (.slice A7 m c7) 0 (.slice (some ⟨g, 0, none⟩) n c) (.int .i64 (0 : Nat)) w2 := by
        refine ⟨zs, by rw [HN.out]; exact hlt, EA.out, Nat.zero_le _, rfl, ow2, o7, dj, FD.out, CL.out, fun t ht => by omega, kw2⟩
      clear ow ow' k7 kw kw2 ow2 o7 dj rf eb2 em hc hA7
      go_wp2
      go_loopg [5, 8, 9, 10] m (fun mm u kv v9 v10 wr => ∃ k : Nat, mm + k = m ∧ Rc2 w s id b2 i a (.slice A7 m c7) k u kv wr)
      case atStart => exact ⟨0, by omega, R2⟩
      case round =>
        clear R2
        obtain ⟨k, hgk, z2, iz, ea2, km, rfl, ow, o7, dj, fd, cl, has, kw⟩ := hrel
        rw [EM.out] at km
        by_cases hk : k < m
        · have hA7n : A7 ≠ none := fun q => by
            subst q
            have := o7.2
            rcases this with ⟨_, q⟩ | ⟨g', c', cur, hv, _⟩
            · have q : (s.waits a).length = 0 := q
              rw [EM.out] at q
              omega
            · cases hv
          obtain ⟨ad7, rfl⟩ := Option.ne_none_iff_exists'.1 hA7n
          obtain ⟨g7, rfl⟩ := hB7 _ rfl
          have hy := OwnN.cell (n := m) (c := c7) o7 k (by rw [EM.out]; exact hk)
          obtain ⟨y, ey⟩ : ∃ y, (s.waits a).getD k 0 = y := ⟨_, rfl⟩
          rw [ey] at hy
          have ya : s.wt a y := mem_waits.1 (by
            rw [← ey, List.getD_eq_getElem?_getD, List.getElem?_eq_getElem (by rw [EM.out]; exact hk)]
            exact List.getElem_mem _)
          obtain ⟨A2, c2, rfl, hA2, hB2⟩ := OwnN.shapeN ow
          have hA2n : A2 ≠ none := fun q => by rw [hA2 q] at iz; simp at iz
          obtain ⟨ad2, rfl⟩ := Option.ne_none_iff_exists'.1 hA2n
          obtain ⟨g2, rfl⟩ := hB2 _ rfl
          have wk : IntKind.i64.wrap ((k : Int) + 1) = (k : Int) + 1 := IntWalk.i64_in _ (by omega)
          obtain ⟨x3, rfl⟩ : ∃ x, x = wr := ⟨_, rfl⟩
          have zf2 := fd.few
          obtain ⟨n2, hn2⟩ : ∃ n2, z2.length = n2 := ⟨_, rfl⟩
          have HN2 := Lib.hid hn2
          rw [hn2] at zf2 ow dj ⊢
          have EY := Lib.hid ey
          have KW := Lib.hid kw
          have FD2 := Lib.hid fd
          have HAS := Lib.hid has
          clear hA2n hA2 hB2 hA7n hB7 ey hn2 kw fd has
          go_wp2
          go_loopg [9, 10] n2 (fun mm hv jv wz => ∃ j : Nat, mm + j = n2 ∧ Rc3 x3 z2 y j hv jv wz)
          case atStart => exact ⟨0, by omega, Nat.zero_le _, rfl, Keep.refl _ _, false, rfl, by simp⟩
          case round =>
            obtain ⟨j, hgj, jn, rfl, kz, hb, rfl, hh⟩ := hrel
            rw [HN2.out] at jn
            have wj : IntKind.i64.wrap ((j : Int) + 1) = (j : Int) + 1 := IntWalk.i64_in _ (by omega)
            have HH2 := Lib.hid hh
            clear hh
            by_cases hj : j < n2
            · have hc2 := kz.cell (OwnN.cell ow j (by rw [HN2.out]; exact hj)) (fun q => q)
              have hy2 := kz.cell hy (fun q => q)
              obtain ⟨x, ex⟩ : ∃ x, z2.getD j 0 = x := ⟨_, rfl⟩
              rw [ex] at hc2
              have EX := Lib.hid ex
              clear ex hy ow
              cases hb
              · by_cases hx : x = y
                · subst hx
                  go_wp2_with fail
                  go_quiet (fail)
                  go_wp2_with fail
                  have kz := kz.trans (drewN_keep _ _ nq)
                  go_roundg (n2 - (j + 1))
                  case measure => omega
                  case rel => exact ⟨j + 1, by omega, by rw [HN2.out]; omega, by go_num, kz, true, rfl, ⟨fun _ => ⟨j, by omega, EX.out⟩, fun _ => rfl⟩⟩
                · have hx2 : (x == y) = false := by simpa using hx
                  go_wp2_with fail
                  go_quiet (fail)
                  go_wp2_with fail
                  have kz := kz.trans (drewN_keep _ _ nq)
                  go_roundg (n2 - (j + 1))
                  case measure => omega
                  case rel => exact ⟨j + 1, by omega, by rw [HN2.out]; omega, by go_num, kz, false, rfl, ⟨(fun q => by cases q), fun ⟨t, ht, et⟩ => by
                    by_cases e : t = j
                    · subst e; exact absurd (EX.out.symm.trans et) hx
                    · exact HH2.out.2 ⟨t, by omega, et⟩⟩⟩
              · go_wp2_with fail
                go_quiet (fail)
                go_wp2_with fail
                have kz := kz.trans (drewN_keep _ _ nq)
                go_roundg (n2 - (j + 1))
                case measure => omega
                case rel => exact ⟨j + 1, by omega, by rw [HN2.out]; omega, by go_num, kz, true, rfl, ⟨fun _ => by obtain ⟨t, ht, et⟩ := HH2.out.1 (by simp); exact ⟨t, by omega, et⟩, fun _ => rfl⟩⟩
            · obtain rfl : j = n2 := by omega
              have kw := KW.out.trans kz
              have bz := kw.size
              have o7 := OwnN.keep o7 kz (fun _ _ q => q)
              have ow := OwnN.keep ow kz (fun _ _ q => q)
              have hy2 := kz.cell hy (fun q => q)
              clear hy
              cases hb
              · have hn : y ∉ z2 := fun q => by
                  obtain ⟨t, ht, et⟩ := List.mem_iff_getElem.1 q
                  have : ∃ t, t < j ∧ z2.getD t 0 = y := ⟨t, by rw [HN2.out] at ht; exact ht, by rw [List.getD_eq_getElem?_getD, List.getElem?_eq_getElem ht, et]; rfl⟩
                  simpa using HH2.out.2 this
                have fd := FD2.out.push hn (by
                  rcases FD2.out.rc a (by rw [← ea2, List.getD_eq_getElem?_getD, List.getElem?_eq_getElem iz]; exact List.getElem_mem iz) with q | q
                  · rw [← q]; exact .one ya
                  · exact Rch.trans q (.one ya))
                have FD3 := Lib.hid fd
                have PU : ∀ u9 w9, OwnN w.heap.size w9 u9 (z2 ++ [y]) → OwnN b2 w9 (.slice (some ⟨g7, 0, none⟩) m c7) (s.waits a) → (∀ g, u9.ownBlock = some g → (Value.slice (some ⟨g7, 0, none⟩) m c7).ownBlock ≠ some g) → Keep (fun _ => False) w w9 → Rc2 w s id b2 i a (.slice (some ⟨g7, 0, none⟩) m c7) (k + 1) u9 (.int .i64 ((k : Int) + 1)) w9 := fun u9 w9 o9 p7 d9 k9 => by
                  refine ⟨z2 ++ [y], by rw [List.length_append]; omega, by rw [getD_push iz]; exact ea2, by rw [EM.out]; omega, by go_num, o9, p7, d9, FD3.out, cl.push (by omega), fun t ht => ?_, k9⟩
                  by_cases e : t = k
                  · subst e; rw [EY.out]; exact List.mem_append_right _ (by simp)
                  · exact List.mem_append_left _ (HAS.out t (by omega))
                have PU := Lib.hid PU
                clear fd hn ya
                go_wp2_with (with_reducible refine wp_stop 57 rfl ?_)
                intro _
                refine wp_pushN rfl (.tmp 51) (.tmp 56) rfl w.heap.size bz (.slice (some ⟨g2, 0, none⟩) j c2) z2 rfl ow y rfl (by rw [HN2.out]; omega) ?_
                intro g9 c9 w9 o9 k9 hg9
                have og2 := OwnN.lt ow (g := g2) rfl
                have og7 := OwnN.lt o7 (g := g7) rfl
                have ne27 : g2 ≠ g7 := fun e => dj g2 rfl (by rw [e]; rfl)
                have R := PU.out _ w9 o9 (OwnN.keep o7 k9 (fun q e1 e2 => by
                  have e1 : g7 = q := by simpa [Value.ownBlock] using e1
                  have e2 : g2 = q := by simpa [Value.ownBlock] using e2
                  omega)) (fun q e1 e2 => by
                  have e1 : g9 = q := by simpa [Value.ownBlock] using e1
                  have e2 : g7 = q := by simpa [Value.ownBlock] using e2
                  rcases hg9 with e3 | e3
                  · have e3 : g2 = g9 := by simpa [Value.ownBlock] using e3
                    omega
                  · omega) (kw.older k9 (fun q e => (OwnN.lt ow e).1))
                rw [HN2.out] at R ⊢
                clear o9 k9 hg9 ow o7 dj kw hy2 kz
                go_wp2
                go_roundg (m - (k + 1))
                case measure => omega
                case rel => exact ⟨k + 1, by omega, R⟩
              · have hm : y ∈ z2 := by
                  obtain ⟨t, ht, et⟩ := HH2.out.1 (by simp)
                  rw [← et, List.getD_eq_getElem?_getD, List.getElem?_eq_getElem (by rw [HN2.out]; exact ht)]
                  exact List.getElem_mem _
                have R : Rc2 w s id b2 i a (.slice (some ⟨g7, 0, none⟩) m c7) (k + 1) (.slice (some ⟨g2, 0, none⟩) j c2) (.int .i64 ((k : Int) + 1)) wr := by
                  refine ⟨z2, iz, ea2, by rw [EM.out]; omega, by go_num, ow, o7, dj, FD2.out, cl, fun t ht => ?_, kw⟩
                  by_cases e : t = k
                  · subst e; rw [EY.out]; exact hm
                  · exact HAS.out t (by omega)
                clear ow o7 dj kw hy2 kz hm
                go_wp2_with fail
                go_roundg (m - (k + 1))
                case measure => omega
                case rel => exact ⟨k + 1, by omega, R⟩
        · obtain rfl : k = m := by omega
          have R : Rc1 w s id (i + 1) u5 (.int .i64 ((i : Int) + 1)) wr := ⟨z2, by omega, by go_num, ow, fd, cl.next (by rw [ea2, EM.out]; exact has), kw⟩
          have zf2 := fd.few
          clear ow o7 dj fd cl has kw
          go_wp2_with fail
          go_roundg (100 - (i + 1))
          case measure => omega
          case rel => exact ⟨i + 1, by omega, R⟩
    · obtain rfl : i = n := by omega
      clear h
      obtain ⟨ys, ez⟩ := FD.out.hd
      have yl : ys.length + 1 = i := by rw [← HN.out, ez]; simp
      obtain ⟨off, eof, hof⟩ : ∃ off : Nat, (if c = 1 then some ({ block := g, off := 0 } : Addr) else some { block := g, off := 1 }) = some ⟨g, off, .none⟩ ∧ (c ≠ 1 → off = 1) := by
        by_cases hc : c = 1
        · exact ⟨0, by rw [if_pos hc], fun h => absurd hc h⟩
        · exact ⟨1, by rw [if_neg hc], fun _ => rfl⟩
      have c1 : 1 ≤ c := by omega
      have RES : ∀ t, t < i - 1 → wr.cell? ⟨g, off + t, none⟩ = some (.int .i64 (ys.getD t 0)) := fun t ht => by
        have := OwnN.cell ow' (t + 1) (by rw [HN.out]; omega)
        rw [ez] at this
        rw [hof (by omega), Nat.add_comm 1 t]
        exact this
      have HY : ∀ y, y ≠ id → (y ∈ ys ↔ s.Rch id y) := fun y hy => by
        constructor
        · intro h
          rcases FD.out.rc y (by rw [ez]; exact List.mem_cons_of_mem _ h) with q | q
          · exact absurd q hy
          · exact q
        · intro h
          have := Closed.all (by rw [HN.out]; exact CL.out) h (by rw [ez]; simp)
          rw [ez] at this
          exact (List.mem_cons.1 this).resolve_left hy
      have gw := (OwnN.lt ow' (g := g) rfl).1
      have HY := Lib.hid HY
      have RES := Lib.hid RES
      have YL := Lib.hid yl
      have m1 : i - 1 ≤ c - 1 := by omega
      clear ow ow' ez yl hof
      go_wp2
      go_ret
      exact ⟨g, off, i - 1, c - 1, ys, by first | rfl | simp, by have := YL.out; omega, m1, by omega, RES.out, gw, HY.out, kw⟩
end
end Go.Proofs.YtjobphjpfknfeaaDoor
