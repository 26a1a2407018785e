/- slices.Grow and slices.Concat of slices of pointers to tallies: all of them, one behind the other, in a slice of the call's own; condition: at most 100,000 in all. -/
import Derived.Test.YtbbinfdgmfmaeaaMkM
import Derived.Lib.AppendZerosOnto
import Derived.Lib.AppendZeros
import Derived.Laws.AppendOwnNone
namespace Go.Proofs.Ytbbinfdgmfmaeaa
open Go.ChangeShapes Go.WideShapes Go.ChangeAt Go.RowKit
set_option linter.unusedVariables false

section
variable {w w' : World} {v : Value}
theorem info_ptr : (Try.prog.info? 60).map (fun i => (i.zero, i.size, i.bytes)) = some (some (.pointer none), 1, 8) := by kernel_rfl
set_option maxRecDepth 100000 in
/-- Grow of nil: nil, or an empty slice of the call's own. -/
theorem grow_nil (n : Nat) (hn : n ≤ 100000) (w : World) : Calls Try.prog 45 #[.slice none 0 0, .int .i64 n] w fun e w' => ∃ v', e = .returned v' ∧ OwnAt (α := Nat) w.heap.size ptrV 60 w' v' [] ∧ Keep (fun _ => False) w w' := by
  rcases Nat.eq_zero_or_pos n with rfl | h0
  · go_enter Try.func45, Try.ntmps45
    go_wp2
    go_ret
    exact ⟨_, rfl, World.ownsRow_nil _ _ _ _, Keep.refl _ _⟩
  · obtain ⟨i0, hi0, hz0, hz1, hz2⟩ := info_parts info_ptr
    have hr := fun ty => Lib.run_append_grow_zeros (P := Try.prog) w 56 3 ty 60 i0 _ .i64 .i64 Try.underlying56 Try.underlying3 hi0 hz0 none 0 0 [] (run_firstCells_none _ _ _ _ _) n h0 (by omega) (by omega) (by omega) (by rw [hz2]; omega) (growslice_fits (by omega) (by rw [hz2]; omega))
    have c1 := grownCap_ge w (0 + n) 0 60
    have c2 := grownCap_le_maxLen w (0 + n) 0 60 (by unfold maxLen; omega)
    obtain ⟨G, hG⟩ : ∃ G, grownCap w (0 + n) 0 60 = G := ⟨_, rfl⟩
    rw [hG] at c1 c2
    simp only [hG] at hr
    have G63 : G ≤ 9223372036854775807 := by unfold maxLen at c2; omega
    have w1 : IntKind.i64.wrap ((n : Int) - 0) = (n : Int) := IntWalk.i64_in _ (by omega)
    have p0 : (0 : Int) < (n : Int) := by omega
    obtain ⟨cur, ec, hc⟩ : ∃ cur : Array Value, ((#[] : Array Value) ++ Builtin.zeroCells (Value.pointer none).cells n ++ Builtin.zeroCells (Value.pointer none).cells (G - (0 + n))) = cur ∧ cur.size = G * 1 := ⟨_, rfl, by rw [Array.size_append, Array.size_append, size_zeroCells, size_zeroCells]; show 0 + n * 1 + (G - (0 + n)) * 1 = G * 1; omega⟩
    have ec' : (([] : List Value).toArray ++ Builtin.zeroCells (Value.pointer none).cells n ++ Builtin.zeroCells (Value.pointer none).cells (G - (0 + n))) = cur := ec
    simp only [ec'] at hr
    have HR := Lib.hid hr
    have O : (w.drew.alloc (.cells cur 60)).ownsRow w.heap.size 60 1 (.slice (some ⟨w.heap.size, 0, none⟩) 0 G) 0 [] := World.ownsRow_made w.drew cur G (Nat.le_refl _) c2 hc
    clear hr hG ec ec' hc
    go_enter Try.func45, Try.ntmps45
    go_wp2_with (at_builtin; refine Lib.wpList_append_run _ rfl _ _ _ _ rfl _ _ rfl rfl _ _ (HR.out _) ?_)
    go_ret
    exact ⟨_, rfl, O, ((Keep.refl _ w).drew).alloc _⟩
/-- A slice of pointers that lies somewhere. -/
def LiesN (w : World) (v : Value) (bs : List Nat) : Prop :=
  (v = .slice none 0 0 ∧ bs = []) ∨ ∃ ad c, v = .slice (some ad) bs.length c ∧ ∀ j b, bs[j]? = some b → w.cell? (ad.add j) = some (ptrV b)
theorem LiesN.same {bs : List Nat} (h : LiesN w v bs) (k : Keep (fun _ => False) w w') : LiesN w' v bs := by
  rcases h with h | ⟨ad, c, rfl, h⟩
  · exact .inl h
  · exact .inr ⟨ad, c, rfl, fun j b hb => k.cell (h j b hb) id⟩
/-- What is put together. -/
def catN (ps : List (Value × List Nat)) : List Nat := ps.flatMap Prod.snd
theorem cat_take (ps : List (Value × List Nat)) (k : Nat) (p : Value × List Nat) (hp : ps[k]? = some p) : catN (ps.take (k + 1)) = catN (ps.take k) ++ p.2 := by
  unfold catN
  rw [List.take_add_one, hp, List.flatMap_append]
  simp
theorem cat_len (ps : List (Value × List Nat)) (k : Nat) : (catN (ps.take k)).length ≤ (catN ps).length := by
  have : catN ps = catN (ps.take k) ++ catN (ps.drop k) := by unfold catN; rw [← List.flatMap_append, List.take_append_drop]
  rw [this, List.length_append]; omega
/-- The parts, as a variadic call is given them: in block g, one a cell. -/
structure Parts (w : World) (g : Nat) (ps : List (Value × List Nat)) : Prop where
  cell : ∀ j p, ps[j]? = some p → w.cell? ⟨g, j, none⟩ = some p.1
  lies : ∀ p ∈ ps, LiesN w p.1 p.2
theorem Parts.same {g : Nat} {ps : List (Value × List Nat)} (h : Parts w g ps) (k : Keep (fun _ => False) w w') : Parts w' g ps := ⟨fun j p hp => k.cell (h.cell j p hp) id, fun p hp => (h.lies p hp).same k⟩
def RC1 (w : World) (ps : List (Value × List Nat)) (k : Nat) (s i : Value) (wr : World) : Prop := ∃ n : Nat, k ≤ ps.length ∧ i = .int .i64 k ∧ s = .int .i64 n ∧ n = (catN (ps.take k)).length ∧ w = wr
def RC2 (w : World) (ps : List (Value × List Nat)) (k : Nat) (v i : Value) (wr : World) : Prop := k ≤ ps.length ∧ i = .int .i64 k ∧ OwnAt w.heap.size ptrV 60 wr v (catN (ps.take k)) ∧ Keep (fun _ => False) w wr
set_option maxRecDepth 100000 in
set_option maxHeartbeats 1000000 in
theorem concat_any (g c : Nat) (ps : List (Value × List Nat)) (h : Parts w g ps) (hp : ps.length ≤ 1000) (hl : (catN ps).length ≤ 100000) :
    Calls Try.prog 36 #[.slice (some ⟨g, 0, none⟩) ps.length c] w fun e w' => ∃ v', e = .returned v' ∧ OwnAt w.heap.size ptrV 60 w' v' (catN ps) ∧ Keep (fun _ => False) w w' := by
  have H := Lib.hid h
  obtain ⟨n, en⟩ : ∃ n, ps.length = n := ⟨_, rfl⟩
  have EN := Lib.hid en
  have et : ps.take n = ps := by rw [← en]; exact List.take_length
  rw [en] at hp ⊢
  have ET := Lib.hid et
  clear h en et
  go_enter Try.func36, Try.ntmps36
  go_wp2
  go_loopw [3, 11] (fun s i wr => ∃ k : Nat, RC1 w ps k s i wr) (fun _ i _ => n - (intOf i).toNat)
  case atStart => exact ⟨0, 0, Nat.zero_le _, rfl, rfl, by simp [catN], rfl⟩
  case round =>
    obtain ⟨k, s, hk, rfl, rfl, hs, rfl⟩ := hrel
    rw [EN.out] at hk
    have sl : s ≤ 100000 := by rw [hs]; exact Nat.le_trans (cat_len ps k) hl
    have HS := Lib.hid hs
    clear hs
    by_cases hlt : k < n
    · obtain ⟨p, hpk⟩ : ∃ p, ps[k]? = some p := ⟨_, List.getElem?_eq_getElem (by rw [EN.out]; exact hlt)⟩
      have cp := H.out.cell k p hpk
      have lp := H.out.lies p (List.mem_of_getElem? hpk)
      have e1 := cat_take ps k p hpk
      obtain ⟨pv, bs⟩ := p
      obtain ⟨A, c1, rfl⟩ : ∃ A c1, pv = .slice A bs.length c1 := by
        rcases lp with ⟨h1, h2⟩ | ⟨ad, c, h1, _⟩
        · simp only at h1 h2; exact ⟨none, 0, by rw [h1, h2]; rfl⟩
        · exact ⟨_, c, h1⟩
      simp only at cp e1
      have ls : s + bs.length ≤ 100000 := by
        have := cat_len ps (k + 1)
        rw [e1, List.length_append, ← HS.out] at this
        omega
      have w1 : IntKind.i64.wrap ((s : Int) + (bs.length : Int)) = ((s + bs.length : Nat) : Int) := (IntWalk.i64_in _ (by omega)).trans (by omega)
      have w2 : IntKind.i64.wrap ((k : Int) + 1) = (k : Int) + 1 := IntWalk.i64_in _ (by omega)
      have E1 := Lib.hid e1
      obtain ⟨m, em⟩ : ∃ m, bs.length = m := ⟨_, rfl⟩
      have EM := Lib.hid em
      rw [em] at cp w1 ls
      clear e1 hpk lp em
      obtain ⟨q, eq⟩ : ∃ q, s + m = q := ⟨_, rfl⟩
      rw [eq] at w1
      have EQ := Lib.hid eq
      have q0 : ¬ ((q : Int) < 0) := by omega
      clear eq
      go_wp2
      first | exact ⟨⟨k + 1, q, by rw [EN.out]; omega, by go_num, rfl, by rw [E1.out, List.length_append, ← HS.out, EM.out]; exact EQ.out.symm, rfl⟩, by simp [intOf]; omega⟩ | (refine ⟨?rel2, ?meas2⟩; (case meas2 => (simp [intOf]; omega)); (case rel2 => ((repeat apply Exists.intro); exact ⟨⟨k + 1, q, by rw [EN.out]; omega, by go_num, rfl, by rw [E1.out, List.length_append, ← HS.out, EM.out]; exact EQ.out.symm, rfl⟩, rfl⟩)))
    · obtain rfl : k = n := by omega
      clear hlt hk
      go_wp2_with fail
      refine (grow_nil s sl w).mono ?_
      rintro e w1 ⟨v1, rfl, o1, k1⟩
      go_wp2
      go_loopw [6, 27] (fun v i wz => ∃ j : Nat, RC2 w ps j v i wz) (fun _ i _ => k - (intOf i).toNat)
      case atStart => exact ⟨0, Nat.zero_le _, rfl, by simpa [catN] using o1, k1⟩
      case round =>
        clear o1 k1
        obtain ⟨j, hj, rfl, o2, k2⟩ := hrel
        rw [EN.out] at hj
        have hz : w.heap.size ≤ wr.heap.size := k2.size
        by_cases hlt : j < k
        · obtain ⟨p, hpk⟩ : ∃ p, ps[j]? = some p := ⟨_, List.getElem?_eq_getElem (by rw [EN.out]; exact hlt)⟩
          have cp := (H.out.same k2).cell j p hpk
          have lp := (H.out.same k2).lies p (List.mem_of_getElem? hpk)
          have E1 := Lib.hid (cat_take ps j p hpk)
          have w2 : IntKind.i64.wrap ((j : Int) + 1) = (j : Int) + 1 := IntWalk.i64_in _ (by omega)
          have lj := cat_len ps (j + 1)
          rw [E1.out, List.length_append] at lj
          obtain ⟨i0, hi0, hz0, hz1, hz2⟩ := info_parts info_ptr
          obtain ⟨pv, bs⟩ := p
          simp only at cp lp lj
          obtain ⟨L, eL⟩ : ∃ L, catN (ps.take j) = L := ⟨_, rfl⟩
          rw [eL] at o2 lj
          have EL := Lib.hid eL
          clear hpk eL
          rcases lp with ⟨rfl, rfl⟩ | ⟨ad, c1, rfl, hcs⟩
          · go_wp2_with (with_reducible refine wp_stop 33 rfl ?_)
            intro _
            refine (wpList_append_own_none rfl _ _ 56 rfl w.heap.size 60 i0 1 Try.underlying56 hi0 _ L.length (L.map ptrV) rfl o2 rfl ?_)
            go_wp2
            first | exact ⟨⟨j + 1, by rw [EN.out]; omega, by go_num, by rw [E1.out, EL.out, List.append_nil]; exact o2, k2⟩, by simp [intOf]; omega⟩ | (refine ⟨?rel2, ?meas2⟩; (case meas2 => (simp [intOf]; omega)); (case rel2 => ((repeat apply Exists.intro); exact ⟨⟨j + 1, by rw [EN.out]; omega, by go_num, by rw [E1.out, EL.out, List.append_nil]; exact o2, k2⟩, rfl⟩)))
          · have hnews : ∀ t u, (bs.map ptrV)[t]? = some u → wr.cell? (ad.add t) = some u := fun t u ht => by
              rw [List.getElem?_map, Option.map_eq_some_iff] at ht
              obtain ⟨b, hb, rfl⟩ := ht
              exact hcs t b hb
            have h1 : ∀ u ∈ bs.map ptrV, u.oneCell' = true := fun u hu => by
              obtain ⟨b, _, rfl⟩ := List.mem_map.1 hu
              rfl
            obtain ⟨ab, ao, asp⟩ := ad
            go_wp2_with (with_reducible refine wp_stop 33 rfl ?_)
            intro _
            refine wpList_append_own _ rfl _ _ 56 rfl w.heap.size 60 i0 _ 1 8 Try.underlying56 hi0 hz0 hz1 hz2 rfl (by decide) _ L.length (L.map ptrV) rfl o2 ⟨ab, ao, asp⟩ bs.length c1 (bs.map ptrV) rfl (by simp) hnews h1 (by unfold maxLen; omega) (by omega) hz ?_
            rintro v2 wa o3 gr _
            have o4 : OwnAt w.heap.size ptrV 60 wa v2 (L ++ bs) := by
              unfold OwnAt
              rw [List.length_append, List.map_append]
              exact o3
            have k4 : Keep (fun _ => False) w wa := k2.older (S := fun x => w.heap.size ≤ x) ⟨gr.os, gr.tape, gr.output, gr.size, fun x hx hn => gr.block x hx (fun e => hn (World.ownsRow.lt o2 x e.symm).1)⟩ (fun x hx => hx)
            go_wp2
            first | exact ⟨⟨j + 1, by rw [EN.out]; omega, by go_num, by rw [E1.out, EL.out]; exact o4, k4⟩, by simp [intOf]; omega⟩ | (refine ⟨?rel2, ?meas2⟩; (case meas2 => (simp [intOf]; omega)); (case rel2 => ((repeat apply Exists.intro); exact ⟨⟨j + 1, by rw [EN.out]; omega, by go_num, by rw [E1.out, EL.out]; exact o4, k4⟩, rfl⟩)))
        · obtain rfl : j = k := by omega
          rw [ET.out] at o2
          clear hlt hj
          go_wp2
          go_ret
          exact ⟨_, rfl, o2, k2⟩
end
end Go.Proofs.Ytbbinfdgmfmaeaa
