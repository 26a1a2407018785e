/- Package bond: For, doom: the loops over the parties of a set; conditions: what the Bonds are, the table of math/bits. -/
import Derived.Test.YtjobphjpfknfeaaDoorBnP
namespace Go.Proofs.YtjobphjpfknfeaaDoor
open Go.ChangeShapes Go.WideShapes Go.ChangeAt Go.RowKit
set_option linter.unusedVariables false
open Classical

/-- The ids of a row of places. -/
def idsL (xs : List Pty) (L : List Nat) : List Int := L.map fun q => (pty xs q).id
section
variable {w w' w2 : World} {p m c o i k : Nat} {v u : Value} {bs zs L : List Nat} {xs : List Pty} {S T : Nat → Prop} {B n : Nat} {id : Int}
theorem plc_lt (hS : ∀ q, q < 2048 → S q → q < n) : ∀ q ∈ plc S 2048, q < n := fun q hq => hS q (mem_plc.1 hq).1 (mem_plc.1 hq).2
theorem plc_nd : (plc S n).Nodup := plc_rises.imp fun h => by omega
theorem idsL_take (j : Nat) (hj : j < L.length) : idsL xs (L.take (j + 1)) = idsL xs (L.take j) ++ [(pty xs (L.getD j 0)).id] := by
  rw [take_next L j hj 0]
  unfold idsL
  rw [List.map_append]
  rfl
theorem mem_idsL {a : Int} : a ∈ idsL xs L ↔ ∃ q, q ∈ L ∧ (pty xs q).id = a := by unfold idsL; rw [List.mem_map]
theorem idsL_nd (h : BdC w p m v bs xs) (hL : L.Nodup) (hl : ∀ q ∈ L, q < xs.length) : (idsL xs L).Nodup := by
  unfold idsL List.Nodup
  rw [List.pairwise_map]
  refine List.Pairwise.imp_of_mem (fun {a b} ha hb hne e => ?_) hL
  rcases Nat.lt_trichotomy a b with q | q | q
  · exact h.nd a b q (hl b hb) e
  · exact hne q
  · exact h.nd b a q (hl a ha) e.symm
/-- In the midst of For. -/
def FoR (w2 : World) (xs : List Pty) (L : List Nat) (v q : Value) (wr : World) : Prop := ∃ j : Nat, j ≤ L.length ∧ q = .int .i64 j ∧ OwnN w2.heap.size wr v (idsL xs (L.take j)) ∧ Below w2.heap.size w2 wr
set_option maxRecDepth 100000 in
theorem for_at (h : BdC w p m v bs xs) (i : Nat) (hi : i < xs.length) (hid : I64 id) (e : (pty xs i).id = id) (hS : ∀ q, q < 2048 → (pty xs i).bo q → q < xs.length) (hT : TabW w) :
    Calls Tryd.prog 25 #[.pointer (some ⟨p, 0, none⟩), .int .i64 id] w fun r w' => ∃ u, r = .returned u ∧ OwnN w.heap.size w' u (srt (idsL xs (plc (pty xs i).bo 2048))) ∧ Below w.heap.size w w' := by
  rcases h.look hid with ⟨j, hj, ej, hrun⟩ | ⟨hn, _⟩
  · obtain rfl : i = j := by
      rcases Nat.lt_trichotomy i j with q | q | q
      · exact absurd (e.trans ej.symm) (h.nd i j q hj)
      · exact q
      · exact absurd (ej.trans e.symm) (h.nd j i q hi)
    have cm := h.cm
    have pl := at_any h (h.en i hi).s1 hS hT
    have hlt := plc_lt hS
    have l2 : (plc (pty xs i).bo 2048).length ≤ 2048 := plc_len
    obtain ⟨L, eL⟩ : ∃ L, plc (pty xs i).bo 2048 = L := ⟨_, rfl⟩
    have bl : bsOf bs (pty xs i).bo 2048 = L.map fun q => bs.getD q 0 := by rw [← eL]; rfl
    rw [bl] at pl
    rw [eL] at hlt l2 ⊢
    unfold ptrV at hrun
    obtain ⟨b, eb⟩ : ∃ b, bs.getD i 0 = b := ⟨_, rfl⟩
    rw [eb] at hrun pl
    have H := Lib.hid h
    have HLT := Lib.hid hlt
    clear eb e ej hid eL bl h hT hS hj hlt
    go_enter Tryd.func25, Tryd.ntmps25
    go_wp2_with fail
    refine pl.mono ?_
    rintro e w2 ⟨u, rfl, ou, b2⟩
    clear pl hrun cm
    obtain ⟨A, cc, rfl, hA0, hA1⟩ := OwnB.shape ou
    have OU := Lib.hid ou
    have H2 : BdC w2 p m v bs xs := H.out.keep (keep_of b2 fun _ => False) (fun _ _ q => q)
    have H2 := Lib.hid H2
    rw [List.length_map]
    obtain ⟨n, en⟩ : ∃ n, L.length = n := ⟨_, rfl⟩
    have EN := Lib.hid en
    rw [en] at l2 ⊢
    clear ou en
    go_wp2
    go_loopw [6, 8, 23] (fun v _ q wr => FoR w2 xs L v q wr) (fun _ _ q _ => n - (intOf q).toNat)
    case atStart => exact ⟨0, Nat.zero_le _, rfl, by show OwnN _ _ _ []; exact World.ownsRow_nil _ _ _ _, Below.refl _ _⟩
    case round =>
      obtain ⟨j, hj, rfl, ow, bl⟩ := hrel
      rw [EN.out] at hj
      by_cases hlt : j < n
      · cases A with
        | none =>
          have := congrArg List.length (hA0 rfl)
          rw [List.length_map, EN.out] at this
          simp at this
          omega
        | some ad =>
          obtain ⟨ga, rfl⟩ := hA1 _ rfl
          have jl : j < L.length := by rw [EN.out]; exact hlt
          have kw := keep_of bl fun _ => False
          obtain ⟨q, eq⟩ : ∃ q, L.getD j 0 = q := ⟨_, rfl⟩
          have hq : q < xs.length := HLT.out q (by rw [← eq, List.getD_eq_getElem?_getD, List.getElem?_eq_getElem jl]; exact List.getElem_mem jl)
          have c1 : wr.cell? ⟨ga, j, none⟩ = some (ptrV (bs.getD q 0)) := kw.cell (by
            rw [OwnB.cell OU.out j (by rw [List.length_map]; exact jl)]
            simp only [List.getD_eq_getElem?_getD, List.getElem?_map] at eq ⊢
            rw [List.getElem?_eq_getElem jl] at eq ⊢
            simp at eq
            simp [eq]) (by simp)
          have c0 := ((H2.out.en q hq).keep kw (by simp)).c0
          have tk := idsL_take (xs := xs) (L := L) j jl
          rw [eq] at tk
          unfold ptrV at c1
          obtain ⟨b9, eb⟩ : ∃ b, bs.getD q 0 = b := ⟨_, rfl⟩
          rw [eb] at c1 c0
          obtain ⟨x9, ex⟩ : ∃ x, (pty xs q).id = x := ⟨_, rfl⟩
          rw [ex] at c0 tk
          have tl : (idsL xs (L.take j)).length = j := by unfold idsL; rw [List.length_map, List.length_take, EN.out]; omega
          have wj : IntKind.i64.wrap ((j : Int) + 1) = (j : Int) + 1 := IntWalk.i64_in _ (by omega)
          have hB := bl.size
          have TKK := Lib.hid tk
          have BL := Lib.hid bl
          clear hA0 hA1 eq eb ex kw tk bl
          obtain ⟨A2, c2, rfl, _, _⟩ := OwnN.shapeN ow
          obtain ⟨zs, ez⟩ : ∃ zs, idsL xs (L.take j) = zs := ⟨_, rfl⟩
          rw [ez] at ow tl ⊢
          have EZ := Lib.hid ez
          clear ez
          go_wp2_with (with_reducible refine wp_stop 33 rfl ?_)
          intro _
          refine wp_pushN rfl (.tmp 27) (.tmp 32) rfl w2.heap.size hB (.slice A2 zs.length c2) zs rfl ow x9 rfl (by omega) ?_
          intro g3 c3 y3 o3 k3 hg3
          have O3 : OwnN w2.heap.size y3 (.slice (some ⟨g3, 0, none⟩) (j + 1) c3) (idsL xs (L.take (j + 1))) := by
            rw [tl] at o3
            rw [TKK.out, EZ.out]
            exact o3
          have B3 : Below w2.heap.size w2 y3 := BL.out.trans (k3.below hB fun j hj => (OwnN.lt ow hj).1)
          have O3 := Lib.hid O3
          have B3 := Lib.hid B3
          clear o3 k3 hg3 ow
          go_wp2
          go_roundw
          case rel => exact ⟨j + 1, by rw [EN.out]; omega, by go_num, O3.out, B3.out⟩
          case measure => simp [intOf]; omega
      · obtain rfl : j = n := by omega
        rw [List.take_of_length_le (by rw [EN.out]; exact Nat.le_refl _)] at ow
        have so := sort_any ow (by unfold idsL; rw [List.length_map, EN.out]; omega)
        have lt6 := fun g hg => (OwnN.lt ow (g := g) hg).1
        have R2 : Below w.heap.size w wr := b2.trans (bl.mono b2.size)
        have R2 := Lib.hid R2
        have B2 := Lib.hid b2.size
        have LT := Lib.hid lt6
        clear ow bl b2 hA0 hA1 lt6
        go_wp2_with fail
        refine so.mono ?_
        rintro e w5 ⟨rfl, o5, k5⟩
        have O5 := Lib.hid (OwnN.lowerN o5 B2.out)
        have K5 := Lib.hid (R2.out.trans (k5.below R2.out.size fun g hg => Nat.le_trans B2.out (LT.out g hg)))
        clear so o5 k5
        go_wp2
        go_ret
        exact ⟨_, rfl, O5.out, K5.out⟩
  · exact absurd e (hn i hi)
theorem for_no (h : BdC w p m v bs xs) (hid : I64 id) (hn : ∀ i, i < xs.length → (pty xs i).id ≠ id) : Calls Tryd.prog 25 #[.pointer (some ⟨p, 0, none⟩), .int .i64 id] w fun r w' => r = .returned (.slice none 0 0) ∧ w = w' := by
  rcases h.look hid with ⟨j, hj, ej, _⟩ | ⟨_, hrun⟩
  · exact absurd ej (hn j hj)
  · have cm := h.cm
    clear h hid hn
    go_enter Tryd.func25, Tryd.ntmps25
    go_wp2
    go_ret
    exact ⟨rfl, rfl⟩
/-- One that is open is doomed. -/
def dmP (x : Pty) : Pty := if x.st = 1 then { x with st := 2 } else x
def doomL (xs : List Pty) (L : List Nat) : List Pty := L.foldl (fun xs q => xs.set q (dmP (pty xs q))) xs
theorem doomL_len : ∀ (L : List Nat) (xs : List Pty), (doomL xs L).length = xs.length
  | [], xs => rfl
  | q :: L, xs => by
    unfold doomL
    rw [List.foldl_cons]
    exact (doomL_len L _).trans List.length_set
theorem doomL_snoc (q : Nat) : doomL xs (L ++ [q]) = (doomL xs L).set q (dmP (pty (doomL xs L) q)) := by unfold doomL; rw [List.foldl_append]; rfl
theorem doomL_get : ∀ (L : List Nat) (xs : List Pty), L.Nodup → (∀ q ∈ L, q < xs.length) → ∀ j, pty (doomL xs L) j = if j ∈ L then dmP (pty xs j) else pty xs j
  | [], xs, _, _, j => by rw [if_neg (by simp)]; rfl
  | q :: L, xs, hn, hl, j => by
    have h1 := List.nodup_cons.1 hn
    have e : doomL xs (q :: L) = doomL (xs.set q (dmP (pty xs q))) L := rfl
    rw [e, doomL_get L _ h1.2 (fun r hr => by rw [List.length_set]; exact hl r (by simp [hr])) j, pty_set q j (hl q (by simp))]
    by_cases e1 : j = q
    · subst e1
      rw [if_neg h1.1, if_pos rfl, if_pos (by simp)]
    · rw [if_neg e1]
      by_cases e2 : j ∈ L
      · rw [if_pos e2, if_pos (by simp [e2])]
      · rw [if_neg e2, if_neg (by simp [e1, e2])]
/-- The ids of those that were open. -/
def gath (xs : List Pty) (L : List Nat) : List Int := (L.filter fun q => decide ((pty xs q).st = 1)).map fun q => (pty xs q).id
theorem gath_take (j : Nat) (hj : j < L.length) : gath xs (L.take (j + 1)) = if (pty xs (L.getD j 0)).st = 1 then gath xs (L.take j) ++ [(pty xs (L.getD j 0)).id] else gath xs (L.take j) := by
  rw [take_next L j hj 0]
  generalize L.getD j 0 = q
  unfold gath
  rw [List.filter_append, List.map_append]
  by_cases h : (pty xs q).st = 1
  · rw [if_pos h, List.filter_cons_of_pos (by simpa using h)]
    rfl
  · rw [if_neg h, List.filter_cons_of_neg (by simpa using h)]
    simp
theorem mem_gath {a : Int} : a ∈ gath xs L ↔ ∃ q, q ∈ L ∧ (pty xs q).st = 1 ∧ (pty xs q).id = a := by
  unfold gath
  rw [List.mem_map]
  constructor
  · rintro ⟨q, hq, e⟩
    have := List.mem_filter.1 hq
    exact ⟨q, this.1, of_decide_eq_true this.2, e⟩
  · rintro ⟨q, h1, h2, e⟩
    exact ⟨q, List.mem_filter.2 ⟨h1, decide_eq_true h2⟩, e⟩
theorem gath_len : (gath xs L).length ≤ L.length := by unfold gath; rw [List.length_map]; exact List.length_filter_le _ _
theorem gath_nd (h : BdC w p m v bs xs) (hL : L.Nodup) (hl : ∀ q ∈ L, q < xs.length) : (gath xs L).Nodup := idsL_nd h (hL.filter _) fun q hq => hl q (List.mem_filter.1 hq).1
/-- In the midst of doom: what is told, the Bonds, and what has turned. -/
def DmR (w w2 : World) (p m : Nat) (vv : Value) (bs : List Nat) (xs : List Pty) (L : List Nat) (v q : Value) (wr : World) : Prop :=
  ∃ j : Nat, j ≤ L.length ∧ q = .int .i64 j ∧ OwnN w2.heap.size wr v (gath xs (L.take j)) ∧ BdC wr p m vv bs (doomL xs (L.take j)) ∧ Keep (fun g => PFt bs xs.length g ∨ w2.heap.size ≤ g) w2 wr
/-- A party's state is stored. -/
theorem PtyAt.state {b i : Nat} {x : Pty} (h : PtyAt w b i x) (s : Int) (hs : dnP { x with st := s } = dnP x) : PtyAt (w.setCell ⟨b, 2, none⟩ (.int .i64 s)) b i { x with st := s } := by
  have f : ∀ j, j ≠ 2 → (w.setCell ⟨b, 2, none⟩ (.int .i64 s)).cell? ⟨b, j, none⟩ = w.cell? ⟨b, j, none⟩ := fun j hj => World.cell?_setCell_other _ _ _ _ (by intro e; have := congrArg Addr.off e; simp at this; omega)
  have sets : ∀ {o : Nat} {P : Nat → Prop}, 6 ≤ o → SetAt w b o P → SetAt (w.setCell ⟨b, 2, none⟩ (.int .i64 s)) b o P := fun ho hS => ⟨fun i hi => (f _ (by omega)).trans (hS.cell i hi), fun i => (World.frozen?_setCell ..).trans (hS.fz i)⟩
  exact ⟨(f 0 (by omega)).trans h.c0, (f 1 (by omega)).trans h.c1, World.cell?_setCell_same _ _ _ h.c2, by rw [hs]; exact (f 3 (by omega)).trans h.c3, (f 4 (by omega)).trans h.c4, sets (by omega) h.s1, sets (by omega) h.s2, sets (by omega) h.s3⟩
set_option maxRecDepth 100000 in
set_option maxHeartbeats 1000000 in
theorem doom_any (h : BdC w p m v bs xs) (k : Nat) (hk : k < xs.length) (hS : ∀ q, q < 2048 → (pty xs k).ab q → q < xs.length) (hT : TabW w) (ht : 0 < w.heap.size) (hL : plc (fun q => (pty xs k).ab q ∨ q = k) 2048 = L) :
    Calls Tryd.prog 31 #[.pointer (some ⟨p, 0, none⟩), .pointer (some ⟨bs.getD k 0, 0, none⟩)] w fun r w' => ∃ u, r = .returned u ∧ OwnN w.heap.size w' u (srt (gath xs L)) ∧ BdC w' p m v bs (doomL xs L) ∧ Keep (PFt bs xs.length) w w' := by
  have e0 := h.en k hk
  have xl := h.short
  obtain ⟨b, eb⟩ : ∃ b, bs.getD k 0 = b := ⟨_, rfl⟩
  rw [eb] at e0 ⊢
  have bl := e0.lt
  go_enter Tryd.func31, Tryd.ntmps31
  go_wp2_with (first | refine wpList_load_set rfl (.tmp 11) rfl rfl e0.s3 ?_ | (refine wpList_store_set rfl (.tmp 5) (.tmp 12) rfl rfl rfl rfl (heap_alloc_new w _) rfl ?_))
  intro w1 s1
  have k1 : Keep (fun j => w.heap.size ≤ j) w w1 := (Keep.alloc (Keep.refl _ w) _).trans (s1.2.mono fun j hj => by rw [hj]; exact Nat.le_refl _)
  have a1 := s1.1.at
  have c1 := (e0.keep k1 (by omega)).c1
  have ad := add_any a1 k (by omega)
  have K1 := Lib.hid k1
  clear s1 k1
  go_wp2_with fail
  refine ad.mono ?_
  rintro e w2 ⟨rfl, sb, a2⟩
  have k2 : Keep (fun j => w.heap.size ≤ j) w w2 := K1.out.trans (sb.keep.mono fun j hj => by rw [hj]; exact Nat.le_refl _)
  have h2 : BdC w2 p m v bs xs := h.keep k2 fun g hg => by have := h.lt g hg; omega
  have hS2 : ∀ q, q < 2048 → ((pty xs k).ab q ∨ q = k) → q < xs.length := fun q hq c => by
    rcases c with c | c
    · exact hS q hq c
    · omega
  have pl := at_any h2 a2 hS2 (hT.keep k2 (by omega))
  have hlt := plc_lt hS2
  have l2 : (plc (fun q => (pty xs k).ab q ∨ q = k) 2048).length ≤ 2048 := plc_len
  have nd : (plc (fun q => (pty xs k).ab q ∨ q = k) 2048).Nodup := plc_nd
  have bl2 : bsOf bs (fun q => (pty xs k).ab q ∨ q = k) 2048 = L.map fun q => bs.getD q 0 := by rw [← hL]; rfl
  rw [bl2] at pl
  rw [hL] at hlt l2 nd
  have H := Lib.hid h
  have K2 := Lib.hid k2
  have H2 := Lib.hid h2
  have HLT := Lib.hid hlt
  have ND := Lib.hid nd
  clear ad sb a1 a2 c1 K1 hS hS2 hT ht hL h h2 hlt nd bl2 e0 k2
  go_wp2_with fail
  refine pl.mono ?_
  rintro e w3 ⟨u, rfl, ou, b3⟩
  clear pl
  obtain ⟨A, cc, rfl, hA0, hA1⟩ := OwnB.shape ou
  have OU := Lib.hid ou
  have H3 : BdC w3 p m v bs xs := H2.out.keep (keep_of b3 fun _ => False) (fun _ _ q => q)
  have K3 : Keep (fun j => w.heap.size ≤ j) w w3 := K2.out.trans (keep_of b3 _)
  have H3 := Lib.hid H3
  have K3 := Lib.hid K3
  rw [List.length_map]
  obtain ⟨n, en⟩ : ∃ n, L.length = n := ⟨_, rfl⟩
  have EN := Lib.hid en
  rw [en] at l2 ⊢
  have far : ∀ g, PFt bs xs.length g → g < w2.heap.size := fun g hg => H2.out.lt g (.inr (.inr (.inr hg)))
  have far0 : ∀ g, PFt bs xs.length g → g < w.heap.size := fun g hg => H.out.lt g (.inr (.inr (.inr hg)))
  have FAR0 := Lib.hid far0
  have FARR := Lib.hid far
  clear ou en b3 far far0
  go_wp2
  go_loopw [6, 8, 21] (fun vv _ q wr => DmR w w3 p m v bs xs L vv q wr) (fun _ _ q _ => n - (intOf q).toNat)
  case atStart => exact ⟨0, Nat.zero_le _, rfl, by show OwnN _ _ _ []; exact World.ownsRow_nil _ _ _ _, by show BdC _ _ _ _ _ xs; exact H3.out, Keep.refl _ _⟩
  case round =>
    obtain ⟨j, hj, rfl, ow, bd, kr⟩ := hrel
    rw [EN.out] at hj
    by_cases hlt : j < n
    · cases A with
      | none =>
        have := congrArg List.length (hA0 rfl)
        rw [List.length_map, EN.out] at this
        simp at this
        omega
      | some ad =>
        obtain ⟨ga, rfl⟩ := hA1 _ rfl
        have jl : j < L.length := by rw [EN.out]; exact hlt
        have gl := OwnB.lt OU.out (g := ga) rfl
        have gt : ¬ (PFt bs xs.length ga ∨ w3.heap.size ≤ ga) := fun c => by
          rcases c with c | c
          · have := FARR.out ga c; omega
          · omega
        obtain ⟨q, eq⟩ : ∃ q, L.getD j 0 = q := ⟨_, rfl⟩
        have hq : q < xs.length := HLT.out q (by rw [← eq, List.getD_eq_getElem?_getD, List.getElem?_eq_getElem jl]; exact List.getElem_mem jl)
        have c1 : wr.cell? ⟨ga, j, none⟩ = some (ptrV (bs.getD q 0)) := kr.cell (by
          rw [OwnB.cell OU.out j (by rw [List.length_map]; exact jl)]
          simp only [List.getD_eq_getElem?_getD, List.getElem?_map] at eq ⊢
          rw [List.getElem?_eq_getElem jl] at eq ⊢
          simp at eq
          simp [eq]) gt
        have dl : (doomL xs (L.take j)).length = xs.length := doomL_len _ _
        have hq2 : q < (doomL xs (L.take j)).length := by rw [dl]; exact hq
        have nq : q ∉ L.take j := fun hm => by
          obtain ⟨i, hi, e⟩ := List.getElem_of_mem hm
          rw [List.getElem_take] at e
          have hi2 : i < j := by rw [List.length_take] at hi; omega
          rw [List.getD_eq_getElem?_getD, List.getElem?_eq_getElem jl] at eq
          have := (List.pairwise_iff_getElem.1 ND.out) i j (by omega) jl hi2
          exact this (e.trans (by simpa using eq.symm))
        have gq : pty (doomL xs (L.take j)) q = pty xs q := by
          rw [doomL_get _ _ (ND.out.sublist (List.take_sublist _ _)) (fun r hr => HLT.out r (List.mem_of_mem_take hr)), if_neg nq]
        have eb2 := bd.en q hq2
        rw [gq] at eb2
        have tk := gath_take (xs := xs) (L := L) j jl
        have dk : doomL xs (L.take (j + 1)) = (doomL xs (L.take j)).set q (dmP (pty xs q)) := by
          rw [take_next L j jl 0, doomL_snoc, eq, gq]
        rw [eq] at tk
        have wj : IntKind.i64.wrap ((j : Int) + 1) = (j : Int) + 1 := IntWalk.i64_in _ (by omega)
        have tl : (gath xs (L.take j)).length ≤ 2048 := Nat.le_trans gath_len (by rw [List.length_take]; omega)
        have pq : PFt bs xs.length (bs.getD q 0) := ⟨q, hq, rfl⟩
        unfold ptrV at c1
        have KR := Lib.hid kr
        have BD := Lib.hid bd
        have ol := fun g hg => (OwnN.lt ow (g := g) hg)
        have OL := Lib.hid ol
        have DK := Lib.hid dk
        have ob : ∀ g, u6.ownBlock = some g → g ≠ bs.getD q 0 := fun g hg e => by
          have h1 := (OL.out g hg).1
          have h2 := FARR.out _ pq
          have := K3.out.size
          have := H2.out
          have h4 := (H3.out.lt (bs.getD q 0) (.inr (.inr (.inr pq))))
          omega
        obtain ⟨b9, eb9⟩ : ∃ b, bs.getD q 0 = b := ⟨_, rfl⟩
        have EB9 := Lib.hid eb9
        rw [eb9] at c1 eb2 pq ob
        by_cases ho : (pty xs q).st = 1
        · rw [if_pos ho] at tk
          have c2 := eb2.c2
          have c0 := eb2.c0
          have f2 := eb2.fz 2
          rw [ho] at c2
          have new := eb2.state 2 (by unfold dnP; rw [ho]; rfl)
          have kn : Keep (fun g => g = b9) wr (wr.setCell ⟨b9, 2, none⟩ (.int .i64 2)) := keep_one wr ⟨b9, 2, none⟩ _
          have bn := BD.out.put q hq2 (w' := wr.setCell ⟨b9, 2, none⟩ (.int .i64 2)) (x := { pty xs q with st := 2 }) (by rw [EB9.out]; exact kn) (by rw [EB9.out]; exact new) (by rw [gq])
          have on : OwnN w3.heap.size (wr.setCell ⟨b9, 2, none⟩ (.int .i64 2)) u6 (gath xs (L.take j)) := OwnN.keep ow kn fun g hg e => ob g hg e
          have hB : w3.heap.size ≤ (wr.setCell ⟨b9, 2, none⟩ (.int .i64 2)).heap.size := Nat.le_trans KR.out.size kn.size
          have e2 : dmP (pty xs q) = { pty xs q with st := 2 } := by unfold dmP; rw [if_pos ho]
          rw [e2] at dk
          rw [← dk] at bn
          have kk : Keep (fun g => PFt bs xs.length g ∨ w3.heap.size ≤ g) w3 (wr.setCell ⟨b9, 2, none⟩ (.int .i64 2)) := KR.out.trans (kn.mono fun g e => .inl (e ▸ pq))
          have BN := Lib.hid bn
          have KK := Lib.hid kk
          have TKK := Lib.hid tk
          obtain ⟨x9, ex⟩ : ∃ x, (pty xs q).id = x := ⟨_, rfl⟩
          have EX := Lib.hid ex
          rw [ex] at c0
          obtain ⟨A2, c2', rfl, _, _⟩ := OwnN.shapeN ow
          obtain ⟨zs, ez⟩ : ∃ zs, gath xs (L.take j) = zs := ⟨_, rfl⟩
          have EZ := Lib.hid ez
          have ol2 := OL.out
          rw [ez] at ow on tl ol2 ⊢
          have OL2 := Lib.hid ol2
          clear hA0 hA1 ol2 eq eb9 ex bd kr dk tk new kn bn e2 kk eb2 ez ob DK ol gq nq
          have hz : (wr.setCell ⟨b9, 2, none⟩ (.int .i64 2)).heap.size = wr.heap.size := by simp [World.setCell]
          go_wp2_with (with_reducible refine wp_stop 39 rfl ?_)
          intro _
          refine wp_pushN rfl (.tmp 33) (.tmp 38) rfl w3.heap.size hB (.slice A2 zs.length c2') zs rfl on x9 (by rw [hz]; rfl) (by omega) ?_
          intro g3 c3 y3 o3 k3 hg3
          have O3 : OwnN w3.heap.size y3 (.slice (some ⟨g3, 0, none⟩) (zs.length + 1) c3) (gath xs (L.take (j + 1))) := by
            rw [TKK.out, EZ.out, EX.out]
            exact o3
          have BB : BdC y3 p m v bs (doomL xs (L.take (j + 1))) := BN.out.keep k3 fun g hg e => by
            have h1 := (OL2.out g e).1
            have h2 := H3.out.lt g (by
              have hg2 := hg
              unfold BFt at hg2 ⊢
              rw [doomL_len] at hg2
              exact hg2)
            omega
          have K3' : Keep (fun g => PFt bs xs.length g ∨ w3.heap.size ≤ g) w3 y3 := KK.out.trans (k3.mono fun g e => .inr (OL2.out g e).1)
          have O3 := Lib.hid O3
          have BB := Lib.hid BB
          have K3' := Lib.hid K3'
          clear o3 k3 hg3 ow on
          go_wp2
          go_roundw
          case rel => exact ⟨j + 1, by rw [EN.out]; omega, by go_num, O3.out, BB.out, K3'.out⟩
          case measure => simp [intOf]; omega
        · rw [if_neg ho] at tk
          have c2 := eb2.c2
          have e2 : dmP (pty xs q) = pty xs q := by unfold dmP; rw [if_neg ho]
          have bn : BdC wr p m v bs (doomL xs (L.take (j + 1))) := by
            rw [dk, e2, ← gq]
            exact BD.out.put q hq2 (Keep.refl _ _) (BD.out.en q hq2) rfl
          rw [← tk] at ow
          have OW := Lib.hid ow
          have BN := Lib.hid bn
          obtain ⟨s9, es⟩ : ∃ s, (pty xs q).st = s := ⟨_, rfl⟩
          rw [es] at c2 ho
          have qs : (s9 == 1) = false := by simpa using ho
          clear hA0 hA1 eq eb9 bd kr dk tk bn e2 eb2 ow ob es DK ol gq nq
          go_wp2
          go_roundw
          case rel => exact ⟨j + 1, by rw [EN.out]; omega, by go_num, OW.out, BN.out, KR.out⟩
          case measure => simp [intOf]; omega
    · obtain rfl : j = n := by omega
      rw [List.take_of_length_le (by rw [EN.out]; exact Nat.le_refl _)] at ow bd
      have so := sort_any ow (by have := gath_len (xs := xs) (L := L); rw [EN.out] at this; omega)
      have lt6 := fun g hg => (OwnN.lt ow (g := g) hg).1
      have KR := Lib.hid kr
      have BD := Lib.hid bd
      have LT := Lib.hid lt6
      clear ow bd kr hA0 hA1 lt6
      go_wp2_with fail
      refine so.mono ?_
      rintro e w5 ⟨rfl, o5, k5⟩
      have O5 := Lib.hid (OwnN.lowerN o5 K3.out.size)
      have B5 : BdC w5 p m v bs (doomL xs L) := BD.out.keep k5 fun g hg e => by
        have h1 := LT.out g e
        have h2 := H3.out.lt g (by
          have hg2 := hg
          unfold BFt at hg2 ⊢
          rw [doomL_len] at hg2
          exact hg2)
        omega
      have K5 : Keep (PFt bs xs.length) w w5 := by
        have a1 : Keep (fun g => PFt bs xs.length g ∨ w.heap.size ≤ g) w w5 := ((K3.out.mono fun g e => .inr e).trans (KR.out.mono fun g e => by
          rcases e with e | e
          · exact .inl e
          · exact .inr (Nat.le_trans K3.out.size e))).trans (k5.mono fun g e => .inr (Nat.le_trans K3.out.size (LT.out g e)))
        exact ⟨a1.os, a1.tape, a1.output, a1.size, fun g hg hn => a1.block g hg fun c => by
          rcases c with c | c
          · exact hn c
          · omega⟩
      have B5 := Lib.hid B5
      have K5 := Lib.hid K5
      clear so o5 k5
      go_wp2
      go_ret
      exact ⟨_, rfl, O5.out, B5.out, K5.out⟩
end
end Go.Proofs.YtjobphjpfknfeaaDoor
