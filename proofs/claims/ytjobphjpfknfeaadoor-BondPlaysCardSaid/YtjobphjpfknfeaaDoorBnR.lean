/- Package bond: release: x is taken out of what others wait for; conditions: what the Bonds are, the table of math/bits. -/
import Derived.Test.YtjobphjpfknfeaaDoorBnD
namespace Go.Proofs.YtjobphjpfknfeaaDoor
open Go.ChangeShapes Go.WideShapes Go.ChangeAt Go.RowKit
set_option linter.unusedVariables false
open Classical

/-- Those of a row of places turned by f. -/
def updL (f : Pty → Pty) (xs : List Pty) (L : List Nat) : List Pty := L.foldl (fun xs q => xs.set q (f (pty xs q))) xs
/-- The ids of those of a row of places of which P holds. -/
noncomputable def gatP (P : Pty → Prop) (xs : List Pty) (L : List Nat) : List Int := (L.filter fun q => decide (P (pty xs q))).map fun q => (pty xs q).id
section
variable {w w' w2 : World} {p m c o i k : Nat} {v u : Value} {bs zs L : List Nat} {xs : List Pty} {S T : Nat → Prop} {B n : Nat} {id : Int} {f : Pty → Pty} {P : Pty → Prop}
theorem updL_len : ∀ (L : List Nat) (xs : List Pty), (updL f xs L).length = xs.length
  | [], xs => rfl
  | q :: L, xs => by
    unfold updL
    rw [List.foldl_cons]
    exact (updL_len L _).trans List.length_set
theorem updL_snoc (q : Nat) : updL f xs (L ++ [q]) = (updL f xs L).set q (f (pty (updL f xs L) q)) := by unfold updL; rw [List.foldl_append]; rfl
theorem updL_get : ∀ (L : List Nat) (xs : List Pty), L.Nodup → (∀ q ∈ L, q < xs.length) → ∀ j, pty (updL f xs L) j = if j ∈ L then f (pty xs j) else pty xs j
  | [], xs, _, _, j => by rw [if_neg (by simp)]; rfl
  | q :: L, xs, hn, hl, j => by
    have h1 := List.nodup_cons.1 hn
    have e : updL f xs (q :: L) = updL f (xs.set q (f (pty xs q))) L := rfl
    rw [e, updL_get L _ h1.2 (fun r hr => by rw [List.length_set]; exact hl r (by simp [hr])) j, pty_set q j (hl q (by simp))]
    by_cases e1 : j = q
    · subst e1
      rw [if_neg h1.1, if_pos rfl, if_pos (by simp)]
    · rw [if_neg e1]
      by_cases e2 : j ∈ L
      · rw [if_pos e2, if_pos (by simp [e2])]
      · rw [if_neg e2, if_neg (by simp [e1, e2])]
theorem gatP_take (j : Nat) (hj : j < L.length) : gatP P xs (L.take (j + 1)) = if P (pty xs (L.getD j 0)) then gatP P xs (L.take j) ++ [(pty xs (L.getD j 0)).id] else gatP P xs (L.take j) := by
  rw [take_next L j hj 0]
  generalize L.getD j 0 = q
  unfold gatP
  rw [List.filter_append, List.map_append]
  by_cases h : P (pty xs q)
  · rw [if_pos h, List.filter_cons_of_pos (by simpa using h)]
    rfl
  · rw [if_neg h, List.filter_cons_of_neg (by simpa using h)]
    simp
theorem mem_gatP {a : Int} : a ∈ gatP P xs L ↔ ∃ q, q ∈ L ∧ P (pty xs q) ∧ (pty xs q).id = a := by
  unfold gatP
  rw [List.mem_map]
  constructor
  · rintro ⟨q, hq, e⟩
    have := List.mem_filter.1 hq
    exact ⟨q, this.1, of_decide_eq_true this.2, e⟩
  · rintro ⟨q, h1, h2, e⟩
    exact ⟨q, List.mem_filter.2 ⟨h1, decide_eq_true h2⟩, e⟩
theorem gatP_len : (gatP P xs L).length ≤ L.length := by unfold gatP; rw [List.length_map]; exact List.length_filter_le _ _
theorem gatP_nd (h : BdC w p m v bs xs) (hL : L.Nodup) (hl : ∀ q ∈ L, q < xs.length) : (gatP P xs L).Nodup := idsL_nd h (hL.filter _) fun q hq => hl q (List.mem_filter.1 hq).1
/-- Place number j of a row, which is none of those ahead. -/
theorem row_at (hn : L.Nodup) {j q : Nat} (jl : j < L.length) (eq : L.getD j 0 = q) : q ∈ L ∧ q ∉ L.take j := by
  rw [List.getD_eq_getElem?_getD, List.getElem?_eq_getElem jl] at eq
  have eq : L[j] = q := by simpa using eq
  refine ⟨eq ▸ List.getElem_mem jl, fun hm => ?_⟩
  obtain ⟨i, hi, e⟩ := List.getElem_of_mem hm
  rw [List.getElem_take] at e
  have hi2 : i < j := by rw [List.length_take] at hi; omega
  exact (List.pairwise_iff_getElem.1 hn) i j (by omega) jl hi2 (e.trans eq.symm)
theorem ptrs_at {A : World} {g n c j q : Nat} (h : OwnB B A (.slice (some ⟨g, 0, none⟩) n c) (L.map fun q => bs.getD q 0)) (jl : j < L.length) (eq : L.getD j 0 = q) : A.cell? ⟨g, j, none⟩ = some (ptrV (bs.getD q 0)) := by
  rw [OwnB.cell h j (by rw [List.length_map]; exact jl)]
  simp only [List.getD_eq_getElem?_getD, List.getElem?_map] at eq ⊢
  rw [List.getElem?_eq_getElem jl] at eq ⊢
  simp at eq
  simp [eq]
/-- x, with place k, is taken out of what a party waits for. -/
def relP (k : Nat) (x : Pty) : Pty := { x with bo := fun z => x.bo z ∧ z ≠ k, be := fun z => x.be z ∧ z ≠ k }
/-- It waits for none but that one, and has not ended. -/
def freeP (k : Nat) (x : Pty) : Prop := (∀ z, z < 2048 → ¬ (x.bo z ∧ z ≠ k)) ∧ ¬ (x.st = 3 ∨ x.st = 4)
def ReR (w3 : World) (p m : Nat) (vv : Value) (bs : List Nat) (xs : List Pty) (k : Nat) (L : List Nat) (v q : Value) (wr : World) : Prop :=
  ∃ j : Nat, j ≤ L.length ∧ q = .int .i64 j ∧ OwnN w3.heap.size wr v (gatP (freeP k) xs (L.take j)) ∧ BdC wr p m vv bs (updL (relP k) xs (L.take j)) ∧ Keep (fun g => PFt bs xs.length g ∨ w3.heap.size ≤ g) w3 wr
theorem foot_upd {g : Nat} (hg : BFt p m v bs (updL f xs L).length g) : BFt p m v bs xs.length g := by unfold BFt at hg ⊢; rwa [updL_len] at hg
set_option maxRecDepth 100000 in
set_option maxHeartbeats 1000000 in
theorem release_any (h : BdC w p m v bs xs) (k : Nat) (hk : k < xs.length) (hS : ∀ q, q < 2048 → (pty xs k).ab q → q < xs.length) (hT : TabW w) (hkk : ¬ (pty xs k).ab k) (hL : plc (pty xs k).ab 2048 = L) :
    Calls Tryd.prog 30 #[.pointer (some ⟨p, 0, none⟩), .pointer (some ⟨bs.getD k 0, 0, none⟩)] w fun r w' => ∃ u, r = .returned u ∧ OwnN w.heap.size w' u (srt (gatP (freeP k) xs L)) ∧ BdC w' p m v bs (updL (relP k) xs L) ∧ Keep (PFt bs xs.length) w w' := by
  have xl := h.short
  have hkL : k ∉ L := fun hm => hkk (mem_plc.1 (hL ▸ hm)).2
  have pl := at_any h (h.en k hk).s3 hS hT
  have hlt := plc_lt hS
  have l2 : (plc (pty xs k).ab 2048).length ≤ 2048 := plc_len
  have nd : (plc (pty xs k).ab 2048).Nodup := plc_nd
  have bl2 : bsOf bs (pty xs k).ab 2048 = L.map fun q => bs.getD q 0 := by rw [← hL]; rfl
  rw [bl2] at pl
  rw [hL] at hlt l2 nd
  obtain ⟨b, eb⟩ : ∃ b, bs.getD k 0 = b := ⟨_, rfl⟩
  have EB := Lib.hid eb
  rw [eb] at pl ⊢
  have H := Lib.hid h
  have HLT := Lib.hid hlt
  have ND := Lib.hid nd
  clear hS hT hL h hlt nd bl2 eb hkk
  go_enter Tryd.func30, Tryd.ntmps30
  go_wp2_with fail
  refine pl.mono ?_
  rintro e w3 ⟨u, rfl, ou, b3⟩
  clear pl
  obtain ⟨A, cc, rfl, hA0, hA1⟩ := OwnB.shape ou
  have OU := Lib.hid ou
  have H3 : BdC w3 p m v bs xs := H.out.keep (keep_of b3 fun _ => False) (fun _ _ q => q)
  have H3 := Lib.hid H3
  have B3 := Lib.hid b3
  rw [List.length_map]
  obtain ⟨n, en⟩ : ∃ n, L.length = n := ⟨_, rfl⟩
  have EN := Lib.hid en
  rw [en] at l2 ⊢
  have far0 : ∀ g, PFt bs xs.length g → g < w.heap.size := fun g hg => H.out.lt g (.inr (.inr (.inr hg)))
  have FAR0 := Lib.hid far0
  clear ou en b3 far0
  go_wp2
  go_loopw [5, 7, 14] (fun vv _ q wr => ReR w3 p m v bs xs k L vv q wr) (fun _ _ q _ => n - (intOf q).toNat)
  case atStart => exact ⟨0, Nat.zero_le _, rfl, by show OwnN _ _ _ []; exact World.ownsRow_nil _ _ _ _, by show BdC _ _ _ _ _ xs; exact H3.out, Keep.refl _ _⟩
  case round =>
    obtain ⟨j, hj, rfl, ow, bd, kr⟩ := hrel
    rw [EN.out] at hj
    by_cases hlt : j < n
    · cases A with
      | none =>
        have := congrArg List.length (hA0 rfl)
        rw [List.length_map, EN.out] at this
        simp at this
        omega
      | some ad =>
        obtain ⟨ga, rfl⟩ := hA1 _ rfl
        have jl : j < L.length := by rw [EN.out]; exact hlt
        have gl := OwnB.lt OU.out (g := ga) rfl
        have gt : ¬ (PFt bs xs.length ga ∨ w3.heap.size ≤ ga) := fun c => by
          rcases c with c | c
          · have := FAR0.out ga c; omega
          · omega
        obtain ⟨q, eq⟩ : ∃ q, L.getD j 0 = q := ⟨_, rfl⟩
        obtain ⟨mq, nq⟩ := row_at ND.out jl eq
        have hq : q < xs.length := HLT.out q mq
        have qk : q ≠ k := fun e => hkL (e ▸ mq)
        have c1 : wr.cell? ⟨ga, j, none⟩ = some (ptrV (bs.getD q 0)) := kr.cell (ptrs_at OU.out jl eq) gt
        have dl : (updL (relP k) xs (L.take j)).length = xs.length := updL_len _ _
        have hq2 : q < (updL (relP k) xs (L.take j)).length := by rw [dl]; exact hq
        have hk2 : k < (updL (relP k) xs (L.take j)).length := by rw [dl]; exact hk
        have gq : pty (updL (relP k) xs (L.take j)) q = pty xs q := by
          rw [updL_get _ _ (ND.out.sublist (List.take_sublist _ _)) (fun r hr => HLT.out r (List.mem_of_mem_take hr)), if_neg nq]
        have eb2 := bd.en q hq2
        rw [gq] at eb2
        have ck := (bd.en k hk2).c1
        have bne : bs.getD k 0 ≠ bs.getD q 0 := fun e => qk (bd.apart hk2 hq2 e).symm
        have tk := gatP_take (P := freeP k) (xs := xs) (L := L) j jl
        have dk : updL (relP k) xs (L.take (j + 1)) = (updL (relP k) xs (L.take j)).set q (relP k (pty xs q)) := by
          rw [take_next L j jl 0, updL_snoc, eq, gq]
        rw [eq] at tk
        have wj : IntKind.i64.wrap ((j : Int) + 1) = (j : Int) + 1 := IntWalk.i64_in _ (by omega)
        have tl : (gatP (freeP k) xs (L.take j)).length ≤ 2048 := Nat.le_trans gatP_len (by rw [List.length_take]; omega)
        have pq : PFt bs xs.length (bs.getD q 0) := ⟨q, hq, rfl⟩
        have e1 := eb2.turn (Sub.refl _ 6 _) (.inl rfl) eb2.s1
        unfold ptrV at c1
        have KR := Lib.hid kr
        have BD := Lib.hid bd
        have ol := fun g hg => (OwnN.lt ow (g := g) hg)
        have OL := Lib.hid ol
        have DK := Lib.hid dk
        have TKK := Lib.hid tk
        have ob : ∀ g, u5.ownBlock = some g → g ≠ bs.getD q 0 := fun g hg e => by
          have h1 := (OL.out g hg).1
          have h4 := (H3.out.lt (bs.getD q 0) (.inr (.inr (.inr pq))))
          omega
        have OB := Lib.hid ob
        have OW := Lib.hid ow
        have GQ := Lib.hid gq
        rw [EB.out] at ck bne
        obtain ⟨b9, eb9⟩ : ∃ b, bs.getD q 0 = b := ⟨_, rfl⟩
        have EB9 := Lib.hid eb9
        rw [eb9] at c1 eb2 pq bne
        have cd : wr.drew.cell? ⟨b, 1, none⟩ = some (.int .i64 k) := ck
        have D1 := drop_any (w := wr.drew) (SetAt.keep (T := fun _ => False) eb2.s1 (Keep.refl _ wr).drew id) k (by omega)
        have E2 := Lib.hid eb2
        have CK := Lib.hid ck
        have PQ := Lib.hid pq
        have BNE := Lib.hid bne
        clear hA0 hA1 eq eb9 bd kr dk tk ob ow gq ol eb2 ck e1 nq mq pq bne
        go_wp2_with fail
        go_still_tail 7, (by kernel_rfl)
        change wpList _ _ _ _ _ wr.drew
        go_wp2_with fail
        refine D1.mono ?_
        rintro e wA ⟨rfl, sb, sA⟩
        clear D1 cd
        have SA : Sub b9 6 wr wA := (Sub.drewN b9 6 wr 1).trans sb
        have EA := E2.out.turn SA (.inl rfl) sA
        rw [if_pos rfl] at EA
        have cA : wA.drew.cell? ⟨b, 1, none⟩ = some (.int .i64 k) := SA.keep.cell CK.out BNE.out
        have D2 := drop_any (w := wA.drew) (SetAt.keep (T := fun _ => False) EA.s2 (Keep.refl _ wA).drew id) k (by omega)
        have SA := Lib.hid SA
        have EA := Lib.hid EA
        clear sb sA
        go_wp2_with fail
        go_still_tail 7, (by kernel_rfl)
        change wpList _ _ _ _ _ wA.drew
        go_wp2_with fail
        refine D2.mono ?_
        rintro e wB ⟨rfl, sb, sB⟩
        clear D2 cA
        have SB : Sub b9 38 wA wB := (Sub.drewN b9 38 wA 1).trans sb
        have EBx := EA.out.turn SB (.inr (.inl rfl)) sB
        rw [if_neg (by decide), if_pos rfl] at EBx
        have en2 : PtyAt wB b9 q (relP k (pty xs q)) := EBx
        have kn : Keep (fun g => g = b9) wr wB := SA.out.keep.trans SB.keep
        have bn : BdC wB p m v bs (updL (relP k) xs (L.take (j + 1))) := by
          rw [DK.out]
          exact BD.out.put q hq2 (by rw [EB9.out]; exact kn) (by rw [EB9.out]; exact en2) (by rw [GQ.out]; rfl)
        have on : OwnN w3.heap.size wB u5 (gatP (freeP k) xs (L.take j)) := OwnN.keep OW.out kn fun g hg e => OB.out g hg (by rw [EB9.out]; exact e)
        have hB : w3.heap.size ≤ wB.heap.size := Nat.le_trans KR.out.size kn.size
        have kk : Keep (fun g => PFt bs xs.length g ∨ w3.heap.size ≤ g) w3 wB := KR.out.trans (kn.mono fun g e => .inl (e ▸ PQ.out))
        obtain ⟨r1, hr1⟩ := a_bool (∀ z, z < 2048 → ¬ ((pty xs q).bo z ∧ z ≠ k))
        have em := empty_any en2.s1 r1 hr1
        obtain ⟨r2, hr2, nd⟩ : ∃ r : Bool, (r = true ↔ ((pty xs q).st = 3 ∨ (pty xs q).st = 4)) ∧ Calls Tryd.prog 26 #[.pointer (some ⟨b9, 0, none⟩)] wB fun e w' => e = .returned (.bool r) ∧ wB = w' := ⟨_, @decide_eq_true_iff _ _, ended_any (x := relP k (pty xs q)) en2⟩
        have c0 := en2.c0
        have es2 : (relP k (pty xs q)).id = (pty xs q).id := rfl
        rw [es2] at c0
        have fp : freeP k (pty xs q) ↔ (r1 = true ∧ r2 = false) := by
          unfold freeP
          rw [hr1, ← hr2]
          simp
        have FP := Lib.hid fp
        have BN := Lib.hid bn
        have KK := Lib.hid kk
        obtain ⟨x9, ex⟩ : ∃ x, (pty xs q).id = x := ⟨_, rfl⟩
        have tk := TKK.out
        rw [ex] at c0 tk
        clear sb sB SA EA SB EBx en2 kn bn kk es2 TKK ex hr1 hr2 fp OW E2
        go_wp2_with fail
        refine em.mono ?_
        rintro e wX ⟨rfl, rfl⟩
        clear em
        have wayNo : (r1 && !r2) = false → OwnN w3.heap.size wB u5 (gatP (freeP k) xs (L.take (j + 1))) := fun hr => by
          rw [tk, if_neg]
          · exact on
          · rw [FP.out]
            rintro ⟨q1, q2⟩
            rw [q1, q2] at hr
            cases hr
        cases r1
        · have O3 := Lib.hid (wayNo rfl)
          clear nd on tk FP wayNo
          go_wp2
          go_roundw
          case rel => exact ⟨j + 1, by rw [EN.out]; omega, by go_num, O3.out, BN.out, KK.out⟩
          case measure => simp [intOf]; omega
        · go_wp2_with fail
          refine nd.mono ?_
          rintro e wX ⟨rfl, rfl⟩
          clear nd
          cases r2
          · rw [if_pos (FP.out.2 (by simp))] at tk
            have TKK := Lib.hid tk
            obtain ⟨A2, c2', rfl, _, _⟩ := OwnN.shapeN on
            obtain ⟨zs, ez⟩ : ∃ zs, gatP (freeP k) xs (L.take j) = zs := ⟨_, rfl⟩
            have EZ := Lib.hid ez
            have ol2 := OL.out
            rw [ez] at on tl ol2 ⊢
            have OL2 := Lib.hid ol2
            clear ol2 tk ez wayNo FP
            go_wp2_with (with_reducible refine wp_stop 49 rfl ?_)
            intro _
            refine wp_pushN rfl (.tmp 43) (.tmp 48) rfl w3.heap.size hB (.slice A2 zs.length c2') zs rfl on x9 rfl (by omega) ?_
            intro g3 c3 y3 o3 k3 hg3
            have O3 : OwnN w3.heap.size y3 (.slice (some ⟨g3, 0, none⟩) (zs.length + 1) c3) (gatP (freeP k) xs (L.take (j + 1))) := by
              rw [TKK.out, EZ.out]
              exact o3
            have BB : BdC y3 p m v bs (updL (relP k) xs (L.take (j + 1))) := BN.out.keep k3 fun g hg e => by
              have h1 := (OL2.out g e).1
              have h2 := H3.out.lt g (foot_upd hg)
              omega
            have K3' : Keep (fun g => PFt bs xs.length g ∨ w3.heap.size ≤ g) w3 y3 := KK.out.trans (k3.mono fun g e => .inr (OL2.out g e).1)
            have O3 := Lib.hid O3
            have BB := Lib.hid BB
            have K3' := Lib.hid K3'
            clear o3 k3 hg3 on
            go_wp2
            go_roundw
            case rel => exact ⟨j + 1, by rw [EN.out]; omega, by go_num, O3.out, BB.out, K3'.out⟩
            case measure => simp [intOf]; omega
          · have O3 := Lib.hid (wayNo rfl)
            clear on tk FP wayNo
            go_wp2
            go_roundw
            case rel => exact ⟨j + 1, by rw [EN.out]; omega, by go_num, O3.out, BN.out, KK.out⟩
            case measure => simp [intOf]; omega
    · obtain rfl : j = n := by omega
      rw [List.take_of_length_le (by rw [EN.out]; exact Nat.le_refl _)] at ow bd
      have so := sort_any ow (by have := gatP_len (P := freeP k) (xs := xs) (L := L); rw [EN.out] at this; omega)
      have lt6 := fun g hg => (OwnN.lt ow (g := g) hg).1
      have KR := Lib.hid kr
      have BD := Lib.hid bd
      have LT := Lib.hid lt6
      clear ow bd kr hA0 hA1 lt6
      go_wp2_with fail
      refine so.mono ?_
      rintro e w5 ⟨rfl, o5, k5⟩
      have O5 := Lib.hid (OwnN.lowerN o5 B3.out.size)
      have B5 : BdC w5 p m v bs (updL (relP k) xs L) := BD.out.keep k5 fun g hg e => by
        have h1 := LT.out g e
        have h2 := H3.out.lt g (foot_upd hg)
        omega
      have K5 : Keep (PFt bs xs.length) w w5 := by
        have a1 : Keep (fun g => PFt bs xs.length g ∨ w.heap.size ≤ g) w w5 := ((keep_of B3.out _).trans (KR.out.mono fun g e => by
          rcases e with e | e
          · exact .inl e
          · exact .inr (Nat.le_trans B3.out.size e))).trans (k5.mono fun g e => .inr (Nat.le_trans B3.out.size (LT.out g e)))
        exact ⟨a1.os, a1.tape, a1.output, a1.size, fun g hg hn => a1.block g hg fun c => by
          rcases c with c | c
          · exact hn c
          · omega⟩
      have B5 := Lib.hid B5
      have K5 := Lib.hid K5
      clear so o5 k5
      go_wp2
      go_ret
      exact ⟨_, rfl, O5.out, B5.out, K5.out⟩
end
end Go.Proofs.YtjobphjpfknfeaaDoor
