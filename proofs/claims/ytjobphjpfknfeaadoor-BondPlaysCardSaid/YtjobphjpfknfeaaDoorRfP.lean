/- Contract of vinculumref16.put (the document's own answer for layer 16): a rising list with a number. Condition: the list is the caller's own, of 1000 elements at most. -/
import Derived.Test.YtjobphjpfknfeaaDoorAppN
import Derived.Test.YtjobphjpfknfeaaDoorBdI
import Derived.ChangeOld
import Derived.Deep.LoopGhost
import Derived.Deep.CutRange
import Derived.Deep.CutBlock
import Derived.Deep.RegionHeld3
namespace Go.Proofs.YtjobphjpfknfeaaDoor
open Go.ChangeShapes Go.WideShapes Go.ChangeAt Go.RowKit
set_option linter.unusedVariables false

theorem putB_split : ∀ (k : Nat) (L : List Int) (o : Int), k ≤ L.length → (∀ j, j < k → L.getD j 0 < o) → (k = L.length ∨ o < L.getD k 0) → putB L o = L.take k ++ [o] ++ L.drop k
  | 0, [], o, _, _, _ => rfl
  | 0, x :: l, o, _, _, h => by
    have h : o < x := by rcases h with h | h; cases h; exact h
    unfold putB
    rw [if_pos h]
    rfl
  | k + 1, [], o, hk, _, _ => by simp at hk
  | k + 1, x :: l, o, hk, hj, h => by
    have h0 : x < o := hj 0 (by omega)
    unfold putB
    rw [if_neg (by omega), if_neg (by omega), putB_split k l o (by simpa using hk) (fun j q => hj (j + 1) (by omega)) (h.imp (fun q => by simpa using q) id)]
    rfl
theorem putB_here : ∀ (k : Nat) (L : List Int) (o : Int), k < L.length → (∀ j, j < k → L.getD j 0 < o) → L.getD k 0 = o → putB L o = L
  | k, [], o, hk, _, _ => by simp at hk
  | 0, x :: l, o, _, _, h => by
    have h : x = o := h
    unfold putB
    rw [if_neg (by omega), if_pos h.symm]
  | k + 1, x :: l, o, hk, hj, h => by
    have h0 : x < o := hj 0 (by omega)
    unfold putB
    rw [if_neg (by omega), if_neg (by omega), putB_here k l o (by simpa using hk) (fun j q => hj (j + 1) (by omega)) h]
theorem out9N {B : Nat} {w : World} {v : Value} {zs : List Int} (h : OwnN B w v zs) : ∃ A c, v = .slice A zs.length c ∧ (A = none → zs = [] ∧ c = 0) ∧ (∀ ad, A = some ad → ∃ g, ad = ⟨g, 0, none⟩) ∧ (A ≠ none → zs.length ≤ c) := by
  obtain ⟨h1, h2⟩ := id h
  rcases h2 with ⟨h3, h4⟩ | ⟨g, c, cur, hv, _, _, hc, _⟩
  · exact ⟨none, 0, by rw [h4]; exact h3, fun _ => ⟨List.length_eq_zero_iff.1 h4, rfl⟩, (fun ad h => by cases h), fun h => absurd rfl h⟩
  · exact ⟨some ⟨g, 0, none⟩, c, hv, fun h => (by cases h), (fun ad h => by cases h; exact ⟨g, rfl⟩), fun _ => hc⟩
theorem one_capN {B : Nat} {w : World} {v : Value} {o : Int} (h : OwnN B w v [o]) : ∃ g c, v = .slice (some ⟨g, 0, none⟩) 1 c ∧ 1 ≤ c := by
  obtain ⟨_, h2⟩ := id h
  rcases h2 with ⟨_, h2⟩ | ⟨g, c, cur, hv, _, _, hc, _⟩
  · simp at h2
  · exact ⟨g, c, hv, hc⟩
theorem lit1N (W : World) (o : Int) : ∃ W', W.alloc (.cells #[.int .i64 o] 3) = W' ∧ W'.cell? ⟨W.heap.size, 0, none⟩ = some (.int .i64 o) ∧ Keep (fun _ => False) W W' ∧ W.heap.size < W'.heap.size :=
  ⟨_, rfl, by simp, Keep.alloc (Keep.refl _ _) _, by simp⟩
theorem empN (W : World) {B : Nat} (hB : B ≤ W.heap.size) : ∃ W', W.alloc (.cells #[] 3) = W' ∧ OwnN B W' (.slice (some ⟨W.heap.size, 0, none⟩) 0 0) [] ∧ Keep (fun _ => False) W W' ∧ W.heap.size < W'.heap.size :=
  ⟨_, rfl, own_emptyN hB, Keep.alloc (Keep.refl _ _) _, by simp⟩
set_option maxRecDepth 100000 in
set_option maxHeartbeats 8000000 in
theorem put_any {B : Nat} {w : World} {v : Value} {L : List Int} {o : Int} (ho1 : OwnN B w v L) (hl : L.length ≤ 1000) (hB : B ≤ w.heap.size) : Calls Tryd.prog 36 #[v, .int .i64 o] w fun e w' => ∃ u, e = .returned u ∧ OwnN B w' u (putB L o) ∧ Keep (fun _ => False) w w' := by
  obtain ⟨A, c, rfl, hA0, hA1, hcap⟩ := out9N ho1
  obtain ⟨n, hn⟩ : ∃ n, L.length = n := ⟨_, rfl⟩
  rw [hn] at ho1 hl hcap ⊢
  go_enter Tryd.func36, Tryd.ntmps36
  cases A with
  | none =>
    have n0 : n = 0 := by rw [← hn, (hA0 rfl).1]; rfl
    obtain ⟨rfl, rfl⟩ := hA0 rfl
    subst n0
    clear hA0 hA1 hcap ho1
    go_wp2
    go_loopg [5] 0 (fun mm i wx => w = wx ∧ i = .int .i64 0)
    case atStart => exact ⟨rfl, rfl⟩
    case round =>
      obtain ⟨rfl, rfl⟩ := hrel
      go_wp2_with fail
      have kz : Keep (fun j => w.heap.size ≤ j) w w.drew := (Keep.refl _ _).drew
      refine wp_region_held_drew (S := (fun _ => True)) (by kernel_rfl) trivial (fun hHeld => ?_)
      generalize w.drew = Z at kz ⊢
      obtain ⟨H, eH⟩ : ∃ H, w.heap.size = H := ⟨_, rfl⟩
      rw [eH] at kz
      have sZ : H ≤ Z.heap.size := by rw [← eH]; exact kz.size
      refine wpAnyH_take (i := 1) (v := ?qve1n) rfl (by kernel_rfl) (by kernel_rfl) (by kernel_rfl) (fun _ _ _ h => h) (Or.inl ⟨by rfl, ?qye1n⟩) (by assumption) ?qre1n; case qye1n => ((intro w hSw; (try dsimp only at hSw); go_simp); try (with_reducible rfl))
      ((try simp only [List.getElem_toArray]); (try simp only [List.getElem_cons_succ]); (try simp only [List.getElem_cons_zero]); (try simp only [Act.put]); (try simp only [List.setIfInBounds_toArray]); (try simp only [List.set_cons_succ]); (try simp only [List.set_cons_zero]))
      refine wpAnyH_take (i := 2) (v := ?qve2n) rfl (by kernel_rfl) (by kernel_rfl) (by kernel_rfl) (fun _ _ _ h => h) (Or.inl ⟨by rfl, ?qye2n⟩) (by assumption) ?qre2n; case qye2n => ((intro w hSw; (try dsimp only at hSw); go_simp); try (with_reducible rfl))
      ((try simp only [List.getElem_toArray]); (try simp only [List.getElem_cons_succ]); (try simp only [List.getElem_cons_zero]); (try simp only [Act.put]); (try simp only [List.setIfInBounds_toArray]); (try simp only [List.set_cons_succ]); (try simp only [List.set_cons_zero]))
      refine wpAnyH_take (i := 3) (v := ?qve3n) rfl (by kernel_rfl) (by kernel_rfl) (by kernel_rfl) (fun _ _ _ h => h) (Or.inl ⟨by rfl, ?qye3n⟩) (by assumption) ?qre3n; case qye3n => ((intro w hSw; (try dsimp only at hSw); go_simp); try (with_reducible rfl))
      ((try simp only [List.getElem_toArray]); (try simp only [List.getElem_cons_succ]); (try simp only [List.getElem_cons_zero]); (try simp only [Act.put]); (try simp only [List.setIfInBounds_toArray]); (try simp only [List.set_cons_succ]); (try simp only [List.set_cons_zero]))
      refine wpAnyH_take (i := 5) (v := ?qve5n) rfl (by kernel_rfl) (by kernel_rfl) (by kernel_rfl) (fun _ _ _ h => h) (Or.inl ⟨by rfl, ?qye5n⟩) (by assumption) ?qre5n; case qye5n => ((intro w hSw; (try dsimp only at hSw); go_simp); try (with_reducible rfl))
      ((try simp only [List.getElem_toArray]); (try simp only [List.getElem_cons_succ]); (try simp only [List.getElem_cons_zero]); (try simp only [Act.put]); (try simp only [List.setIfInBounds_toArray]); (try simp only [List.set_cons_succ]); (try simp only [List.set_cons_zero]))
      refine wpAnyH_take (i := 8) (v := ?qve8n) rfl (by kernel_rfl) (by kernel_rfl) (by kernel_rfl) (fun _ _ _ h => h) (Or.inl ⟨by rfl, ?qye8n⟩) (by assumption) ?qre8n; case qye8n => ((intro w hSw; (try dsimp only at hSw); go_simp); try (with_reducible rfl))
      ((try simp only [List.getElem_toArray]); (try simp only [List.getElem_cons_succ]); (try simp only [List.getElem_cons_zero]); (try simp only [Act.put]); (try simp only [List.setIfInBounds_toArray]); (try simp only [List.set_cons_succ]); (try simp only [List.set_cons_zero]))
      refine wpAnyH_take (i := 9) (v := ?qve9n) rfl (by kernel_rfl) (by kernel_rfl) (by kernel_rfl) (fun _ _ _ h => h) (Or.inl ⟨by rfl, ?qye9n⟩) (by assumption) ?qre9n; case qye9n => ((intro w hSw; (try dsimp only at hSw); go_simp); try (with_reducible rfl))
      ((try simp only [List.getElem_toArray]); (try simp only [List.getElem_cons_succ]); (try simp only [List.getElem_cons_zero]); (try simp only [Act.put]); (try simp only [List.setIfInBounds_toArray]); (try simp only [List.set_cons_succ]); (try simp only [List.set_cons_zero]))
      refine wpAnyH_take (i := 10) (v := ?qve10n) rfl (by kernel_rfl) (by kernel_rfl) (by kernel_rfl) (fun _ _ _ h => h) (Or.inl ⟨by rfl, ?qye10n⟩) (by assumption) ?qre10n; case qye10n => ((intro w hSw; (try dsimp only at hSw); go_simp); try (with_reducible rfl))
      ((try simp only [List.getElem_toArray]); (try simp only [List.getElem_cons_succ]); (try simp only [List.getElem_cons_zero]); (try simp only [Act.put]); (try simp only [List.setIfInBounds_toArray]); (try simp only [List.set_cons_succ]); (try simp only [List.set_cons_zero]))
      refine wpAnyH_ready (rs := [0, 6]) (by kernel_rfl) (by simp) ?_
      refine AllReadyH.cons rfl (fun K hK => ?_) (AllReadyH.cons rfl (fun K hK => ?_) AllReadyH.nil)
      · go_simp; refine hK.out _ _ trivial (fun hHeld => ?_); clear hK K; obtain ⟨Y, eX, hE, kE, lE⟩ := empN Z sZ; rw [eX]; clear eX; have ky := kz.trans (kE.mono (T := fun j => H ≤ j) (fun _ h => h.elim)); have sY : H ≤ Y.heap.size := (by omega)
        ((try simp only [List.getElem_toArray]); (try simp only [List.getElem_cons_succ]); (try simp only [List.getElem_cons_zero]); (try simp only [Act.put]); (try simp only [List.setIfInBounds_toArray]); (try simp only [List.set_cons_succ]); (try simp only [List.set_cons_zero]))
        refine wpAnyH_ready (rs := [4, 6]) (by kernel_rfl) (by simp) ?_
        refine AllReadyH.cons rfl (fun K hK => ?_) (AllReadyH.cons rfl (fun K hK => ?_) AllReadyH.nil)
        · go_simp; refine hK.out _ _ trivial (fun hHeld => ?_); clear hK K
          ((try simp only [List.getElem_toArray]); (try simp only [List.getElem_cons_succ]); (try simp only [List.getElem_cons_zero]); (try simp only [Act.put]); (try simp only [List.setIfInBounds_toArray]); (try simp only [List.set_cons_succ]); (try simp only [List.set_cons_zero]))
          refine wpAnyH_ready (rs := [6]) (by kernel_rfl) (by simp) ?_
          refine AllReadyH.cons rfl (fun K hK => ?_) AllReadyH.nil
          go_simp; refine hK.out _ _ trivial (fun hHeld => ?_); clear hK K; obtain ⟨X, eX, cO, kL, lL⟩ := lit1N Y o; rw [eX]; clear eX; have kx := ky.trans (kL.mono (T := fun j => H ≤ j) (fun _ h => h.elim)); have sX : H ≤ X.heap.size := (by omega)
          have hE := OwnN.keep hE kL (by simp)
          ((try simp only [List.getElem_toArray]); (try simp only [List.getElem_cons_succ]); (try simp only [List.getElem_cons_zero]); (try simp only [Act.put]); (try simp only [List.setIfInBounds_toArray]); (try simp only [List.set_cons_succ]); (try simp only [List.set_cons_zero]))
          refine wpAnyH_ready (rs := [7]) (by kernel_rfl) (by simp) ?_; refine AllReadyH.cons rfl (fun K hK => ?_) AllReadyH.nil; refine step_appN rfl (.tmp 37) (.tmp 39) rfl H sX (.slice (some ⟨Z.heap.size, 0, none⟩) 0 0) [] rfl hE ⟨Y.heap.size, 0, none⟩ 1 1 [o] rfl rfl (fun t ht => by (obtain rfl : t = 0 := (by simpa using ht)); simpa [Addr.add] using cO) (by simp) (by simp) ?_; intro v7 w7 o7 kr; rw [List.nil_append] at o7; obtain ⟨g7, c7, rfl, l7⟩ := one_capN o7; have k7 := kx.trans (kr.mono (T := fun j => H ≤ j) (fun j hj => (OwnN.lt hE hj).1)); refine hK.out _ _ trivial (fun hHeld => ?_); clear hK K
          ((try simp only [List.getElem_toArray]); (try simp only [List.getElem_cons_succ]); (try simp only [List.getElem_cons_zero]); (try simp only [Act.put]); (try simp only [List.setIfInBounds_toArray]); (try simp only [List.set_cons_succ]); (try simp only [List.set_cons_zero]))
          refine wpAnyH_ready (rs := [11]) (by kernel_rfl) (by simp) ?_
          refine AllReadyH.cons rfl (fun K hK => ?_) AllReadyH.nil
          go_simp; refine hK.out _ _ trivial (fun hHeld => ?_); clear hK K
          ((try simp only [List.getElem_toArray]); (try simp only [List.getElem_cons_succ]); (try simp only [List.getElem_cons_zero]); (try simp only [Act.put]); (try simp only [List.setIfInBounds_toArray]); (try simp only [List.set_cons_succ]); (try simp only [List.set_cons_zero]))
          refine wpAnyH_take (i := 12) (v := ?qve12an) rfl (by kernel_rfl) (by kernel_rfl) (by kernel_rfl) (fun _ _ _ h => h) (Or.inl ⟨by rfl, ?qye12an⟩) (by assumption) ?qre12an; case qye12an => ((intro w hSw; (try dsimp only at hSw); go_simp); try (with_reducible rfl))
          ((try simp only [List.getElem_toArray]); (try simp only [List.getElem_cons_succ]); (try simp only [List.getElem_cons_zero]); (try simp only [Act.put]); (try simp only [List.setIfInBounds_toArray]); (try simp only [List.set_cons_succ]); (try simp only [List.set_cons_zero]))
          refine wpAnyH_done (by kernel_rfl) ?_ _
          have k7 := Keep.newer (by rw [eH]; exact k7); have o7 := OwnN.lower o7 (by omega : B ≤ H); go_wp2; go_ret; exact ⟨_, rfl, o7, k7⟩
        · go_simp; refine hK.out _ _ trivial (fun hHeld => ?_); clear hK K; obtain ⟨X, eX, cO, kL, lL⟩ := lit1N Y o; rw [eX]; clear eX; have kx := ky.trans (kL.mono (T := fun j => H ≤ j) (fun _ h => h.elim)); have sX : H ≤ X.heap.size := (by omega)
          have hE := OwnN.keep hE kL (by simp)
          ((try simp only [List.getElem_toArray]); (try simp only [List.getElem_cons_succ]); (try simp only [List.getElem_cons_zero]); (try simp only [Act.put]); (try simp only [List.setIfInBounds_toArray]); (try simp only [List.set_cons_succ]); (try simp only [List.set_cons_zero]))
          refine wpAnyH_ready (rs := [4]) (by kernel_rfl) (by simp) ?_
          refine AllReadyH.cons rfl (fun K hK => ?_) AllReadyH.nil
          go_simp; refine hK.out _ _ trivial (fun hHeld => ?_); clear hK K
          ((try simp only [List.getElem_toArray]); (try simp only [List.getElem_cons_succ]); (try simp only [List.getElem_cons_zero]); (try simp only [Act.put]); (try simp only [List.setIfInBounds_toArray]); (try simp only [List.set_cons_succ]); (try simp only [List.set_cons_zero]))
          refine wpAnyH_ready (rs := [7]) (by kernel_rfl) (by simp) ?_; refine AllReadyH.cons rfl (fun K hK => ?_) AllReadyH.nil; refine step_appN rfl (.tmp 37) (.tmp 39) rfl H sX (.slice (some ⟨Z.heap.size, 0, none⟩) 0 0) [] rfl hE ⟨Y.heap.size, 0, none⟩ 1 1 [o] rfl rfl (fun t ht => by (obtain rfl : t = 0 := (by simpa using ht)); simpa [Addr.add] using cO) (by simp) (by simp) ?_; intro v7 w7 o7 kr; rw [List.nil_append] at o7; obtain ⟨g7, c7, rfl, l7⟩ := one_capN o7; have k7 := kx.trans (kr.mono (T := fun j => H ≤ j) (fun j hj => (OwnN.lt hE hj).1)); refine hK.out _ _ trivial (fun hHeld => ?_); clear hK K
          ((try simp only [List.getElem_toArray]); (try simp only [List.getElem_cons_succ]); (try simp only [List.getElem_cons_zero]); (try simp only [Act.put]); (try simp only [List.setIfInBounds_toArray]); (try simp only [List.set_cons_succ]); (try simp only [List.set_cons_zero]))
          refine wpAnyH_ready (rs := [11]) (by kernel_rfl) (by simp) ?_
          refine AllReadyH.cons rfl (fun K hK => ?_) AllReadyH.nil
          go_simp; refine hK.out _ _ trivial (fun hHeld => ?_); clear hK K
          ((try simp only [List.getElem_toArray]); (try simp only [List.getElem_cons_succ]); (try simp only [List.getElem_cons_zero]); (try simp only [Act.put]); (try simp only [List.setIfInBounds_toArray]); (try simp only [List.set_cons_succ]); (try simp only [List.set_cons_zero]))
          refine wpAnyH_take (i := 12) (v := ?qve12bn) rfl (by kernel_rfl) (by kernel_rfl) (by kernel_rfl) (fun _ _ _ h => h) (Or.inl ⟨by rfl, ?qye12bn⟩) (by assumption) ?qre12bn; case qye12bn => ((intro w hSw; (try dsimp only at hSw); go_simp); try (with_reducible rfl))
          ((try simp only [List.getElem_toArray]); (try simp only [List.getElem_cons_succ]); (try simp only [List.getElem_cons_zero]); (try simp only [Act.put]); (try simp only [List.setIfInBounds_toArray]); (try simp only [List.set_cons_succ]); (try simp only [List.set_cons_zero]))
          refine wpAnyH_done (by kernel_rfl) ?_ _
          have k7 := Keep.newer (by rw [eH]; exact k7); have o7 := OwnN.lower o7 (by omega : B ≤ H); go_wp2; go_ret; exact ⟨_, rfl, o7, k7⟩
      · go_simp; refine hK.out _ _ trivial (fun hHeld => ?_); clear hK K; obtain ⟨X, eX, cO, kL, lL⟩ := lit1N Z o; rw [eX]; clear eX; have kx := kz.trans (kL.mono (T := fun j => H ≤ j) (fun _ h => h.elim)); have sX : H ≤ X.heap.size := (by omega)
        ((try simp only [List.getElem_toArray]); (try simp only [List.getElem_cons_succ]); (try simp only [List.getElem_cons_zero]); (try simp only [Act.put]); (try simp only [List.setIfInBounds_toArray]); (try simp only [List.set_cons_succ]); (try simp only [List.set_cons_zero]))
        refine wpAnyH_ready (rs := [0]) (by kernel_rfl) (by simp) ?_
        refine AllReadyH.cons rfl (fun K hK => ?_) AllReadyH.nil
        go_simp; refine hK.out _ _ trivial (fun hHeld => ?_); clear hK K; obtain ⟨Y, eX, hE, kE, lE⟩ := empN X sX; rw [eX]; clear eX; have ky := kx.trans (kE.mono (T := fun j => H ≤ j) (fun _ h => h.elim)); have sY : H ≤ Y.heap.size := (by omega)
        have cO := kE.cell cO (by simp)
        ((try simp only [List.getElem_toArray]); (try simp only [List.getElem_cons_succ]); (try simp only [List.getElem_cons_zero]); (try simp only [Act.put]); (try simp only [List.setIfInBounds_toArray]); (try simp only [List.set_cons_succ]); (try simp only [List.set_cons_zero]))
        refine wpAnyH_ready (rs := [4]) (by kernel_rfl) (by simp) ?_
        refine AllReadyH.cons rfl (fun K hK => ?_) AllReadyH.nil
        go_simp; refine hK.out _ _ trivial (fun hHeld => ?_); clear hK K
        ((try simp only [List.getElem_toArray]); (try simp only [List.getElem_cons_succ]); (try simp only [List.getElem_cons_zero]); (try simp only [Act.put]); (try simp only [List.setIfInBounds_toArray]); (try simp only [List.set_cons_succ]); (try simp only [List.set_cons_zero]))
        refine wpAnyH_ready (rs := [7]) (by kernel_rfl) (by simp) ?_; refine AllReadyH.cons rfl (fun K hK => ?_) AllReadyH.nil; refine step_appN rfl (.tmp 37) (.tmp 39) rfl H sY (.slice (some ⟨X.heap.size, 0, none⟩) 0 0) [] rfl hE ⟨Z.heap.size, 0, none⟩ 1 1 [o] rfl rfl (fun t ht => by (obtain rfl : t = 0 := (by simpa using ht)); simpa [Addr.add] using cO) (by simp) (by simp) ?_; intro v7 w7 o7 kr; rw [List.nil_append] at o7; obtain ⟨g7, c7, rfl, l7⟩ := one_capN o7; have k7 := ky.trans (kr.mono (T := fun j => H ≤ j) (fun j hj => (OwnN.lt hE hj).1)); refine hK.out _ _ trivial (fun hHeld => ?_); clear hK K
        ((try simp only [List.getElem_toArray]); (try simp only [List.getElem_cons_succ]); (try simp only [List.getElem_cons_zero]); (try simp only [Act.put]); (try simp only [List.setIfInBounds_toArray]); (try simp only [List.set_cons_succ]); (try simp only [List.set_cons_zero]))
        refine wpAnyH_ready (rs := [11]) (by kernel_rfl) (by simp) ?_
        refine AllReadyH.cons rfl (fun K hK => ?_) AllReadyH.nil
        go_simp; refine hK.out _ _ trivial (fun hHeld => ?_); clear hK K
        ((try simp only [List.getElem_toArray]); (try simp only [List.getElem_cons_succ]); (try simp only [List.getElem_cons_zero]); (try simp only [Act.put]); (try simp only [List.setIfInBounds_toArray]); (try simp only [List.set_cons_succ]); (try simp only [List.set_cons_zero]))
        refine wpAnyH_take (i := 12) (v := ?qve12cn) rfl (by kernel_rfl) (by kernel_rfl) (by kernel_rfl) (fun _ _ _ h => h) (Or.inl ⟨by rfl, ?qye12cn⟩) (by assumption) ?qre12cn; case qye12cn => ((intro w hSw; (try dsimp only at hSw); go_simp); try (with_reducible rfl))
        ((try simp only [List.getElem_toArray]); (try simp only [List.getElem_cons_succ]); (try simp only [List.getElem_cons_zero]); (try simp only [Act.put]); (try simp only [List.setIfInBounds_toArray]); (try simp only [List.set_cons_succ]); (try simp only [List.set_cons_zero]))
        refine wpAnyH_done (by kernel_rfl) ?_ _
        have k7 := Keep.newer (by rw [eH]; exact k7); have o7 := OwnN.lower o7 (by omega : B ≤ H); go_wp2; go_ret; exact ⟨_, rfl, o7, k7⟩
  | some ad =>
    obtain ⟨gw, rfl⟩ := hA1 _ rfl
    have hcap := hcap (by simp)
    have gz : gw < w.heap.size := (OwnN.lt ho1 rfl).2
    have ho2 : OwnN B w (.slice (some ⟨gw, 0, none⟩) L.length c) L := by rw [hn]; exact ho1
    clear hA0 hA1
    go_upto_block 0 with fail
    go_cut [5] from 6 to 19 (fun i wx => w = wx ∧ ∃ k : Nat, i = .int .i64 k ∧ k ≤ n ∧ (∀ j, j < k → L.getD j 0 < o) ∧ (k = n ∨ ¬ L.getD k 0 < o))
    case first =>
      go_wp2
      go_loopg [5] n (fun mm i wx => w = wx ∧ ∃ k : Nat, mm + k = n ∧ i = .int .i64 k ∧ ∀ j, j < k → L.getD j 0 < o)
      case atStart => exact ⟨rfl, 0, by omega, rfl, fun j hj => by omega⟩
      case round =>
        obtain ⟨rfl, k, hgk, rfl, hj⟩ := hrel
        have wk : IntKind.i64.wrap ((k : Int) + 1) = (k : Int) + 1 := IntWalk.i64_in _ (by omega)
        have HJ := Lib.hid hj
        clear hj
        by_cases hlt : k < n
        · have hc := ho2.cell k (by rw [hn]; exact hlt)
          obtain ⟨x, ex⟩ : ∃ x, L.getD k 0 = x := ⟨_, rfl⟩
          rw [ex] at hc
          have EX := Lib.hid ex
          clear ex
          by_cases hx : x < o
          · go_wp2_with fail
            go_roundg (n - (k + 1))
            case measure => omega
            case rel => exact ⟨rfl, k + 1, by omega, by go_num, fun j q => by
              by_cases e : j = k
              · subst e; rw [EX.out]; exact hx
              · exact HJ.out j (by omega)⟩
          · have hx2 : decide (x < o) = false := decide_eq_false hx
            go_wp2_with fail
            go_meet
            exact ⟨rfl, k, rfl, by omega, HJ.out, .inr (by rw [EX.out]; exact hx)⟩
        · obtain rfl : k = n := by omega
          go_wp2_with fail
          go_meet
          exact ⟨rfl, k, rfl, by omega, HJ.out, .inl rfl⟩
    case rest =>
    obtain ⟨rfl, k, rfl, kn, hj, hk⟩ := hcut
    have sk2 : (0 : Int) ≤ (k : Int) := by omega
    have sk4 : k ≤ c := by omega
    have ski : (k : Int) ≤ (n : Int) := by omega
    obtain ⟨ad, ead, had⟩ : ∃ ad : Addr, (if c = k then some ({ block := gw, off := 0 } : Addr) else some { block := gw, off := k }) = some ad ∧ (¬ c = k → ad = ⟨gw, k, none⟩) := by
      by_cases hc : c = k
      · exact ⟨⟨gw, 0, none⟩, by rw [if_pos hc], fun h => absurd hc h⟩
      · exact ⟨⟨gw, k, none⟩, by rw [if_neg hc], fun _ => rfl⟩
    by_cases hlt : k < n
    · have hc := ho2.cell k (by rw [hn]; exact hlt)
      obtain ⟨x, ex⟩ : ∃ x, L.getD k 0 = x := ⟨_, rfl⟩
      rw [ex] at hc hk
      have hx : ¬ x < o := hk.resolve_left (by omega)
      by_cases hz : x = o
      · have PUT := Lib.hid (putB_here k L o (by omega) hj (ex.trans hz))
        subst hz
        clear hj hk ex had ead
        go_wp2_with fail
        go_ret
        refine ⟨_, rfl, ?_, Keep.refl _ _⟩
        rw [PUT.out]
        exact ho1
      · have hz2 : (x == o) = false := by simpa using hz
        have PUT := putB_split k L o (by omega) hj (.inr (by rw [ex]; omega))
        have PUT := Lib.hid PUT
        clear hj hk ex ho1
        go_wp2_with fail
        have kz : Keep (fun j => w.heap.size ≤ j) w w.drew := (Keep.refl _ _).drew
        refine wp_region_held_drew (S := (fun _ => True)) (by kernel_rfl) trivial (fun hHeld => ?_)
        generalize w.drew = Z at kz ⊢
        obtain ⟨H, eH⟩ : ∃ H, w.heap.size = H := ⟨_, rfl⟩
        rw [eH] at kz gz
        have sZ : H ≤ Z.heap.size := by rw [← eH]; exact kz.size
        refine wpAnyH_take (i := 1) (v := ?qvf1s) rfl (by kernel_rfl) (by kernel_rfl) (by kernel_rfl) (fun _ _ _ h => h) (Or.inl ⟨by rfl, ?qyf1s⟩) (by assumption) ?qrf1s; case qyf1s => ((intro w hSw; (try dsimp only at hSw); go_simp); try (with_reducible rfl))
        ((try simp only [List.getElem_toArray]); (try simp only [List.getElem_cons_succ]); (try simp only [List.getElem_cons_zero]); (try simp only [Act.put]); (try simp only [List.setIfInBounds_toArray]); (try simp only [List.set_cons_succ]); (try simp only [List.set_cons_zero]))
        refine wpAnyH_take (i := 2) (v := ?qvf2s) rfl (by kernel_rfl) (by kernel_rfl) (by kernel_rfl) (fun _ _ _ h => h) (Or.inl ⟨by rfl, ?qyf2s⟩) (by assumption) ?qrf2s; case qyf2s => ((intro w hSw; (try dsimp only at hSw); go_simp); try (with_reducible rfl))
        ((try simp only [List.getElem_toArray]); (try simp only [List.getElem_cons_succ]); (try simp only [List.getElem_cons_zero]); (try simp only [Act.put]); (try simp only [List.setIfInBounds_toArray]); (try simp only [List.set_cons_succ]); (try simp only [List.set_cons_zero]))
        refine wpAnyH_take (i := 3) (v := ?qvf3s) rfl (by kernel_rfl) (by kernel_rfl) (by kernel_rfl) (fun _ _ _ h => h) (Or.inl ⟨by rfl, ?qyf3s⟩) (by assumption) ?qrf3s; case qyf3s => ((intro w hSw; (try dsimp only at hSw); go_simp); try (with_reducible rfl))
        ((try simp only [List.getElem_toArray]); (try simp only [List.getElem_cons_succ]); (try simp only [List.getElem_cons_zero]); (try simp only [Act.put]); (try simp only [List.setIfInBounds_toArray]); (try simp only [List.set_cons_succ]); (try simp only [List.set_cons_zero]))
        refine wpAnyH_take (i := 5) (v := ?qvf5s) rfl (by kernel_rfl) (by kernel_rfl) (by kernel_rfl) (fun _ _ _ h => h) (Or.inl ⟨by rfl, ?qyf5s⟩) (by assumption) ?qrf5s; case qyf5s => ((intro w hSw; (try dsimp only at hSw); go_simp); try (with_reducible rfl))
        ((try simp only [List.getElem_toArray]); (try simp only [List.getElem_cons_succ]); (try simp only [List.getElem_cons_zero]); (try simp only [Act.put]); (try simp only [List.setIfInBounds_toArray]); (try simp only [List.set_cons_succ]); (try simp only [List.set_cons_zero]))
        refine wpAnyH_take (i := 8) (v := ?qvf8s) rfl (by kernel_rfl) (by kernel_rfl) (by kernel_rfl) (fun _ _ _ h => h) (Or.inl ⟨by rfl, ?qyf8s⟩) (by assumption) ?qrf8s; case qyf8s => ((intro w hSw; (try dsimp only at hSw); go_simp); try (with_reducible rfl))
        ((try simp only [List.getElem_toArray]); (try simp only [List.getElem_cons_succ]); (try simp only [List.getElem_cons_zero]); (try simp only [Act.put]); (try simp only [List.setIfInBounds_toArray]); (try simp only [List.set_cons_succ]); (try simp only [List.set_cons_zero]))
        refine wpAnyH_take (i := 9) (v := ?qvf9s) rfl (by kernel_rfl) (by kernel_rfl) (by kernel_rfl) (fun _ _ _ h => h) (Or.inl ⟨by rfl, ?qyf9s⟩) (by assumption) ?qrf9s; case qyf9s => ((intro w hSw; (try dsimp only at hSw); go_simp); try (with_reducible rfl))
        ((try simp only [List.getElem_toArray]); (try simp only [List.getElem_cons_succ]); (try simp only [List.getElem_cons_zero]); (try simp only [Act.put]); (try simp only [List.setIfInBounds_toArray]); (try simp only [List.set_cons_succ]); (try simp only [List.set_cons_zero]))
        refine wpAnyH_take (i := 10) (v := ?qvf10s) rfl (by kernel_rfl) (by kernel_rfl) (by kernel_rfl) (fun _ _ _ h => h) (Or.inl ⟨by rfl, ?qyf10s⟩) (by assumption) ?qrf10s; case qyf10s => ((intro w hSw; (try dsimp only at hSw); go_simp); try (with_reducible rfl))
        ((try simp only [List.getElem_toArray]); (try simp only [List.getElem_cons_succ]); (try simp only [List.getElem_cons_zero]); (try simp only [Act.put]); (try simp only [List.setIfInBounds_toArray]); (try simp only [List.set_cons_succ]); (try simp only [List.set_cons_zero]))
        have tw : ∀ (W : World), Keep (fun j => H ≤ j) w W → ∀ t, t < (L.take k).length → W.cell? ((⟨gw, 0, none⟩ : Addr).add t) = some (.int .i64 ((L.take k).getD t 0)) := fun W kw => take_atN ho2 (fun t u h => kw.cell h (by show ¬ H ≤ gw; omega)) k
        have dw : ∀ (W : World), Keep (fun j => H ≤ j) w W → ∀ t, t < (L.drop k).length → W.cell? (ad.add t) = some (.int .i64 ((L.drop k).getD t 0)) := fun W kw => drop_atN ho2 (fun t u h => kw.cell h (by show ¬ H ≤ gw; omega)) k had (by rw [hn]; exact hcap)
        have tl : (L.take k).length = k := by rw [List.length_take, hn]; omega
        have dl : (L.drop k).length = n - k := by rw [List.length_drop, hn]
        refine wpAnyH_ready (rs := [0, 6]) (by kernel_rfl) (by simp) ?_
        refine AllReadyH.cons rfl (fun K hK => ?_) (AllReadyH.cons rfl (fun K hK => ?_) AllReadyH.nil)
        · go_simp; refine hK.out _ _ trivial (fun hHeld => ?_); clear hK K; obtain ⟨Y, eX, hE, kE, lE⟩ := empN Z sZ; rw [eX]; clear eX; have ky := kz.trans (kE.mono (T := fun j => H ≤ j) (fun _ h => h.elim)); have sY : H ≤ Y.heap.size := (by omega)
          ((try simp only [List.getElem_toArray]); (try simp only [List.getElem_cons_succ]); (try simp only [List.getElem_cons_zero]); (try simp only [Act.put]); (try simp only [List.setIfInBounds_toArray]); (try simp only [List.set_cons_succ]); (try simp only [List.set_cons_zero]))
          refine wpAnyH_ready (rs := [4, 6]) (by kernel_rfl) (by simp) ?_
          refine AllReadyH.cons rfl (fun K hK => ?_) (AllReadyH.cons rfl (fun K hK => ?_) AllReadyH.nil)
          · refine step_appN rfl (.tmp 33) (.tmp 36) rfl H sY (.slice (some ⟨Z.heap.size, 0, none⟩) 0 0) [] rfl hE ⟨gw, 0, none⟩ k c (L.take k) rfl tl (tw _ ky) (by simp) (by omega) ?_; intro v4 w4 o4 kq; rw [List.nil_append] at o4; have k4 := ky.trans (kq.mono (T := fun j => H ≤ j) (fun j hj => (OwnN.lt hE hj).1)); have s4 : H ≤ w4.heap.size := Nat.le_trans sY kq.size; refine hK.out _ _ trivial (fun hHeld => ?_); clear hK K
            ((try simp only [List.getElem_toArray]); (try simp only [List.getElem_cons_succ]); (try simp only [List.getElem_cons_zero]); (try simp only [Act.put]); (try simp only [List.setIfInBounds_toArray]); (try simp only [List.set_cons_succ]); (try simp only [List.set_cons_zero]))
            refine wpAnyH_ready (rs := [6]) (by kernel_rfl) (by simp) ?_
            refine AllReadyH.cons rfl (fun K hK => ?_) AllReadyH.nil
            go_simp; refine hK.out _ _ trivial (fun hHeld => ?_); clear hK K; obtain ⟨X, eX, cO, kL, lL⟩ := lit1N w4 o; rw [eX]; clear eX; have kx := k4.trans (kL.mono (T := fun j => H ≤ j) (fun _ h => h.elim)); have sX : H ≤ X.heap.size := (by omega)
            have o4 := OwnN.keep o4 kL (by simp)
            ((try simp only [List.getElem_toArray]); (try simp only [List.getElem_cons_succ]); (try simp only [List.getElem_cons_zero]); (try simp only [Act.put]); (try simp only [List.setIfInBounds_toArray]); (try simp only [List.set_cons_succ]); (try simp only [List.set_cons_zero]))
            refine wpAnyH_ready (rs := [7]) (by kernel_rfl) (by simp) ?_; refine AllReadyH.cons rfl (fun K hK => ?_) AllReadyH.nil; refine step_appN rfl (.tmp 37) (.tmp 39) rfl H sX v4 (L.take k) rfl o4 ⟨w4.heap.size, 0, none⟩ 1 1 [o] rfl rfl (fun t ht => by (obtain rfl : t = 0 := (by simpa using ht)); simpa [Addr.add] using cO) (by omega) (by simp) ?_; intro v7 w7 o7 kr; have k7 := kx.trans (kr.mono (T := fun j => H ≤ j) (fun j hj => (OwnN.lt o4 hj).1)); have s7 : H ≤ w7.heap.size := Nat.le_trans sX kr.size; refine hK.out _ _ trivial (fun hHeld => ?_); clear hK K
            ((try simp only [List.getElem_toArray]); (try simp only [List.getElem_cons_succ]); (try simp only [List.getElem_cons_zero]); (try simp only [Act.put]); (try simp only [List.setIfInBounds_toArray]); (try simp only [List.set_cons_succ]); (try simp only [List.set_cons_zero]))
            refine wpAnyH_ready (rs := [11]) (by kernel_rfl) (by simp) ?_; refine AllReadyH.cons rfl (fun K hK => ?_) AllReadyH.nil; refine step_appN rfl (.tmp 40) (.tmp 43) rfl H s7 v7 (L.take k ++ [o]) rfl o7 ad (n - k) (c - k) (L.drop k) rfl dl (dw _ k7) (by simp; omega) (by omega) ?_; intro v9 w9 o9 ks; have k9 := k7.trans (ks.mono (T := fun j => H ≤ j) (fun j hj => (OwnN.lt o7 hj).1)); refine hK.out _ _ trivial (fun hHeld => ?_); clear hK K
            ((try simp only [List.getElem_toArray]); (try simp only [List.getElem_cons_succ]); (try simp only [List.getElem_cons_zero]); (try simp only [Act.put]); (try simp only [List.setIfInBounds_toArray]); (try simp only [List.set_cons_succ]); (try simp only [List.set_cons_zero]))
            refine wpAnyH_take (i := 12) (v := ?qvf12as) rfl (by kernel_rfl) (by kernel_rfl) (by kernel_rfl) (fun _ _ _ h => h) (Or.inl ⟨by rfl, ?qyf12as⟩) (by assumption) ?qrf12as; case qyf12as => ((intro w hSw; (try dsimp only at hSw); go_simp); try (with_reducible rfl))
            ((try simp only [List.getElem_toArray]); (try simp only [List.getElem_cons_succ]); (try simp only [List.getElem_cons_zero]); (try simp only [Act.put]); (try simp only [List.setIfInBounds_toArray]); (try simp only [List.set_cons_succ]); (try simp only [List.set_cons_zero]))
            refine wpAnyH_done (by kernel_rfl) ?_ _
            have k9 := Keep.newer (by rw [eH]; exact k9); have o9 := OwnN.lower o9 (by omega : B ≤ H); clear tw dw; go_wp2; go_ret; exact ⟨_, rfl, by rw [PUT.out]; exact o9, k9⟩
          · go_simp; refine hK.out _ _ trivial (fun hHeld => ?_); clear hK K; obtain ⟨X, eX, cO, kL, lL⟩ := lit1N Y o; rw [eX]; clear eX; have kx := ky.trans (kL.mono (T := fun j => H ≤ j) (fun _ h => h.elim)); have sX : H ≤ X.heap.size := (by omega)
            have hE := OwnN.keep hE kL (by simp)
            have neq : Y.heap.size ≠ Z.heap.size := by omega
            ((try simp only [List.getElem_toArray]); (try simp only [List.getElem_cons_succ]); (try simp only [List.getElem_cons_zero]); (try simp only [Act.put]); (try simp only [List.setIfInBounds_toArray]); (try simp only [List.set_cons_succ]); (try simp only [List.set_cons_zero]))
            refine wpAnyH_ready (rs := [4]) (by kernel_rfl) (by simp) ?_
            refine AllReadyH.cons rfl (fun K hK => ?_) AllReadyH.nil
            refine step_appN rfl (.tmp 33) (.tmp 36) rfl H sX (.slice (some ⟨Z.heap.size, 0, none⟩) 0 0) [] rfl hE ⟨gw, 0, none⟩ k c (L.take k) rfl tl (tw _ kx) (by simp) (by omega) ?_; intro v4 w4 o4 kq; rw [List.nil_append] at o4; have k4 := kx.trans (kq.mono (T := fun j => H ≤ j) (fun j hj => (OwnN.lt hE hj).1)); have s4 : H ≤ w4.heap.size := Nat.le_trans sX kq.size; refine hK.out _ _ trivial (fun hHeld => ?_); clear hK K
            have cO := kq.cell cO (by simp [Value.ownBlock]; omega)
            ((try simp only [List.getElem_toArray]); (try simp only [List.getElem_cons_succ]); (try simp only [List.getElem_cons_zero]); (try simp only [Act.put]); (try simp only [List.setIfInBounds_toArray]); (try simp only [List.set_cons_succ]); (try simp only [List.set_cons_zero]))
            refine wpAnyH_ready (rs := [7]) (by kernel_rfl) (by simp) ?_; refine AllReadyH.cons rfl (fun K hK => ?_) AllReadyH.nil; refine step_appN rfl (.tmp 37) (.tmp 39) rfl H s4 v4 (L.take k) rfl o4 ⟨Y.heap.size, 0, none⟩ 1 1 [o] rfl rfl (fun t ht => by (obtain rfl : t = 0 := (by simpa using ht)); simpa [Addr.add] using cO) (by omega) (by simp) ?_; intro v7 w7 o7 kr; have k7 := k4.trans (kr.mono (T := fun j => H ≤ j) (fun j hj => (OwnN.lt o4 hj).1)); have s7 : H ≤ w7.heap.size := Nat.le_trans s4 kr.size; refine hK.out _ _ trivial (fun hHeld => ?_); clear hK K
            ((try simp only [List.getElem_toArray]); (try simp only [List.getElem_cons_succ]); (try simp only [List.getElem_cons_zero]); (try simp only [Act.put]); (try simp only [List.setIfInBounds_toArray]); (try simp only [List.set_cons_succ]); (try simp only [List.set_cons_zero]))
            refine wpAnyH_ready (rs := [11]) (by kernel_rfl) (by simp) ?_; refine AllReadyH.cons rfl (fun K hK => ?_) AllReadyH.nil; refine step_appN rfl (.tmp 40) (.tmp 43) rfl H s7 v7 (L.take k ++ [o]) rfl o7 ad (n - k) (c - k) (L.drop k) rfl dl (dw _ k7) (by simp; omega) (by omega) ?_; intro v9 w9 o9 ks; have k9 := k7.trans (ks.mono (T := fun j => H ≤ j) (fun j hj => (OwnN.lt o7 hj).1)); refine hK.out _ _ trivial (fun hHeld => ?_); clear hK K
            ((try simp only [List.getElem_toArray]); (try simp only [List.getElem_cons_succ]); (try simp only [List.getElem_cons_zero]); (try simp only [Act.put]); (try simp only [List.setIfInBounds_toArray]); (try simp only [List.set_cons_succ]); (try simp only [List.set_cons_zero]))
            refine wpAnyH_take (i := 12) (v := ?qvf12bs) rfl (by kernel_rfl) (by kernel_rfl) (by kernel_rfl) (fun _ _ _ h => h) (Or.inl ⟨by rfl, ?qyf12bs⟩) (by assumption) ?qrf12bs; case qyf12bs => ((intro w hSw; (try dsimp only at hSw); go_simp); try (with_reducible rfl))
            ((try simp only [List.getElem_toArray]); (try simp only [List.getElem_cons_succ]); (try simp only [List.getElem_cons_zero]); (try simp only [Act.put]); (try simp only [List.setIfInBounds_toArray]); (try simp only [List.set_cons_succ]); (try simp only [List.set_cons_zero]))
            refine wpAnyH_done (by kernel_rfl) ?_ _
            have k9 := Keep.newer (by rw [eH]; exact k9); have o9 := OwnN.lower o9 (by omega : B ≤ H); clear tw dw; go_wp2; go_ret; exact ⟨_, rfl, by rw [PUT.out]; exact o9, k9⟩
        · go_simp; refine hK.out _ _ trivial (fun hHeld => ?_); clear hK K; obtain ⟨X, eX, cO, kL, lL⟩ := lit1N Z o; rw [eX]; clear eX; have kx := kz.trans (kL.mono (T := fun j => H ≤ j) (fun _ h => h.elim)); have sX : H ≤ X.heap.size := (by omega)
          ((try simp only [List.getElem_toArray]); (try simp only [List.getElem_cons_succ]); (try simp only [List.getElem_cons_zero]); (try simp only [Act.put]); (try simp only [List.setIfInBounds_toArray]); (try simp only [List.set_cons_succ]); (try simp only [List.set_cons_zero]))
          refine wpAnyH_ready (rs := [0]) (by kernel_rfl) (by simp) ?_
          refine AllReadyH.cons rfl (fun K hK => ?_) AllReadyH.nil
          go_simp; refine hK.out _ _ trivial (fun hHeld => ?_); clear hK K; obtain ⟨Y, eX, hE, kE, lE⟩ := empN X sX; rw [eX]; clear eX; have ky := kx.trans (kE.mono (T := fun j => H ≤ j) (fun _ h => h.elim)); have sY : H ≤ Y.heap.size := (by omega)
          have cO := kE.cell cO (by simp)
          ((try simp only [List.getElem_toArray]); (try simp only [List.getElem_cons_succ]); (try simp only [List.getElem_cons_zero]); (try simp only [Act.put]); (try simp only [List.setIfInBounds_toArray]); (try simp only [List.set_cons_succ]); (try simp only [List.set_cons_zero]))
          refine wpAnyH_ready (rs := [4]) (by kernel_rfl) (by simp) ?_
          refine AllReadyH.cons rfl (fun K hK => ?_) AllReadyH.nil
          refine step_appN rfl (.tmp 33) (.tmp 36) rfl H sY (.slice (some ⟨X.heap.size, 0, none⟩) 0 0) [] rfl hE ⟨gw, 0, none⟩ k c (L.take k) rfl tl (tw _ ky) (by simp) (by omega) ?_; intro v4 w4 o4 kq; rw [List.nil_append] at o4; have k4 := ky.trans (kq.mono (T := fun j => H ≤ j) (fun j hj => (OwnN.lt hE hj).1)); have s4 : H ≤ w4.heap.size := Nat.le_trans sY kq.size; refine hK.out _ _ trivial (fun hHeld => ?_); clear hK K
          have cO := kq.cell cO (by simp [Value.ownBlock]; omega)
          ((try simp only [List.getElem_toArray]); (try simp only [List.getElem_cons_succ]); (try simp only [List.getElem_cons_zero]); (try simp only [Act.put]); (try simp only [List.setIfInBounds_toArray]); (try simp only [List.set_cons_succ]); (try simp only [List.set_cons_zero]))
          refine wpAnyH_ready (rs := [7]) (by kernel_rfl) (by simp) ?_; refine AllReadyH.cons rfl (fun K hK => ?_) AllReadyH.nil; refine step_appN rfl (.tmp 37) (.tmp 39) rfl H s4 v4 (L.take k) rfl o4 ⟨Z.heap.size, 0, none⟩ 1 1 [o] rfl rfl (fun t ht => by (obtain rfl : t = 0 := (by simpa using ht)); simpa [Addr.add] using cO) (by omega) (by simp) ?_; intro v7 w7 o7 kr; have k7 := k4.trans (kr.mono (T := fun j => H ≤ j) (fun j hj => (OwnN.lt o4 hj).1)); have s7 : H ≤ w7.heap.size := Nat.le_trans s4 kr.size; refine hK.out _ _ trivial (fun hHeld => ?_); clear hK K
          ((try simp only [List.getElem_toArray]); (try simp only [List.getElem_cons_succ]); (try simp only [List.getElem_cons_zero]); (try simp only [Act.put]); (try simp only [List.setIfInBounds_toArray]); (try simp only [List.set_cons_succ]); (try simp only [List.set_cons_zero]))
          refine wpAnyH_ready (rs := [11]) (by kernel_rfl) (by simp) ?_; refine AllReadyH.cons rfl (fun K hK => ?_) AllReadyH.nil; refine step_appN rfl (.tmp 40) (.tmp 43) rfl H s7 v7 (L.take k ++ [o]) rfl o7 ad (n - k) (c - k) (L.drop k) rfl dl (dw _ k7) (by simp; omega) (by omega) ?_; intro v9 w9 o9 ks; have k9 := k7.trans (ks.mono (T := fun j => H ≤ j) (fun j hj => (OwnN.lt o7 hj).1)); refine hK.out _ _ trivial (fun hHeld => ?_); clear hK K
          ((try simp only [List.getElem_toArray]); (try simp only [List.getElem_cons_succ]); (try simp only [List.getElem_cons_zero]); (try simp only [Act.put]); (try simp only [List.setIfInBounds_toArray]); (try simp only [List.set_cons_succ]); (try simp only [List.set_cons_zero]))
          refine wpAnyH_take (i := 12) (v := ?qvf12cs) rfl (by kernel_rfl) (by kernel_rfl) (by kernel_rfl) (fun _ _ _ h => h) (Or.inl ⟨by rfl, ?qyf12cs⟩) (by assumption) ?qrf12cs; case qyf12cs => ((intro w hSw; (try dsimp only at hSw); go_simp); try (with_reducible rfl))
          ((try simp only [List.getElem_toArray]); (try simp only [List.getElem_cons_succ]); (try simp only [List.getElem_cons_zero]); (try simp only [Act.put]); (try simp only [List.setIfInBounds_toArray]); (try simp only [List.set_cons_succ]); (try simp only [List.set_cons_zero]))
          refine wpAnyH_done (by kernel_rfl) ?_ _
          have k9 := Keep.newer (by rw [eH]; exact k9); have o9 := OwnN.lower o9 (by omega : B ≤ H); clear tw dw; go_wp2; go_ret; exact ⟨_, rfl, by rw [PUT.out]; exact o9, k9⟩
    · have kn2 : k = n := by omega
      have PUT := putB_split k L o (by omega) hj (.inl (by omega))
      have PUT := Lib.hid PUT
      clear hj hk ho1 kn2
      go_wp2_with fail
      have kz : Keep (fun j => w.heap.size ≤ j) w w.drew := (Keep.refl _ _).drew
      refine wp_region_held_drew (S := (fun _ => True)) (by kernel_rfl) trivial (fun hHeld => ?_)
      generalize w.drew = Z at kz ⊢
      obtain ⟨H, eH⟩ : ∃ H, w.heap.size = H := ⟨_, rfl⟩
      rw [eH] at kz gz
      have sZ : H ≤ Z.heap.size := by rw [← eH]; exact kz.size
      refine wpAnyH_take (i := 1) (v := ?qvf1t) rfl (by kernel_rfl) (by kernel_rfl) (by kernel_rfl) (fun _ _ _ h => h) (Or.inl ⟨by rfl, ?qyf1t⟩) (by assumption) ?qrf1t; case qyf1t => ((intro w hSw; (try dsimp only at hSw); go_simp); try (with_reducible rfl))
      ((try simp only [List.getElem_toArray]); (try simp only [List.getElem_cons_succ]); (try simp only [List.getElem_cons_zero]); (try simp only [Act.put]); (try simp only [List.setIfInBounds_toArray]); (try simp only [List.set_cons_succ]); (try simp only [List.set_cons_zero]))
      refine wpAnyH_take (i := 2) (v := ?qvf2t) rfl (by kernel_rfl) (by kernel_rfl) (by kernel_rfl) (fun _ _ _ h => h) (Or.inl ⟨by rfl, ?qyf2t⟩) (by assumption) ?qrf2t; case qyf2t => ((intro w hSw; (try dsimp only at hSw); go_simp); try (with_reducible rfl))
      ((try simp only [List.getElem_toArray]); (try simp only [List.getElem_cons_succ]); (try simp only [List.getElem_cons_zero]); (try simp only [Act.put]); (try simp only [List.setIfInBounds_toArray]); (try simp only [List.set_cons_succ]); (try simp only [List.set_cons_zero]))
      refine wpAnyH_take (i := 3) (v := ?qvf3t) rfl (by kernel_rfl) (by kernel_rfl) (by kernel_rfl) (fun _ _ _ h => h) (Or.inl ⟨by rfl, ?qyf3t⟩) (by assumption) ?qrf3t; case qyf3t => ((intro w hSw; (try dsimp only at hSw); go_simp); try (with_reducible rfl))
      ((try simp only [List.getElem_toArray]); (try simp only [List.getElem_cons_succ]); (try simp only [List.getElem_cons_zero]); (try simp only [Act.put]); (try simp only [List.setIfInBounds_toArray]); (try simp only [List.set_cons_succ]); (try simp only [List.set_cons_zero]))
      refine wpAnyH_take (i := 5) (v := ?qvf5t) rfl (by kernel_rfl) (by kernel_rfl) (by kernel_rfl) (fun _ _ _ h => h) (Or.inl ⟨by rfl, ?qyf5t⟩) (by assumption) ?qrf5t; case qyf5t => ((intro w hSw; (try dsimp only at hSw); go_simp); try (with_reducible rfl))
      ((try simp only [List.getElem_toArray]); (try simp only [List.getElem_cons_succ]); (try simp only [List.getElem_cons_zero]); (try simp only [Act.put]); (try simp only [List.setIfInBounds_toArray]); (try simp only [List.set_cons_succ]); (try simp only [List.set_cons_zero]))
      refine wpAnyH_take (i := 8) (v := ?qvf8t) rfl (by kernel_rfl) (by kernel_rfl) (by kernel_rfl) (fun _ _ _ h => h) (Or.inl ⟨by rfl, ?qyf8t⟩) (by assumption) ?qrf8t; case qyf8t => ((intro w hSw; (try dsimp only at hSw); go_simp); try (with_reducible rfl))
      ((try simp only [List.getElem_toArray]); (try simp only [List.getElem_cons_succ]); (try simp only [List.getElem_cons_zero]); (try simp only [Act.put]); (try simp only [List.setIfInBounds_toArray]); (try simp only [List.set_cons_succ]); (try simp only [List.set_cons_zero]))
      refine wpAnyH_take (i := 9) (v := ?qvf9t) rfl (by kernel_rfl) (by kernel_rfl) (by kernel_rfl) (fun _ _ _ h => h) (Or.inl ⟨by rfl, ?qyf9t⟩) (by assumption) ?qrf9t; case qyf9t => ((intro w hSw; (try dsimp only at hSw); go_simp); try (with_reducible rfl))
      ((try simp only [List.getElem_toArray]); (try simp only [List.getElem_cons_succ]); (try simp only [List.getElem_cons_zero]); (try simp only [Act.put]); (try simp only [List.setIfInBounds_toArray]); (try simp only [List.set_cons_succ]); (try simp only [List.set_cons_zero]))
      refine wpAnyH_take (i := 10) (v := ?qvf10t) rfl (by kernel_rfl) (by kernel_rfl) (by kernel_rfl) (fun _ _ _ h => h) (Or.inl ⟨by rfl, ?qyf10t⟩) (by assumption) ?qrf10t; case qyf10t => ((intro w hSw; (try dsimp only at hSw); go_simp); try (with_reducible rfl))
      ((try simp only [List.getElem_toArray]); (try simp only [List.getElem_cons_succ]); (try simp only [List.getElem_cons_zero]); (try simp only [Act.put]); (try simp only [List.setIfInBounds_toArray]); (try simp only [List.set_cons_succ]); (try simp only [List.set_cons_zero]))
      have tw : ∀ (W : World), Keep (fun j => H ≤ j) w W → ∀ t, t < (L.take k).length → W.cell? ((⟨gw, 0, none⟩ : Addr).add t) = some (.int .i64 ((L.take k).getD t 0)) := fun W kw => take_atN ho2 (fun t u h => kw.cell h (by show ¬ H ≤ gw; omega)) k
      have dw : ∀ (W : World), Keep (fun j => H ≤ j) w W → ∀ t, t < (L.drop k).length → W.cell? (ad.add t) = some (.int .i64 ((L.drop k).getD t 0)) := fun W kw => drop_atN ho2 (fun t u h => kw.cell h (by show ¬ H ≤ gw; omega)) k had (by rw [hn]; exact hcap)
      have tl : (L.take k).length = k := by rw [List.length_take, hn]; omega
      have dl : (L.drop k).length = n - k := by rw [List.length_drop, hn]
      refine wpAnyH_ready (rs := [0, 6]) (by kernel_rfl) (by simp) ?_
      refine AllReadyH.cons rfl (fun K hK => ?_) (AllReadyH.cons rfl (fun K hK => ?_) AllReadyH.nil)
      · go_simp; refine hK.out _ _ trivial (fun hHeld => ?_); clear hK K; obtain ⟨Y, eX, hE, kE, lE⟩ := empN Z sZ; rw [eX]; clear eX; have ky := kz.trans (kE.mono (T := fun j => H ≤ j) (fun _ h => h.elim)); have sY : H ≤ Y.heap.size := (by omega)
        ((try simp only [List.getElem_toArray]); (try simp only [List.getElem_cons_succ]); (try simp only [List.getElem_cons_zero]); (try simp only [Act.put]); (try simp only [List.setIfInBounds_toArray]); (try simp only [List.set_cons_succ]); (try simp only [List.set_cons_zero]))
        refine wpAnyH_ready (rs := [4, 6]) (by kernel_rfl) (by simp) ?_
        refine AllReadyH.cons rfl (fun K hK => ?_) (AllReadyH.cons rfl (fun K hK => ?_) AllReadyH.nil)
        · refine step_appN rfl (.tmp 33) (.tmp 36) rfl H sY (.slice (some ⟨Z.heap.size, 0, none⟩) 0 0) [] rfl hE ⟨gw, 0, none⟩ k c (L.take k) rfl tl (tw _ ky) (by simp) (by omega) ?_; intro v4 w4 o4 kq; rw [List.nil_append] at o4; have k4 := ky.trans (kq.mono (T := fun j => H ≤ j) (fun j hj => (OwnN.lt hE hj).1)); have s4 : H ≤ w4.heap.size := Nat.le_trans sY kq.size; refine hK.out _ _ trivial (fun hHeld => ?_); clear hK K
          ((try simp only [List.getElem_toArray]); (try simp only [List.getElem_cons_succ]); (try simp only [List.getElem_cons_zero]); (try simp only [Act.put]); (try simp only [List.setIfInBounds_toArray]); (try simp only [List.set_cons_succ]); (try simp only [List.set_cons_zero]))
          refine wpAnyH_ready (rs := [6]) (by kernel_rfl) (by simp) ?_
          refine AllReadyH.cons rfl (fun K hK => ?_) AllReadyH.nil
          go_simp; refine hK.out _ _ trivial (fun hHeld => ?_); clear hK K; obtain ⟨X, eX, cO, kL, lL⟩ := lit1N w4 o; rw [eX]; clear eX; have kx := k4.trans (kL.mono (T := fun j => H ≤ j) (fun _ h => h.elim)); have sX : H ≤ X.heap.size := (by omega)
          have o4 := OwnN.keep o4 kL (by simp)
          ((try simp only [List.getElem_toArray]); (try simp only [List.getElem_cons_succ]); (try simp only [List.getElem_cons_zero]); (try simp only [Act.put]); (try simp only [List.setIfInBounds_toArray]); (try simp only [List.set_cons_succ]); (try simp only [List.set_cons_zero]))
          refine wpAnyH_ready (rs := [7]) (by kernel_rfl) (by simp) ?_; refine AllReadyH.cons rfl (fun K hK => ?_) AllReadyH.nil; refine step_appN rfl (.tmp 37) (.tmp 39) rfl H sX v4 (L.take k) rfl o4 ⟨w4.heap.size, 0, none⟩ 1 1 [o] rfl rfl (fun t ht => by (obtain rfl : t = 0 := (by simpa using ht)); simpa [Addr.add] using cO) (by omega) (by simp) ?_; intro v7 w7 o7 kr; have k7 := kx.trans (kr.mono (T := fun j => H ≤ j) (fun j hj => (OwnN.lt o4 hj).1)); have s7 : H ≤ w7.heap.size := Nat.le_trans sX kr.size; refine hK.out _ _ trivial (fun hHeld => ?_); clear hK K
          ((try simp only [List.getElem_toArray]); (try simp only [List.getElem_cons_succ]); (try simp only [List.getElem_cons_zero]); (try simp only [Act.put]); (try simp only [List.setIfInBounds_toArray]); (try simp only [List.set_cons_succ]); (try simp only [List.set_cons_zero]))
          refine wpAnyH_ready (rs := [11]) (by kernel_rfl) (by simp) ?_; refine AllReadyH.cons rfl (fun K hK => ?_) AllReadyH.nil; refine step_appN rfl (.tmp 40) (.tmp 43) rfl H s7 v7 (L.take k ++ [o]) rfl o7 ad (n - k) (c - k) (L.drop k) rfl dl (dw _ k7) (by simp; omega) (by omega) ?_; intro v9 w9 o9 ks; have k9 := k7.trans (ks.mono (T := fun j => H ≤ j) (fun j hj => (OwnN.lt o7 hj).1)); refine hK.out _ _ trivial (fun hHeld => ?_); clear hK K
          ((try simp only [List.getElem_toArray]); (try simp only [List.getElem_cons_succ]); (try simp only [List.getElem_cons_zero]); (try simp only [Act.put]); (try simp only [List.setIfInBounds_toArray]); (try simp only [List.set_cons_succ]); (try simp only [List.set_cons_zero]))
          refine wpAnyH_take (i := 12) (v := ?qvf12at) rfl (by kernel_rfl) (by kernel_rfl) (by kernel_rfl) (fun _ _ _ h => h) (Or.inl ⟨by rfl, ?qyf12at⟩) (by assumption) ?qrf12at; case qyf12at => ((intro w hSw; (try dsimp only at hSw); go_simp); try (with_reducible rfl))
          ((try simp only [List.getElem_toArray]); (try simp only [List.getElem_cons_succ]); (try simp only [List.getElem_cons_zero]); (try simp only [Act.put]); (try simp only [List.setIfInBounds_toArray]); (try simp only [List.set_cons_succ]); (try simp only [List.set_cons_zero]))
          refine wpAnyH_done (by kernel_rfl) ?_ _
          have k9 := Keep.newer (by rw [eH]; exact k9); have o9 := OwnN.lower o9 (by omega : B ≤ H); clear tw dw; go_wp2; go_ret; exact ⟨_, rfl, by rw [PUT.out]; exact o9, k9⟩
        · go_simp; refine hK.out _ _ trivial (fun hHeld => ?_); clear hK K; obtain ⟨X, eX, cO, kL, lL⟩ := lit1N Y o; rw [eX]; clear eX; have kx := ky.trans (kL.mono (T := fun j => H ≤ j) (fun _ h => h.elim)); have sX : H ≤ X.heap.size := (by omega)
          have hE := OwnN.keep hE kL (by simp)
          have neq : Y.heap.size ≠ Z.heap.size := by omega
          ((try simp only [List.getElem_toArray]); (try simp only [List.getElem_cons_succ]); (try simp only [List.getElem_cons_zero]); (try simp only [Act.put]); (try simp only [List.setIfInBounds_toArray]); (try simp only [List.set_cons_succ]); (try simp only [List.set_cons_zero]))
          refine wpAnyH_ready (rs := [4]) (by kernel_rfl) (by simp) ?_
          refine AllReadyH.cons rfl (fun K hK => ?_) AllReadyH.nil
          refine step_appN rfl (.tmp 33) (.tmp 36) rfl H sX (.slice (some ⟨Z.heap.size, 0, none⟩) 0 0) [] rfl hE ⟨gw, 0, none⟩ k c (L.take k) rfl tl (tw _ kx) (by simp) (by omega) ?_; intro v4 w4 o4 kq; rw [List.nil_append] at o4; have k4 := kx.trans (kq.mono (T := fun j => H ≤ j) (fun j hj => (OwnN.lt hE hj).1)); have s4 : H ≤ w4.heap.size := Nat.le_trans sX kq.size; refine hK.out _ _ trivial (fun hHeld => ?_); clear hK K
          have cO := kq.cell cO (by simp [Value.ownBlock]; omega)
          ((try simp only [List.getElem_toArray]); (try simp only [List.getElem_cons_succ]); (try simp only [List.getElem_cons_zero]); (try simp only [Act.put]); (try simp only [List.setIfInBounds_toArray]); (try simp only [List.set_cons_succ]); (try simp only [List.set_cons_zero]))
          refine wpAnyH_ready (rs := [7]) (by kernel_rfl) (by simp) ?_; refine AllReadyH.cons rfl (fun K hK => ?_) AllReadyH.nil; refine step_appN rfl (.tmp 37) (.tmp 39) rfl H s4 v4 (L.take k) rfl o4 ⟨Y.heap.size, 0, none⟩ 1 1 [o] rfl rfl (fun t ht => by (obtain rfl : t = 0 := (by simpa using ht)); simpa [Addr.add] using cO) (by omega) (by simp) ?_; intro v7 w7 o7 kr; have k7 := k4.trans (kr.mono (T := fun j => H ≤ j) (fun j hj => (OwnN.lt o4 hj).1)); have s7 : H ≤ w7.heap.size := Nat.le_trans s4 kr.size; refine hK.out _ _ trivial (fun hHeld => ?_); clear hK K
          ((try simp only [List.getElem_toArray]); (try simp only [List.getElem_cons_succ]); (try simp only [List.getElem_cons_zero]); (try simp only [Act.put]); (try simp only [List.setIfInBounds_toArray]); (try simp only [List.set_cons_succ]); (try simp only [List.set_cons_zero]))
          refine wpAnyH_ready (rs := [11]) (by kernel_rfl) (by simp) ?_; refine AllReadyH.cons rfl (fun K hK => ?_) AllReadyH.nil; refine step_appN rfl (.tmp 40) (.tmp 43) rfl H s7 v7 (L.take k ++ [o]) rfl o7 ad (n - k) (c - k) (L.drop k) rfl dl (dw _ k7) (by simp; omega) (by omega) ?_; intro v9 w9 o9 ks; have k9 := k7.trans (ks.mono (T := fun j => H ≤ j) (fun j hj => (OwnN.lt o7 hj).1)); refine hK.out _ _ trivial (fun hHeld => ?_); clear hK K
          ((try simp only [List.getElem_toArray]); (try simp only [List.getElem_cons_succ]); (try simp only [List.getElem_cons_zero]); (try simp only [Act.put]); (try simp only [List.setIfInBounds_toArray]); (try simp only [List.set_cons_succ]); (try simp only [List.set_cons_zero]))
          refine wpAnyH_take (i := 12) (v := ?qvf12bt) rfl (by kernel_rfl) (by kernel_rfl) (by kernel_rfl) (fun _ _ _ h => h) (Or.inl ⟨by rfl, ?qyf12bt⟩) (by assumption) ?qrf12bt; case qyf12bt => ((intro w hSw; (try dsimp only at hSw); go_simp); try (with_reducible rfl))
          ((try simp only [List.getElem_toArray]); (try simp only [List.getElem_cons_succ]); (try simp only [List.getElem_cons_zero]); (try simp only [Act.put]); (try simp only [List.setIfInBounds_toArray]); (try simp only [List.set_cons_succ]); (try simp only [List.set_cons_zero]))
          refine wpAnyH_done (by kernel_rfl) ?_ _
          have k9 := Keep.newer (by rw [eH]; exact k9); have o9 := OwnN.lower o9 (by omega : B ≤ H); clear tw dw; go_wp2; go_ret; exact ⟨_, rfl, by rw [PUT.out]; exact o9, k9⟩
      · go_simp; refine hK.out _ _ trivial (fun hHeld => ?_); clear hK K; obtain ⟨X, eX, cO, kL, lL⟩ := lit1N Z o; rw [eX]; clear eX; have kx := kz.trans (kL.mono (T := fun j => H ≤ j) (fun _ h => h.elim)); have sX : H ≤ X.heap.size := (by omega)
        ((try simp only [List.getElem_toArray]); (try simp only [List.getElem_cons_succ]); (try simp only [List.getElem_cons_zero]); (try simp only [Act.put]); (try simp only [List.setIfInBounds_toArray]); (try simp only [List.set_cons_succ]); (try simp only [List.set_cons_zero]))
        refine wpAnyH_ready (rs := [0]) (by kernel_rfl) (by simp) ?_
        refine AllReadyH.cons rfl (fun K hK => ?_) AllReadyH.nil
        go_simp; refine hK.out _ _ trivial (fun hHeld => ?_); clear hK K; obtain ⟨Y, eX, hE, kE, lE⟩ := empN X sX; rw [eX]; clear eX; have ky := kx.trans (kE.mono (T := fun j => H ≤ j) (fun _ h => h.elim)); have sY : H ≤ Y.heap.size := (by omega)
        have cO := kE.cell cO (by simp)
        ((try simp only [List.getElem_toArray]); (try simp only [List.getElem_cons_succ]); (try simp only [List.getElem_cons_zero]); (try simp only [Act.put]); (try simp only [List.setIfInBounds_toArray]); (try simp only [List.set_cons_succ]); (try simp only [List.set_cons_zero]))
        refine wpAnyH_ready (rs := [4]) (by kernel_rfl) (by simp) ?_
        refine AllReadyH.cons rfl (fun K hK => ?_) AllReadyH.nil
        refine step_appN rfl (.tmp 33) (.tmp 36) rfl H sY (.slice (some ⟨X.heap.size, 0, none⟩) 0 0) [] rfl hE ⟨gw, 0, none⟩ k c (L.take k) rfl tl (tw _ ky) (by simp) (by omega) ?_; intro v4 w4 o4 kq; rw [List.nil_append] at o4; have k4 := ky.trans (kq.mono (T := fun j => H ≤ j) (fun j hj => (OwnN.lt hE hj).1)); have s4 : H ≤ w4.heap.size := Nat.le_trans sY kq.size; refine hK.out _ _ trivial (fun hHeld => ?_); clear hK K
        have cO := kq.cell cO (by simp [Value.ownBlock]; omega)
        ((try simp only [List.getElem_toArray]); (try simp only [List.getElem_cons_succ]); (try simp only [List.getElem_cons_zero]); (try simp only [Act.put]); (try simp only [List.setIfInBounds_toArray]); (try simp only [List.set_cons_succ]); (try simp only [List.set_cons_zero]))
        refine wpAnyH_ready (rs := [7]) (by kernel_rfl) (by simp) ?_; refine AllReadyH.cons rfl (fun K hK => ?_) AllReadyH.nil; refine step_appN rfl (.tmp 37) (.tmp 39) rfl H s4 v4 (L.take k) rfl o4 ⟨Z.heap.size, 0, none⟩ 1 1 [o] rfl rfl (fun t ht => by (obtain rfl : t = 0 := (by simpa using ht)); simpa [Addr.add] using cO) (by omega) (by simp) ?_; intro v7 w7 o7 kr; have k7 := k4.trans (kr.mono (T := fun j => H ≤ j) (fun j hj => (OwnN.lt o4 hj).1)); have s7 : H ≤ w7.heap.size := Nat.le_trans s4 kr.size; refine hK.out _ _ trivial (fun hHeld => ?_); clear hK K
        ((try simp only [List.getElem_toArray]); (try simp only [List.getElem_cons_succ]); (try simp only [List.getElem_cons_zero]); (try simp only [Act.put]); (try simp only [List.setIfInBounds_toArray]); (try simp only [List.set_cons_succ]); (try simp only [List.set_cons_zero]))
        refine wpAnyH_ready (rs := [11]) (by kernel_rfl) (by simp) ?_; refine AllReadyH.cons rfl (fun K hK => ?_) AllReadyH.nil; refine step_appN rfl (.tmp 40) (.tmp 43) rfl H s7 v7 (L.take k ++ [o]) rfl o7 ad (n - k) (c - k) (L.drop k) rfl dl (dw _ k7) (by simp; omega) (by omega) ?_; intro v9 w9 o9 ks; have k9 := k7.trans (ks.mono (T := fun j => H ≤ j) (fun j hj => (OwnN.lt o7 hj).1)); refine hK.out _ _ trivial (fun hHeld => ?_); clear hK K
        ((try simp only [List.getElem_toArray]); (try simp only [List.getElem_cons_succ]); (try simp only [List.getElem_cons_zero]); (try simp only [Act.put]); (try simp only [List.setIfInBounds_toArray]); (try simp only [List.set_cons_succ]); (try simp only [List.set_cons_zero]))
        refine wpAnyH_take (i := 12) (v := ?qvf12ct) rfl (by kernel_rfl) (by kernel_rfl) (by kernel_rfl) (fun _ _ _ h => h) (Or.inl ⟨by rfl, ?qyf12ct⟩) (by assumption) ?qrf12ct; case qyf12ct => ((intro w hSw; (try dsimp only at hSw); go_simp); try (with_reducible rfl))
        ((try simp only [List.getElem_toArray]); (try simp only [List.getElem_cons_succ]); (try simp only [List.getElem_cons_zero]); (try simp only [Act.put]); (try simp only [List.setIfInBounds_toArray]); (try simp only [List.set_cons_succ]); (try simp only [List.set_cons_zero]))
        refine wpAnyH_done (by kernel_rfl) ?_ _
        have k9 := Keep.newer (by rw [eH]; exact k9); have o9 := OwnN.lower o9 (by omega : B ≤ H); clear tw dw; go_wp2; go_ret; exact ⟨_, rfl, by rw [PUT.out]; exact o9, k9⟩
end Go.Proofs.YtjobphjpfknfeaaDoor
