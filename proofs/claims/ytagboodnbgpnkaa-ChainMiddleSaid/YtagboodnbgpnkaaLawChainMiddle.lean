/- Proved here: vinculumlaw9.ChainMiddle returns true and leaves its arguments as they were, for any two ints; no further condition. -/
import Derived.Test.YtagboodnbgpnkaaChD
import Derived.Test.YtagboodnbgpnkaaSameO
import Derived.Test.YtagboodnbgpnkaaApp
import Derived.Test.YtagboodnbgpnkaaMask
import Derived.ChangeOld
import Derived.Deep.CutRange
import Derived.Deep.CutBlock
import Derived.Deep.LoopGhost
import Derived.Deep.RegionHeld3
namespace Go.Proofs.Ytagboodnbgpnkaa.chainMiddle
open Go.ChangeShapes Go.WideShapes Go.ChangeAt Go.RowKit
set_option linter.unusedVariables false

/-- k, k - 1, .., 1. -/
def dn : Nat → List Int
  | 0 => []
  | k + 1 => ((k : Int) + 1) :: dn k
theorem dn_len : ∀ k, (dn k).length = k
  | 0 => rfl
  | k + 1 => by simp [dn, dn_len k]
theorem dn_mem : ∀ k (x : Int), x ∈ dn k ↔ 1 ≤ x ∧ x ≤ k
  | 0, x => by simp [dn]; omega
  | k + 1, x => by simp only [dn, List.mem_cons, dn_mem k x]; omega
theorem dn_nodup : ∀ k, (dn k).Nodup
  | 0 => by simp [dn]
  | k + 1 => by
    simp only [dn, List.nodup_cons]
    exact ⟨fun h => by have := (dn_mem k _).1 h; omega, dn_nodup k⟩
theorem dn_get : ∀ k i, i < k → (dn k).getD i 0 = (k : Int) - i
  | k + 1, 0, _ => by simp [dn]
  | k + 1, i + 1, h => by
    have := dn_get k i (by omega)
    simp only [dn, List.getD_cons_succ, this]
    omega
theorem erase_at {l : List Int} (hn : l.Nodup) (i : Nat) (hi : i < l.length) : l.erase (l.getD i 0) = l.take i ++ l.drop (i + 1) := by
  induction l generalizing i with
  | nil => simp at hi
  | cons a l ih =>
    rw [List.nodup_cons] at hn
    cases i with
    | zero => simp
    | succ i =>
      have hi : i < l.length := by simpa using hi
      rw [List.getD_cons_succ]
      have hm : l.getD i 0 ∈ l := by
        rw [List.getD_eq_getElem?_getD, List.getElem?_eq_getElem hi]
        exact List.getElem_mem hi
      rw [List.erase_cons_tail (by intro e; exact hn.1 (by have : a = l.getD i 0 := (by simpa using e); rw [this]; exact hm)), ih hn.2 i hi]
      rfl
theorem litO (W : World) (o : Int) {B : Nat} (hB : B ≤ W.heap.size) : ∃ W', W.alloc (.cells #[.int .u64 o] 27) = W' ∧ OwnU B W' (.slice (some ⟨W.heap.size, 0, none⟩) 1 1) [o] ∧ Keep (fun _ => False) W W' ∧ W.heap.size < W'.heap.size :=
  ⟨_, rfl, own_lit hB o, Keep.alloc (Keep.refl _ _) _, by simp⟩
theorem empO (W : World) {B : Nat} (hB : B ≤ W.heap.size) : ∃ W', W.alloc (.cells #[] 27) = W' ∧ OwnU B W' (.slice (some ⟨W.heap.size, 0, none⟩) 0 0) [] ∧ Keep (fun _ => False) W W' ∧ W.heap.size < W'.heap.size :=
  ⟨_, rfl, own_empty hB, Keep.alloc (Keep.refl _ _) _, by simp⟩
def Rel (w : World) (p q n j : Nat) (v i : Value) (wr : World) : Prop :=
  ∃ S s, j ≤ n ∧ i = .int .i64 j ∧ ChU w wr p q S s (dn j) (1000 + 2000 * j) v (dn j) ∧ Fill s 40 j
set_option maxRecDepth 100000 in
set_option maxHeartbeats 8000000 in
theorem walk (a0 a1 : Int) (w : World) (w0 : (Lit.int .i64 a0).wf = true) (w1 : (Lit.int .i64 a1).wf = true) :
    Calls Try.prog 3 #[.int .i64 a0, .int .i64 a1] w fun e w' => e = .returned (.bool true) ∧ Below w.heap.size w w' := by
  have h0 := i64_mask8 a0
  have h1 := i64_mask8 a1
  obtain ⟨q0, eq0⟩ : ∃ q, a0 % 256 = q := ⟨_, rfl⟩
  obtain ⟨q1, eq1⟩ : ∃ q, a1 % 256 = q := ⟨_, rfl⟩
  obtain ⟨n, en⟩ : ∃ n : Nat, q0 % 30 + 1 = (n : Int) := ⟨(q0 % 30 + 1).toNat, by omega⟩
  have nb : 1 ≤ n ∧ n ≤ 30 := by omega
  obtain ⟨k, ek⟩ : ∃ k : Nat, q1 % (n : Int) = (k : Int) := ⟨(q1 % (n : Int)).toNat, by have := Int.emod_nonneg q1 (show (n : Int) ≠ 0 by omega); omega⟩
  have kn : k < n := by have := Int.emod_lt_of_pos q1 (show (0 : Int) < (n : Int) by omega); omega
  rw [eq0] at h0
  rw [eq1] at h1
  have e0 : q0.tmod 30 = q0 % 30 := Int.tmod_eq_emod_of_nonneg (by omega)
  have wq : IntKind.i64.wrap (q0 % 30) = q0 % 30 := IntWalk.i64_in _ (by omega)
  have wq2 : IntKind.i64.wrap (q0 % 30 + 1) = (n : Int) := by rw [IntWalk.i64_in _ (by omega)]; exact en
  have e2 : q1.tmod (n : Int) = (k : Int) := by rw [Int.tmod_eq_emod_of_nonneg (by omega)]; exact ek
  have wk0 : IntKind.i64.wrap (k : Int) = (k : Int) := IntWalk.i64_in _ (by omega)
  have n0 : ¬ (n : Int) = 0 := by omega
  clear eq0 eq1 ek w0 w1
  go_enter Try.func3, Try.ntmps3
  go_wp2_with fail
  refine (made_any 40 (by omega) (by omega) _).mono ?_
  rintro e y1 ⟨p, q, S1, rfl, C1⟩
  go_wp2
  go_loopw [7, 8, 9, 10] (fun v i a e wr => ∃ j : Nat, Rel w p q n j v i wr) (fun _ i _ _ _ => n - (intOf i).toNat)
  case atStart => exact ⟨0, S1, RS.new 40, Nat.zero_le _, rfl, ChU.start C1, fill_new 40⟩
  case round =>
    obtain ⟨j, S, s, jl, rfl, U, F⟩ := hrel
    clear C1
    by_cases hlt : j < n
    · obtain ⟨s1, hmk, F1, _, _⟩ := F.make U.r.ok (by omega) j j 1 2 (by omega) (by omega) (by omega) (by omega)
      have wk : IntKind.i64.wrap ((j : Int) + 1) = (j : Int) + 1 := IntWalk.i64_in _ (by omega)
      have len := dn_len j
      go_wp2_with fail
      refine (h_make U.r (by omega) _ _ 1 2 ⟨by omega, by omega⟩ ⟨by omega, by omega⟩ _ _ _ hmk).mono ?_
      rintro e y2 ⟨rfl, S2, C2, k2⟩
      have U2 := U.step C2 k2
      have hps : pushI s1.s (dn j) ((j : Int) + 1) = (true, dn (j + 1)) := by
        unfold pushI
        rw [if_pos ⟨F1.live C2.ok j (by omega) (by omega), fun h => by have := (dn_mem j _).1 h; omega⟩]
        rfl
      clear C2 k2 hmk U
      go_wp2_with fail
      refine (h_push U2.r (by omega) (by omega) _ ⟨by omega, by omega⟩ _ _ hps).mono ?_
      rintro e y3 ⟨rfl, S3, s3, e3, C3, k3⟩
      have U3 := U2.step C3 k3
      have F3 := F1.same e3
      clear C3 k3 U2 F1 hps
      rcases U3.ow.shape with ⟨ev, ez⟩ | ⟨g, c, ev, gB, gl, hc⟩
      · obtain rfl : j = 0 := by rw [ez] at len; simpa using len.symm
        subst ev
        go_wp2
        go_roundw
        case rel => exact ⟨1, S3, s3, by omega, by go_num, U3.anew (own_lit U3.r.b.size _) (Keep.alloc (Keep.refl (fun _ => False) y3) _) (fun g hg => hg.elim) (fun g hg => .inr (by simp [Value.ownBlock] at hg; omega)), F3⟩
        case measure => simp [intOf]; omega
      · subst ev
        have kA := Keep.alloc (Keep.refl (fun _ => False) y3) (.cells #[.int .u64 ((j : Int) + 1)] 27)
        rw [len]
        go_wp2_with (with_reducible refine wp_stop 47 rfl ?_)
        intro _
        refine wp_app rfl (.tmp 45) (.tmp 46) rfl y3.heap.size (by simp) (.slice (some ⟨y3.heap.size, 0, none⟩) 1 1) [(j : Int) + 1] rfl (own_lit (Nat.le_refl _) _) ⟨g, 0, none⟩ j c (dn j) rfl len (all_at U3.ow (fun t u h => kA.cell h (by simp))) (by simp) (by omega) ?_
        intro v4 w4 o4 k4
        have kk : Keep (fun x => x = y3.heap.size) y3 w4 := (kA.mono (fun _ h => h.elim)).trans (k4.mono (fun x hx => by simp [Value.ownBlock] at hx; exact hx.symm))
        have U4 := U3.anew (o4.lower U3.r.b.size) kk (fun x hx => .inr (by omega)) (fun x hx => .inr (OwnU.lt o4 hx).1)
        go_wp2
        go_roundw
        case rel => exact ⟨j + 1, S3, s3, by omega, by go_num, U4, F3⟩
        case measure => simp [intOf]; omega
    · obtain rfl : n = j := by omega
      clear hlt jl h0
      rcases U.ow.shape with ⟨_, ez⟩ | ⟨g, c, rfl, gB, gl, hc⟩
      · have := congrArg List.length ez; rw [dn_len] at this; simp at this; omega
      have len := dn_len n
      have hget := dn_get n k kn
      have hmem := fun x => dn_mem n x
      have hnd := dn_nodup n
      have her := erase_at hnd k (by omega)
      rw [hget] at her
      have ck := OwnU.cell U.ow k (by omega)
      rw [hget] at ck
      obtain ⟨l, el⟩ : ∃ l, dn n = l := ⟨_, rfl⟩
      rw [el] at U len hmem hnd her hc hget ⊢
      clear el
      rw [len] at hc ⊢
      obtain ⟨x, ex⟩ : ∃ x, (n : Int) - (k : Int) = x := ⟨_, rfl⟩
      rw [ex] at her ck hget
      have xm : x ∈ l := (hmem x).2 (by omega)
      have xu : U64 x := ⟨by omega, by omega⟩
      obtain ⟨er, eer⟩ : ∃ er, l.take k ++ l.drop (k + 1) = er := ⟨_, rfl⟩
      rw [eer] at her
      have ln1 : er.length = n - 1 := by rw [← her, List.length_erase_of_mem xm, len]
      have hcut : cutI l x = (true, er) := by unfold cutI; rw [if_pos xm, her]
      have xn : x ∉ er := by rw [← her]; exact hnd.not_mem_erase
      have hlive := U.r.ln.live x xm
      have hp1 : pushI s.s er x = (true, x :: er) := by unfold pushI; rw [if_pos ⟨hlive, xn⟩]
      have hp2 : pushI s.s (x :: er) x = (false, x :: er) := by unfold pushI; rw [if_neg (by simp)]
      clear hget her hnd xn hlive
      go_wp2_with fail
      refine (h_cut U.r (by omega) (by omega) x xu _ _ hcut).mono ?_
      rintro e y2 ⟨rfl, S2, s2, e2', C2, k2⟩
      have U2 := U.step C2 k2
      clear ck C2 k2 U
      go_wp2_with fail
      refine (h_push U2.r (by omega) (by omega) x xu true (x :: er) (by rw [e2']; exact hp1)).mono ?_
      rintro e y3 ⟨rfl, S3, s3, e3', C3, k3⟩
      have U3 := U2.step C3 k3
      clear C3 k3 U2
      go_wp2_with fail
      refine (h_push U3.r (by omega) (by rw [List.length_cons, ln1]; omega) x xu false (x :: er) (by rw [e3', e2']; exact hp2)).mono ?_
      rintro e z1 ⟨rfl, S4, s4, e4', C4, k4⟩
      have U4 := U3.step C4 k4
      clear C4 k4 U3 e2' e3' e4' hp1 hp2 hcut F
      have ho2 : OwnU w.heap.size z1 (.slice (some ⟨g, 0, none⟩) l.length c) l := U4.ow
      have gz : g < z1.heap.size := (OwnU.lt ho2 rfl).2
      obtain ⟨ad, ead, had⟩ : ∃ ad : Addr, (if c = k + 1 then some ({ block := g, off := 0 } : Addr) else some { block := g, off := k + 1 }) = some ad ∧ (¬ c = k + 1 → ad = ⟨g, k + 1, none⟩) := by
        by_cases hc : c = k + 1
        · exact ⟨⟨g, 0, none⟩, by rw [if_pos hc], fun h => absurd hc h⟩
        · exact ⟨⟨g, k + 1, none⟩, by rw [if_neg hc], fun _ => rfl⟩
      have sj : IntKind.i64.wrap ((k : Int) + 1) = (k : Int) + 1 := IntWalk.i64_in _ (by omega)
      have sj2 : (0 : Int) ≤ (k : Int) + 1 := by omega
      have sj3 : ((k : Int) + 1).toNat = k + 1 := by omega
      have sj4 : k + 1 ≤ c := by omega
      have sj5 : k ≤ c := by omega
      have sj6 : k + 1 ≤ n := by omega
      have sj7 : k ≤ n := by omega
      have sj9 : (k : Int) + 1 ≤ (n : Int) := by omega
      have wl : (x :: er).length = n := by rw [List.length_cons, ln1]; omega
      obtain ⟨KK, hKK⟩ : ∃ K, 1000 + 2000 * n + 1000 + 1000 + 1000 = K := ⟨_, rfl⟩
      rw [hKK] at U4
      have hK9 : KK ≤ 100000 := by omega
      clear hKK
      go_upto_region 17 with fail
      go_cut [13] from 71 to 83 (fun v wx => ChU w wx p q S4 s4 (x :: er) KK v (x :: er))
      case rest =>
        have UW := hcut
        clear U4
        go_wp2_with fail
        refine (h_links UW.r (by omega) (by omega)).mono ?_
        rintro e y5 ⟨vl, S5, s5, rfl, o5, d5, e5, C5, k5⟩
        have UW := UW.step C5 k5
        clear C5 k5
        go_wp2_with fail
        refine (same_own o5 UW.ow (by omega)).mono ?_
        rintro e y6 ⟨rfl, dd, rfl⟩
        have UW := UW.quiet (drewN_keep _ _ dd)
        go_wp2_with fail
        refine (h_head UW.r (by omega) (by omega) x rfl).mono ?_
        rintro e y7 ⟨rfl, S7, s7, e7, C7, k7⟩
        have UW := UW.step C7 k7
        clear C7 k7
        go_wp2_with fail
        refine (h_len UW.r (by omega) (by omega) (n : Int) (by rw [wl])).mono ?_
        rintro e y8 ⟨rfl, S8, s8, e8, C8, k8⟩
        have UW := UW.step C8 k8
        clear C8 k8
        go_wp2_with fail
        refine (awake9_any _).mono ?_
        rintro e y9 ⟨rfl, b9⟩
        go_wp2
        go_ret
        exact ⟨rfl, UW.r.b.trans (b9.mono UW.r.b.size)⟩
      case first =>
      have kc : Keep (fun j => z1.heap.size ≤ j) z1 z1.drew := (Keep.refl _ _).drew
      refine wp_region_held_drew (S := (fun _ => True)) (by kernel_rfl) trivial (fun hHeld => ?_)
      generalize z1.drew = Z at kc ⊢
      obtain ⟨H, eH⟩ : ∃ H, z1.heap.size = H := ⟨_, rfl⟩
      rw [eH] at kc gz
      have sc : H ≤ Z.heap.size := by rw [← eH]; exact kc.size
      have tw : ∀ (W : World), Keep (fun j => H ≤ j) z1 W → ∀ t, t < (l.take k).length → W.cell? ((⟨g, 0, none⟩ : Addr).add t) = some (.int .u64 ((l.take k).getD t 0)) := fun W kw => take_at ho2 (fun t u h => kw.cell h (by show ¬ H ≤ g; omega)) k
      have dw : ∀ (W : World), Keep (fun j => H ≤ j) z1 W → ∀ t, t < (l.drop (k + 1)).length → W.cell? (ad.add t) = some (.int .u64 ((l.drop (k + 1)).getD t 0)) := fun W kw => drop_at ho2 (fun t u h => kw.cell h (by show ¬ H ≤ g; omega)) (k + 1) had (by omega)
      have tl : (l.take k).length = k := by rw [List.length_take, len]; omega
      have dl : (l.drop (k + 1)).length = n - (k + 1) := by rw [List.length_drop, len]
      obtain ⟨N1, hN1⟩ : ∃ N1, k + (n - (k + 1)) = N1 := ⟨_, rfl⟩
      have tN : (l.take k ++ l.drop (k + 1)).length = N1 := by rw [List.length_append, tl, dl]; exact hN1
      refine wpAnyH_take (i := 0) (v := ?qvy0) rfl (by kernel_rfl) (by kernel_rfl) (by kernel_rfl) (fun _ _ _ h => h) (Or.inl ⟨by rfl, ?qyy0⟩) (by assumption) ?qry0; case qyy0 => ((intro w hSw; (try dsimp only at hSw); go_simp); try (with_reducible rfl))
      ((try simp only [List.getElem_toArray]); (try simp only [List.getElem_cons_succ]); (try simp only [List.getElem_cons_zero]); (try simp only [Act.put]); (try simp only [List.setIfInBounds_toArray]); (try simp only [List.set_cons_succ]); (try simp only [List.set_cons_zero]))
      refine wpAnyH_take (i := 3) (v := ?qvy3) rfl (by kernel_rfl) (by kernel_rfl) (by kernel_rfl) (fun _ _ _ h => h) (Or.inl ⟨by rfl, ?qyy3⟩) (by assumption) ?qry3; case qyy3 => ((intro w hSw; (try dsimp only at hSw); go_simp); try (with_reducible rfl))
      ((try simp only [List.getElem_toArray]); (try simp only [List.getElem_cons_succ]); (try simp only [List.getElem_cons_zero]); (try simp only [Act.put]); (try simp only [List.setIfInBounds_toArray]); (try simp only [List.set_cons_succ]); (try simp only [List.set_cons_zero]))
      refine wpAnyH_take (i := 4) (v := ?qvy4) rfl (by kernel_rfl) (by kernel_rfl) (by kernel_rfl) (fun _ _ _ h => h) (Or.inl ⟨by rfl, ?qyy4⟩) (by assumption) ?qry4; case qyy4 => ((intro w hSw; (try dsimp only at hSw); go_simp); try (with_reducible rfl))
      ((try simp only [List.getElem_toArray]); (try simp only [List.getElem_cons_succ]); (try simp only [List.getElem_cons_zero]); (try simp only [Act.put]); (try simp only [List.setIfInBounds_toArray]); (try simp only [List.set_cons_succ]); (try simp only [List.set_cons_zero]))
      refine wpAnyH_take (i := 5) (v := ?qvy5) rfl (by kernel_rfl) (by kernel_rfl) (by kernel_rfl) (fun _ _ _ h => h) (Or.inl ⟨by rfl, ?qyy5⟩) (by assumption) ?qry5; case qyy5 => ((intro w hSw; (try dsimp only at hSw); go_simp); try (with_reducible rfl))
      ((try simp only [List.getElem_toArray]); (try simp only [List.getElem_cons_succ]); (try simp only [List.getElem_cons_zero]); (try simp only [Act.put]); (try simp only [List.setIfInBounds_toArray]); (try simp only [List.set_cons_succ]); (try simp only [List.set_cons_zero]))
      refine wpAnyH_take (i := 7) (v := ?qvy7) rfl (by kernel_rfl) (by kernel_rfl) (by kernel_rfl) (fun _ _ _ h => h) (Or.inl ⟨by rfl, ?qyy7⟩) (by assumption) ?qry7; case qyy7 => ((intro w hSw; (try dsimp only at hSw); go_simp); try (with_reducible rfl))
      ((try simp only [List.getElem_toArray]); (try simp only [List.getElem_cons_succ]); (try simp only [List.getElem_cons_zero]); (try simp only [Act.put]); (try simp only [List.setIfInBounds_toArray]); (try simp only [List.set_cons_succ]); (try simp only [List.set_cons_zero]))
      refine wpAnyH_take (i := 8) (v := ?qvy8) rfl (by kernel_rfl) (by kernel_rfl) (by kernel_rfl) (fun _ _ _ h => h) (Or.inl ⟨by rfl, ?qyy8⟩) (by assumption) ?qry8; case qyy8 => ((intro w hSw; (try dsimp only at hSw); go_simp); try (with_reducible rfl))
      ((try simp only [List.getElem_toArray]); (try simp only [List.getElem_cons_succ]); (try simp only [List.getElem_cons_zero]); (try simp only [Act.put]); (try simp only [List.setIfInBounds_toArray]); (try simp only [List.set_cons_succ]); (try simp only [List.set_cons_zero]))
      refine wpAnyH_take (i := 9) (v := ?qvy9) rfl (by kernel_rfl) (by kernel_rfl) (by kernel_rfl) (fun _ _ _ h => h) (Or.inl ⟨by rfl, ?qyy9⟩) (by assumption) ?qry9; case qyy9 => ((intro w hSw; (try dsimp only at hSw); go_simp); try (with_reducible rfl))
      ((try simp only [List.getElem_toArray]); (try simp only [List.getElem_cons_succ]); (try simp only [List.getElem_cons_zero]); (try simp only [Act.put]); (try simp only [List.setIfInBounds_toArray]); (try simp only [List.set_cons_succ]); (try simp only [List.set_cons_zero]))
      refine wpAnyH_take (i := 10) (v := ?qvy10) rfl (by kernel_rfl) (by kernel_rfl) (by kernel_rfl) (fun _ _ _ h => h) (Or.inl ⟨by rfl, ?qyy10⟩) (by assumption) ?qry10; case qyy10 => ((intro w hSw; (try dsimp only at hSw); go_simp); try (with_reducible rfl))
      ((try simp only [List.getElem_toArray]); (try simp only [List.getElem_cons_succ]); (try simp only [List.getElem_cons_zero]); (try simp only [Act.put]); (try simp only [List.setIfInBounds_toArray]); (try simp only [List.set_cons_succ]); (try simp only [List.set_cons_zero]))
      refine wpAnyH_ready (rs := [1, 2]) (by kernel_rfl) (by simp) ?_
      refine AllReadyH.cons rfl (fun K hK => ?_) (AllReadyH.cons rfl (fun K hK => ?_) AllReadyH.nil)
      · skip
        go_simp
        refine hK.out _ _ trivial (fun hHeld => ?_)
        clear hK K
        obtain ⟨X, eX, oL, kL, lL⟩ := litO Z x sc
        rw [eX]
        clear eX
        obtain ⟨gL, hgL⟩ : ∃ g, Z.heap.size = g := ⟨_, rfl⟩
        rw [hgL] at oL ⊢
        have kc := kc.trans (kL.mono (T := fun j => H ≤ j) (fun _ h => h.elim))
        have sc : H ≤ X.heap.size := by omega
        ((try simp only [List.getElem_toArray]); (try simp only [List.getElem_cons_succ]); (try simp only [List.getElem_cons_zero]); (try simp only [Act.put]); (try simp only [List.setIfInBounds_toArray]); (try simp only [List.set_cons_succ]); (try simp only [List.set_cons_zero]))
        refine wpAnyH_ready (rs := [2]) (by kernel_rfl) (by simp) ?_
        refine AllReadyH.cons rfl (fun K hK => ?_) AllReadyH.nil
        go_simp
        refine hK.out _ _ trivial (fun hHeld => ?_)
        clear hK K
        obtain ⟨Y, eX, oC, kE, lE⟩ := empO X sc
        rw [eX]
        clear eX
        obtain ⟨gC, hgC⟩ : ∃ g, X.heap.size = g := ⟨_, rfl⟩
        rw [hgC] at oC ⊢
        have nLC : gL ≠ gC := by have := (OwnU.lt (g := gL) oL rfl).2; omega
        have oL := OwnU.keep oL kE (by simp)
        have kc := kc.trans (kE.mono (T := fun j => H ≤ j) (fun _ h => h.elim))
        have sc : H ≤ Y.heap.size := by omega
        ((try simp only [List.getElem_toArray]); (try simp only [List.getElem_cons_succ]); (try simp only [List.getElem_cons_zero]); (try simp only [Act.put]); (try simp only [List.setIfInBounds_toArray]); (try simp only [List.set_cons_succ]); (try simp only [List.set_cons_zero]))
        refine wpAnyH_ready (rs := [6]) (by kernel_rfl) (by simp) ?_
        refine AllReadyH.cons rfl (fun K hK => ?_) AllReadyH.nil
        refine step_apps rfl (.tmp 73) (.tmp 76) rfl H sc gC 0 0 [] rfl rfl oC ⟨g, 0, none⟩ k c (l.take k) rfl tl (tw _ kc) (by simp) (by omega) ?_
        intro g6 c6 w6 oN kN dN
        have hC := (OwnU.lt (g := gC) oC rfl).1
        rw [List.nil_append] at oN
        rw [Nat.zero_add] at oN ⊢
        have nLC : gL ≠ g6 := by have := (OwnU.lt (g := gL) oL rfl).2; omega
        have oL := OwnU.keep oL kN (fun z hz => by simp [Value.ownBlock] at hz; omega)
        have kc := kc.trans (kN.mono (T := fun j => H ≤ j) (fun j hj => by omega))
        have sc : H ≤ w6.heap.size := Nat.le_trans sc kN.size
        clear oC kN dN hC
        have oC := oN
        clear oN
        refine hK.out _ _ trivial (fun hHeld => ?_)
        clear hK K
        ((try simp only [List.getElem_toArray]); (try simp only [List.getElem_cons_succ]); (try simp only [List.getElem_cons_zero]); (try simp only [Act.put]); (try simp only [List.setIfInBounds_toArray]); (try simp only [List.set_cons_succ]); (try simp only [List.set_cons_zero]))
        refine wpAnyH_ready (rs := [11]) (by kernel_rfl) (by simp) ?_
        refine AllReadyH.cons rfl (fun K hK => ?_) AllReadyH.nil
        refine step_apps rfl (.tmp 77) (.tmp 81) rfl H sc g6 k c6 (l.take k) rfl tl oC ad (n - (k + 1)) (c - (k + 1)) (l.drop (k + 1)) rfl dl (dw _ kc) (by omega) (by omega) ?_
        intro g11 c11 w7 oN kN dN
        have hC := (OwnU.lt (g := g6) oC rfl).1
        rw [hN1] at oN ⊢
        have nLC : gL ≠ g11 := by have := (OwnU.lt (g := gL) oL rfl).2; omega
        have oL := OwnU.keep oL kN (fun z hz => by simp [Value.ownBlock] at hz; omega)
        have kc := kc.trans (kN.mono (T := fun j => H ≤ j) (fun j hj => by omega))
        have sc : H ≤ w7.heap.size := Nat.le_trans sc kN.size
        clear oC kN dN hC
        have oC := oN
        clear oN
        refine hK.out _ _ trivial (fun hHeld => ?_)
        clear hK K
        ((try simp only [List.getElem_toArray]); (try simp only [List.getElem_cons_succ]); (try simp only [List.getElem_cons_zero]); (try simp only [Act.put]); (try simp only [List.setIfInBounds_toArray]); (try simp only [List.set_cons_succ]); (try simp only [List.set_cons_zero]))
        refine wpAnyH_ready (rs := [12]) (by kernel_rfl) (by simp) ?_
        refine AllReadyH.cons rfl (fun K hK => ?_) AllReadyH.nil
        refine step_apps rfl (.tmp 72) (.tmp 82) rfl H sc gL 1 1 [x] rfl rfl oL ⟨g11, 0, none⟩ N1 c11 (l.take k ++ l.drop (k + 1)) rfl tN (all_at (by rw [tN]; exact oC) (fun t u h => h)) (by simp) (by omega) ?_
        intro g9 c9 w9 o9 k9 d9
        have kc := kc.trans (k9.mono (T := fun j => H ≤ j) (fun j hj => by have := (OwnU.lt (g := gL) oL rfl).1; omega))
        refine hK.out _ _ trivial (fun hHeld => ?_)
        clear hK K
        ((try simp only [List.getElem_toArray]); (try simp only [List.getElem_cons_succ]); (try simp only [List.getElem_cons_zero]); (try simp only [Act.put]); (try simp only [List.setIfInBounds_toArray]); (try simp only [List.set_cons_succ]); (try simp only [List.set_cons_zero]))
        refine wpAnyH_take (i := 13) (v := ?qvz1) rfl (by kernel_rfl) (by kernel_rfl) (by kernel_rfl) (fun _ _ _ h => h) (Or.inl ⟨by rfl, ?qyz1⟩) (by assumption) ?qrz1; case qyz1 => ((intro w hSw; (try dsimp only at hSw); go_simp); try (with_reducible rfl))
        ((try simp only [List.getElem_toArray]); (try simp only [List.getElem_cons_succ]); (try simp only [List.getElem_cons_zero]); (try simp only [Act.put]); (try simp only [List.setIfInBounds_toArray]); (try simp only [List.set_cons_succ]); (try simp only [List.set_cons_zero]))
        refine wpAnyH_done (by kernel_rfl) ?_ _
        rw [eer] at o9; (obtain ⟨N2, hN2⟩ : ∃ N2, 1 + N1 = N2 := ⟨_, rfl⟩); rw [hN2] at o9 ⊢; have hzs := U4.r.b.size; have UW := U4.anew (o9.lower (by omega)) kc (fun j hj => .inr (by rw [eH]; exact hj)) (fun j hj => .inr (by rw [eH]; exact (OwnU.lt o9 hj).1)); clear tw dw oL oC; go_wp2_with fail; go_meet; (case rel => exact UW)
      · skip
        go_simp
        refine hK.out _ _ trivial (fun hHeld => ?_)
        clear hK K
        obtain ⟨Y, eX, oC, kE, lE⟩ := empO Z sc
        rw [eX]
        clear eX
        obtain ⟨gC, hgC⟩ : ∃ g, Z.heap.size = g := ⟨_, rfl⟩
        rw [hgC] at oC ⊢
        have kc := kc.trans (kE.mono (T := fun j => H ≤ j) (fun _ h => h.elim))
        have sc : H ≤ Y.heap.size := by omega
        ((try simp only [List.getElem_toArray]); (try simp only [List.getElem_cons_succ]); (try simp only [List.getElem_cons_zero]); (try simp only [Act.put]); (try simp only [List.setIfInBounds_toArray]); (try simp only [List.set_cons_succ]); (try simp only [List.set_cons_zero]))
        refine wpAnyH_ready (rs := [1, 6]) (by kernel_rfl) (by simp) ?_
        refine AllReadyH.cons rfl (fun K hK => ?_) (AllReadyH.cons rfl (fun K hK => ?_) AllReadyH.nil)
        · skip
          go_simp
          refine hK.out _ _ trivial (fun hHeld => ?_)
          clear hK K
          obtain ⟨X, eX, oL, kL, lL⟩ := litO Y x sc
          rw [eX]
          clear eX
          obtain ⟨gL, hgL⟩ : ∃ g, Y.heap.size = g := ⟨_, rfl⟩
          rw [hgL] at oL ⊢
          have nLC := (OwnU.lt (g := gC) oC rfl).2
          have nLC : gL ≠ gC := by omega
          have oC := OwnU.keep oC kL (by simp)
          have kc := kc.trans (kL.mono (T := fun j => H ≤ j) (fun _ h => h.elim))
          have sc : H ≤ X.heap.size := by omega
          ((try simp only [List.getElem_toArray]); (try simp only [List.getElem_cons_succ]); (try simp only [List.getElem_cons_zero]); (try simp only [Act.put]); (try simp only [List.setIfInBounds_toArray]); (try simp only [List.set_cons_succ]); (try simp only [List.set_cons_zero]))
          refine wpAnyH_ready (rs := [6]) (by kernel_rfl) (by simp) ?_
          refine AllReadyH.cons rfl (fun K hK => ?_) AllReadyH.nil
          refine step_apps rfl (.tmp 73) (.tmp 76) rfl H sc gC 0 0 [] rfl rfl oC ⟨g, 0, none⟩ k c (l.take k) rfl tl (tw _ kc) (by simp) (by omega) ?_
          intro g6 c6 w6 oN kN dN
          have hC := (OwnU.lt (g := gC) oC rfl).1
          rw [List.nil_append] at oN
          rw [Nat.zero_add] at oN ⊢
          have nLC : gL ≠ g6 := by have := (OwnU.lt (g := gL) oL rfl).2; omega
          have oL := OwnU.keep oL kN (fun z hz => by simp [Value.ownBlock] at hz; omega)
          have kc := kc.trans (kN.mono (T := fun j => H ≤ j) (fun j hj => by omega))
          have sc : H ≤ w6.heap.size := Nat.le_trans sc kN.size
          clear oC kN dN hC
          have oC := oN
          clear oN
          refine hK.out _ _ trivial (fun hHeld => ?_)
          clear hK K
          ((try simp only [List.getElem_toArray]); (try simp only [List.getElem_cons_succ]); (try simp only [List.getElem_cons_zero]); (try simp only [Act.put]); (try simp only [List.setIfInBounds_toArray]); (try simp only [List.set_cons_succ]); (try simp only [List.set_cons_zero]))
          refine wpAnyH_ready (rs := [11]) (by kernel_rfl) (by simp) ?_
          refine AllReadyH.cons rfl (fun K hK => ?_) AllReadyH.nil
          refine step_apps rfl (.tmp 77) (.tmp 81) rfl H sc g6 k c6 (l.take k) rfl tl oC ad (n - (k + 1)) (c - (k + 1)) (l.drop (k + 1)) rfl dl (dw _ kc) (by omega) (by omega) ?_
          intro g11 c11 w7 oN kN dN
          have hC := (OwnU.lt (g := g6) oC rfl).1
          rw [hN1] at oN ⊢
          have nLC : gL ≠ g11 := by have := (OwnU.lt (g := gL) oL rfl).2; omega
          have oL := OwnU.keep oL kN (fun z hz => by simp [Value.ownBlock] at hz; omega)
          have kc := kc.trans (kN.mono (T := fun j => H ≤ j) (fun j hj => by omega))
          have sc : H ≤ w7.heap.size := Nat.le_trans sc kN.size
          clear oC kN dN hC
          have oC := oN
          clear oN
          refine hK.out _ _ trivial (fun hHeld => ?_)
          clear hK K
          ((try simp only [List.getElem_toArray]); (try simp only [List.getElem_cons_succ]); (try simp only [List.getElem_cons_zero]); (try simp only [Act.put]); (try simp only [List.setIfInBounds_toArray]); (try simp only [List.set_cons_succ]); (try simp only [List.set_cons_zero]))
          refine wpAnyH_ready (rs := [12]) (by kernel_rfl) (by simp) ?_
          refine AllReadyH.cons rfl (fun K hK => ?_) AllReadyH.nil
          refine step_apps rfl (.tmp 72) (.tmp 82) rfl H sc gL 1 1 [x] rfl rfl oL ⟨g11, 0, none⟩ N1 c11 (l.take k ++ l.drop (k + 1)) rfl tN (all_at (by rw [tN]; exact oC) (fun t u h => h)) (by simp) (by omega) ?_
          intro g9 c9 w9 o9 k9 d9
          have kc := kc.trans (k9.mono (T := fun j => H ≤ j) (fun j hj => by have := (OwnU.lt (g := gL) oL rfl).1; omega))
          refine hK.out _ _ trivial (fun hHeld => ?_)
          clear hK K
          ((try simp only [List.getElem_toArray]); (try simp only [List.getElem_cons_succ]); (try simp only [List.getElem_cons_zero]); (try simp only [Act.put]); (try simp only [List.setIfInBounds_toArray]); (try simp only [List.set_cons_succ]); (try simp only [List.set_cons_zero]))
          refine wpAnyH_take (i := 13) (v := ?qvz2) rfl (by kernel_rfl) (by kernel_rfl) (by kernel_rfl) (fun _ _ _ h => h) (Or.inl ⟨by rfl, ?qyz2⟩) (by assumption) ?qrz2; case qyz2 => ((intro w hSw; (try dsimp only at hSw); go_simp); try (with_reducible rfl))
          ((try simp only [List.getElem_toArray]); (try simp only [List.getElem_cons_succ]); (try simp only [List.getElem_cons_zero]); (try simp only [Act.put]); (try simp only [List.setIfInBounds_toArray]); (try simp only [List.set_cons_succ]); (try simp only [List.set_cons_zero]))
          refine wpAnyH_done (by kernel_rfl) ?_ _
          rw [eer] at o9; (obtain ⟨N2, hN2⟩ : ∃ N2, 1 + N1 = N2 := ⟨_, rfl⟩); rw [hN2] at o9 ⊢; have hzs := U4.r.b.size; have UW := U4.anew (o9.lower (by omega)) kc (fun j hj => .inr (by rw [eH]; exact hj)) (fun j hj => .inr (by rw [eH]; exact (OwnU.lt o9 hj).1)); clear tw dw oL oC; go_wp2_with fail; go_meet; (case rel => exact UW)
        · skip
          refine step_apps rfl (.tmp 73) (.tmp 76) rfl H sc gC 0 0 [] rfl rfl oC ⟨g, 0, none⟩ k c (l.take k) rfl tl (tw _ kc) (by simp) (by omega) ?_
          intro g6 c6 w6 oN kN dN
          have hC := (OwnU.lt (g := gC) oC rfl).1
          rw [List.nil_append] at oN
          rw [Nat.zero_add] at oN ⊢
          have kc := kc.trans (kN.mono (T := fun j => H ≤ j) (fun j hj => by omega))
          have sc : H ≤ w6.heap.size := Nat.le_trans sc kN.size
          clear oC kN dN hC
          have oC := oN
          clear oN
          refine hK.out _ _ trivial (fun hHeld => ?_)
          clear hK K
          ((try simp only [List.getElem_toArray]); (try simp only [List.getElem_cons_succ]); (try simp only [List.getElem_cons_zero]); (try simp only [Act.put]); (try simp only [List.setIfInBounds_toArray]); (try simp only [List.set_cons_succ]); (try simp only [List.set_cons_zero]))
          refine wpAnyH_ready (rs := [1, 11]) (by kernel_rfl) (by simp) ?_
          refine AllReadyH.cons rfl (fun K hK => ?_) (AllReadyH.cons rfl (fun K hK => ?_) AllReadyH.nil)
          · skip
            go_simp
            refine hK.out _ _ trivial (fun hHeld => ?_)
            clear hK K
            obtain ⟨X, eX, oL, kL, lL⟩ := litO w6 x sc
            rw [eX]
            clear eX
            obtain ⟨gL, hgL⟩ : ∃ g, w6.heap.size = g := ⟨_, rfl⟩
            rw [hgL] at oL ⊢
            have nLC := (OwnU.lt (g := g6) oC rfl).2
            have nLC : gL ≠ g6 := by omega
            have oC := OwnU.keep oC kL (by simp)
            have kc := kc.trans (kL.mono (T := fun j => H ≤ j) (fun _ h => h.elim))
            have sc : H ≤ X.heap.size := by omega
            ((try simp only [List.getElem_toArray]); (try simp only [List.getElem_cons_succ]); (try simp only [List.getElem_cons_zero]); (try simp only [Act.put]); (try simp only [List.setIfInBounds_toArray]); (try simp only [List.set_cons_succ]); (try simp only [List.set_cons_zero]))
            refine wpAnyH_ready (rs := [11]) (by kernel_rfl) (by simp) ?_
            refine AllReadyH.cons rfl (fun K hK => ?_) AllReadyH.nil
            refine step_apps rfl (.tmp 77) (.tmp 81) rfl H sc g6 k c6 (l.take k) rfl tl oC ad (n - (k + 1)) (c - (k + 1)) (l.drop (k + 1)) rfl dl (dw _ kc) (by omega) (by omega) ?_
            intro g11 c11 w7 oN kN dN
            have hC := (OwnU.lt (g := g6) oC rfl).1
            rw [hN1] at oN ⊢
            have nLC : gL ≠ g11 := by have := (OwnU.lt (g := gL) oL rfl).2; omega
            have oL := OwnU.keep oL kN (fun z hz => by simp [Value.ownBlock] at hz; omega)
            have kc := kc.trans (kN.mono (T := fun j => H ≤ j) (fun j hj => by omega))
            have sc : H ≤ w7.heap.size := Nat.le_trans sc kN.size
            clear oC kN dN hC
            have oC := oN
            clear oN
            refine hK.out _ _ trivial (fun hHeld => ?_)
            clear hK K
            ((try simp only [List.getElem_toArray]); (try simp only [List.getElem_cons_succ]); (try simp only [List.getElem_cons_zero]); (try simp only [Act.put]); (try simp only [List.setIfInBounds_toArray]); (try simp only [List.set_cons_succ]); (try simp only [List.set_cons_zero]))
            refine wpAnyH_ready (rs := [12]) (by kernel_rfl) (by simp) ?_
            refine AllReadyH.cons rfl (fun K hK => ?_) AllReadyH.nil
            refine step_apps rfl (.tmp 72) (.tmp 82) rfl H sc gL 1 1 [x] rfl rfl oL ⟨g11, 0, none⟩ N1 c11 (l.take k ++ l.drop (k + 1)) rfl tN (all_at (by rw [tN]; exact oC) (fun t u h => h)) (by simp) (by omega) ?_
            intro g9 c9 w9 o9 k9 d9
            have kc := kc.trans (k9.mono (T := fun j => H ≤ j) (fun j hj => by have := (OwnU.lt (g := gL) oL rfl).1; omega))
            refine hK.out _ _ trivial (fun hHeld => ?_)
            clear hK K
            ((try simp only [List.getElem_toArray]); (try simp only [List.getElem_cons_succ]); (try simp only [List.getElem_cons_zero]); (try simp only [Act.put]); (try simp only [List.setIfInBounds_toArray]); (try simp only [List.set_cons_succ]); (try simp only [List.set_cons_zero]))
            refine wpAnyH_take (i := 13) (v := ?qvz3) rfl (by kernel_rfl) (by kernel_rfl) (by kernel_rfl) (fun _ _ _ h => h) (Or.inl ⟨by rfl, ?qyz3⟩) (by assumption) ?qrz3; case qyz3 => ((intro w hSw; (try dsimp only at hSw); go_simp); try (with_reducible rfl))
            ((try simp only [List.getElem_toArray]); (try simp only [List.getElem_cons_succ]); (try simp only [List.getElem_cons_zero]); (try simp only [Act.put]); (try simp only [List.setIfInBounds_toArray]); (try simp only [List.set_cons_succ]); (try simp only [List.set_cons_zero]))
            refine wpAnyH_done (by kernel_rfl) ?_ _
            rw [eer] at o9; (obtain ⟨N2, hN2⟩ : ∃ N2, 1 + N1 = N2 := ⟨_, rfl⟩); rw [hN2] at o9 ⊢; have hzs := U4.r.b.size; have UW := U4.anew (o9.lower (by omega)) kc (fun j hj => .inr (by rw [eH]; exact hj)) (fun j hj => .inr (by rw [eH]; exact (OwnU.lt o9 hj).1)); clear tw dw oL oC; go_wp2_with fail; go_meet; (case rel => exact UW)
          · skip
            refine step_apps rfl (.tmp 77) (.tmp 81) rfl H sc g6 k c6 (l.take k) rfl tl oC ad (n - (k + 1)) (c - (k + 1)) (l.drop (k + 1)) rfl dl (dw _ kc) (by omega) (by omega) ?_
            intro g11 c11 w7 oN kN dN
            have hC := (OwnU.lt (g := g6) oC rfl).1
            rw [hN1] at oN ⊢
            have kc := kc.trans (kN.mono (T := fun j => H ≤ j) (fun j hj => by omega))
            have sc : H ≤ w7.heap.size := Nat.le_trans sc kN.size
            clear oC kN dN hC
            have oC := oN
            clear oN
            refine hK.out _ _ trivial (fun hHeld => ?_)
            clear hK K
            ((try simp only [List.getElem_toArray]); (try simp only [List.getElem_cons_succ]); (try simp only [List.getElem_cons_zero]); (try simp only [Act.put]); (try simp only [List.setIfInBounds_toArray]); (try simp only [List.set_cons_succ]); (try simp only [List.set_cons_zero]))
            refine wpAnyH_ready (rs := [1]) (by kernel_rfl) (by simp) ?_
            refine AllReadyH.cons rfl (fun K hK => ?_) AllReadyH.nil
            go_simp
            refine hK.out _ _ trivial (fun hHeld => ?_)
            clear hK K
            obtain ⟨X, eX, oL, kL, lL⟩ := litO w7 x sc
            rw [eX]
            clear eX
            obtain ⟨gL, hgL⟩ : ∃ g, w7.heap.size = g := ⟨_, rfl⟩
            rw [hgL] at oL ⊢
            have nLC := (OwnU.lt (g := g11) oC rfl).2
            have nLC : gL ≠ g11 := by omega
            have oC := OwnU.keep oC kL (by simp)
            have kc := kc.trans (kL.mono (T := fun j => H ≤ j) (fun _ h => h.elim))
            have sc : H ≤ X.heap.size := by omega
            ((try simp only [List.getElem_toArray]); (try simp only [List.getElem_cons_succ]); (try simp only [List.getElem_cons_zero]); (try simp only [Act.put]); (try simp only [List.setIfInBounds_toArray]); (try simp only [List.set_cons_succ]); (try simp only [List.set_cons_zero]))
            refine wpAnyH_ready (rs := [12]) (by kernel_rfl) (by simp) ?_
            refine AllReadyH.cons rfl (fun K hK => ?_) AllReadyH.nil
            refine step_apps rfl (.tmp 72) (.tmp 82) rfl H sc gL 1 1 [x] rfl rfl oL ⟨g11, 0, none⟩ N1 c11 (l.take k ++ l.drop (k + 1)) rfl tN (all_at (by rw [tN]; exact oC) (fun t u h => h)) (by simp) (by omega) ?_
            intro g9 c9 w9 o9 k9 d9
            have kc := kc.trans (k9.mono (T := fun j => H ≤ j) (fun j hj => by have := (OwnU.lt (g := gL) oL rfl).1; omega))
            refine hK.out _ _ trivial (fun hHeld => ?_)
            clear hK K
            ((try simp only [List.getElem_toArray]); (try simp only [List.getElem_cons_succ]); (try simp only [List.getElem_cons_zero]); (try simp only [Act.put]); (try simp only [List.setIfInBounds_toArray]); (try simp only [List.set_cons_succ]); (try simp only [List.set_cons_zero]))
            refine wpAnyH_take (i := 13) (v := ?qvz4) rfl (by kernel_rfl) (by kernel_rfl) (by kernel_rfl) (fun _ _ _ h => h) (Or.inl ⟨by rfl, ?qyz4⟩) (by assumption) ?qrz4; case qyz4 => ((intro w hSw; (try dsimp only at hSw); go_simp); try (with_reducible rfl))
            ((try simp only [List.getElem_toArray]); (try simp only [List.getElem_cons_succ]); (try simp only [List.getElem_cons_zero]); (try simp only [Act.put]); (try simp only [List.setIfInBounds_toArray]); (try simp only [List.set_cons_succ]); (try simp only [List.set_cons_zero]))
            refine wpAnyH_done (by kernel_rfl) ?_ _
            rw [eer] at o9; (obtain ⟨N2, hN2⟩ : ∃ N2, 1 + N1 = N2 := ⟨_, rfl⟩); rw [hN2] at o9 ⊢; have hzs := U4.r.b.size; have UW := U4.anew (o9.lower (by omega)) kc (fun j hj => .inr (by rw [eH]; exact hj)) (fun j hj => .inr (by rw [eH]; exact (OwnU.lt o9 hj).1)); clear tw dw oL oC; go_wp2_with fail; go_meet; (case rel => exact UW)
theorem own : ownKnob Try.prog.godebug = none := by kernel_rfl
theorem laidOut : laidOutB Try.prog = true := by kernel_rfl
set_option maxRecDepth 100000 in
theorem lifted (os : Os) (started : os.Started) (H : Type) (enc : TypeId × Value → H) :
    ReturnsInHanded {} Try.checked os 3 .any (Rows.chainMiddleSpec.pre6 enc Try.prog Try.f3 Rows.chainMiddleRow.domain false) (Rows.chainMiddleSpec.post enc Try.prog Try.f3 false true false false) := by
  refine returnsInHanded_of_change (C := Try.checked) own started (by kernel_rfl) Try.func3
    (ChangeSpec.witness6 (enc := enc) (C := Try.checked) false ⟨#[], #[.int .i64 0, .int .i64 0], []⟩ 8 (by kernel_rfl) (by kernel_rfl) (by kernel_rfl) (by kernel_rfl)) ?_
  intro W base args ds gs before hval0 hW hcnd _
  have hval : ∀ (j : Nat) t v, Try.f3.params[j]? = some t → args[j]? = some v → Value.okWide Try.prog W .any base t v := hval0
  have hW' := hW
  obtain ⟨p, q, hA0, hV, rfl, hfz, hnd⟩ := hW
  have hA : DataW.TrodAll enc Try.prog W 0 (fun _ => true) true Try.f3.params.toList args.toList ds p := hA0
  rw [Try.params3] at hA hval
  obtain ⟨v0, vs0, d0, ds0, p0, q0, hargs, rfl, rfl, h0, r0⟩ := trodAll_cons hA
  obtain ⟨v1, vs1, d1, ds1, p1, q1, rfl, rfl, rfl, h1, r1⟩ := trodAll_cons r0
  obtain ⟨rfl, rfl, rfl⟩ := trodAll_nil r1
  obtain rfl : args = #[v0, v1] := by cases args; simp_all
  obtain ⟨rfl, rfl⟩ := trodVars_none hV
  obtain ⟨a0, rfl, rfl, rfl, w0⟩ := open_int Try.underlying3 (hval 0 3 v0 rfl rfl) h0
  obtain ⟨a1, rfl, rfl, rfl, w1⟩ := open_int Try.underlying3 (hval 1 3 v1 rfl rfl) h1
  clear hA0 hval0
  refine (walk a0 a1 W w0 w1).mono fun e W' ⟨he, bel⟩ => ?_
  subst he
  exact ⟨_, rfl, _, _, _, [], _, [], hW', trodAll_mk1 (shut_bool Try.underlying4 _), (trodAll_cons_mk (shut_int Try.underlying3 w0) (trodAll_cons_mk (shut_int Try.underlying3 w1) trodAll_mk0)), rfl, bel.frame _, fun h => by cases h⟩
theorem over : Rows.chainMiddleRow.holds Try.pinned (OpenSpec.ofChange Rows.chainMiddleSpec) :=
  OpenClaim.holds_of_wide 3 Try.f3 rfl rfl rfl rfl rfl rfl rfl ⟨rfl, rfl, rfl, rfl, rfl⟩ rfl rfl rfl rfl rfl (by kernel_rfl) Try.func3 (by kernel_rfl)
    (of_decide_eq_true (by kernel_rfl)) (by unfold Func.isWrapper; first | (rw [if_pos (by decide +kernel)]; kernel_rfl) | (rw [if_neg (by decide +kernel)]; exact ⟨rfl, rfl⟩))
    (fun os started H enc _ => lifted os started H enc)
theorem proved : Rows.ChainMiddleSaid := over
end Go.Proofs.Ytagboodnbgpnkaa.chainMiddle
