/- Package mark as landed, fourth part: takeOut, Leave; conditions: at most 10,000 tallies, each with a count of 1 to 10,000. -/
import Derived.Test.YtbbinfdgmfmaeaaMkF
namespace Go.Proofs.Ytbbinfdgmfmaeaa
open Go.ChangeShapes Go.WideShapes Go.ChangeAt Go.RowKit
set_option linter.unusedVariables false
set_option linter.unusedSimpArgs false

theorem ris_split {L R L' R' : List Ta} {x y : Ta} (h : RisT (L ++ x :: R)) (e : L ++ x :: R = L' ++ y :: R') (et : x.t = y.t) : L = L' ∧ x = y ∧ R = R' := by
  have h1 : (L ++ x :: R)[L.length]? = some x := by simp
  have h2 : (L ++ x :: R)[L'.length]? = some y := by rw [e]; simp
  have el : L.length = L'.length := by
    rcases Nat.lt_trichotomy L.length L'.length with a | a | a
    · have := ris_get h h1 h2 a; omega
    · exact a
    · have := ris_get h h2 h1 a; omega
  obtain ⟨a, b⟩ := List.append_inj e el
  simp at b
  exact ⟨a, b.1, b.2⟩
theorem parts2 (w3 : World) (v1 v3 : Value) (bs1 bs3 : List Nat) (h1 : LiesN w3 v1 bs1) (h3 : LiesN w3 v3 bs3) :
    Parts (w3.alloc (.cells #[v1, v3] 56)) w3.heap.size [(v1, bs1), (v3, bs3)] := by
  have k5 : Keep (fun _ => False) w3 (w3.alloc (.cells #[v1, v3] 56)) := (Keep.refl _ _).alloc _
  refine ⟨fun j p hp => ?_, fun p hp => ?_⟩
  · match j, hp with
    | 0, hp => simp at hp; subst hp; simp
    | 1, hp => simp at hp; subst hp; simp
  · simp only [List.mem_cons, List.not_mem_nil, or_false] at hp
    rcases hp with rfl | rfl
    · exact h1.same k5
    · exact h3.same k5
section
variable {w w' : World} {m q : Nat} {v : Value} {ts : List Ta} {T : Nat → Prop}
theorem BoxL.free {w : World} {q : Nat} {v : Value} (h : BoxL w q v) : w.frozen? ⟨q, 0, none⟩ = false := by unfold BoxL at h; simp [World.frozen?, h]
theorem BoxL.set {w : World} {q : Nat} {v : Value} (h : BoxL w q v) (v' : Value) : BoxL (w.setCell ⟨q, 0, none⟩ v') q v' := by
  unfold BoxL at h ⊢
  simp only [World.setCell]
  rw [Array.getElem?_modify, h]
  simp
theorem box_new (w : World) (v : Value) : BoxL (w.alloc (.cells #[v] 56)) w.heap.size v := heap_alloc_new w _
/-- What concat makes of two parts that lie in a block of their own. -/
theorem cat2 {w3 wz : World} {v1 v3 : Value} {bs1 bs3 : List Nat} (h1 : LiesN w3 v1 bs1) (h3 : LiesN w3 v3 bs3) (hl : (bs1 ++ bs3).length ≤ 100000) (k : Keep (fun _ => False) (w3.alloc (.cells #[v1, v3] 56)) wz) (N : Nat) (hN : w3.heap.size = N) :
    Calls Try.prog 36 #[.slice (some ⟨N, 0, none⟩) 2 2] wz fun e w' => ∃ A n c, e = .returned (.slice A n c) ∧ OwnAt wz.heap.size ptrV 60 w' (.slice A n c) (bs1 ++ bs3) ∧ Keep (fun _ => False) wz w' := by
  subst hN
  have P := (parts2 w3 v1 v3 _ _ h1 h3).same k
  have ec : catN [(v1, bs1), (v3, bs3)] = bs1 ++ bs3 := by simp [catN]
  refine (concat_any w3.heap.size 2 _ P (by simp) (by rw [ec]; exact hl)).mono ?_
  rintro e w6 ⟨v', rfl, o6, k6⟩
  rw [ec] at o6
  obtain ⟨A, n, c, rfl⟩ : ∃ A n c, v' = .slice A n c := by
    rcases (Own.of_base (zs := bs1 ++ bs3) o6 rfl rfl).form with ⟨h1, _⟩ | ⟨g, c, h1, _⟩ <;> exact ⟨_, _, _, h1⟩
  exact ⟨A, n, c, rfl, o6, k6⟩
/-- The world ahead of the store of a new list: its box is made, the list, too. -/
structure Took (w1 w' : World) (q' : Nat) (v' : Value) (bs : List Nat) : Prop where
  bx : BoxL w' q' (.slice none 0 0)
  ge : w1.heap.size ≤ q'
  ow : OwnAt w1.heap.size ptrV 60 w' v' bs
  k : Keep (fun _ => False) w1 w'
theorem ownat_same {B : Nat} {w w' : World} {v : Value} {zs : List Nat} (o : OwnAt B ptrV 60 w v zs) (k : Keep (fun _ => False) w w') : OwnAt B ptrV 60 w' v zs := by
  obtain ⟨a1, a2⟩ := id o
  refine ⟨a1, ?_⟩
  rcases a2 with a2 | ⟨g, c, cur, hv, hg, hh, r⟩
  · exact .inl a2
  · exact .inr ⟨g, c, cur, hv, hg, by rw [k.block g (lt_of_block hh) id]; exact hh, r⟩
theorem Took.swap {w0 w1 w' W : World} {q' : Nat} {v' v v0 : Value} {m q : Nat} {ts1 ts' : List Ta} (t : Took w1 w' q' v' (ts'.map Ta.b)) (h1 : MkAt w1 m q v ts1) (e : w'.setCell ⟨q', 0, none⟩ v' = W) {ts : List Ta} (f1 : ∀ k, FootM m q v ts1 k → FootM m q v0 ts k ∨ w0.heap.size ≤ k) (k1 : Keep (FootM m q v0 ts) w0 w1)
    (up : RisT ts') (old : ∀ x ∈ ts', x ∈ ts1) (n1 : ∀ x ∈ ts', 1 ≤ x.n) {l : List Int} (hl : spread ts' = l) :
    Calls Try.prog 23 #[.pointer (some ⟨m, 0, none⟩), .pointer (some ⟨q, 0, none⟩), .pointer (some ⟨q', 0, none⟩)] W fun e w' => e = .returned (.bool true) ∧ Went w0 m q v0 ts l w' := by
  have bW : BoxL W q' v' := by rw [← e]; exact t.bx.set v'
  have kW : Keep (fun _ => False) w1 W := by
    rw [← e]
    exact t.k.older (keep_one w' ⟨q', 0, none⟩ v') (fun j e => by cases e; exact t.ge)
  have oW : OwnAt w1.heap.size ptrV 60 W v' (ts'.map Ta.b) := by
    have o1 : Own ptrV 60 w' v' (ts'.map Ta.b) := Own.of_base t.ow (by simp) rfl
    obtain ⟨a1, a2⟩ := id t.ow
    refine ⟨a1, ?_⟩
    rcases a2 with a2 | ⟨g, c, cur, hv, hg, hh, r⟩
    · exact .inl a2
    · have ne : g ≠ q' := fun e => by
        have := t.bx
        unfold BoxL at this
        rw [← e, hh] at this
        injection this with this
        injection this with _ this _
        exact absurd this (by decide)
      exact .inr ⟨g, c, cur, hv, hg, by rw [← e, (keep_one w' ⟨q', 0, none⟩ v').block g (lt_of_block hh) ne]; exact hh, r⟩
  have s1 := k1.size
  have ge := t.ge
  refine (pcas m (kW.cell h1.cm id) ((kW.frozen (a := ⟨m, 0, none⟩) h1.mlt id).trans h1.fm) (h1.bx.keep kW id) bW).mono ?_
  rintro e w9 ⟨rfl, rfl⟩
  refine ⟨rfl, q', v', ts', h1.swap kW bW oW (fun x hx => (h1.en x (old x hx)).keep kW id) up, hl, n1, (k1.trans (kW.mono (fun _ x => x.elim))).trans ((keep_one W ⟨m, 0, none⟩ _).mono (fun j e => .inl e)), fun k hk => ?_⟩
  rcases hk with rfl | rfl | hk | ⟨x, hx, rfl⟩
  · exact .inl (.inl rfl)
  · right; omega
  · right; have := (World.ownsRow.lt oW k hk).1; omega
  · exact f1 _ (.inr (.inr (.inr ⟨x, old x hx, rfl⟩)))
theorem took_1 {w0 w3 y6 : World} {v' : Value} {bs : List Nat} (k3 : Keep (fun _ => False) w0 w3) (o6 : OwnAt w3.heap.size ptrV 60 y6 v' bs) (k6 : Keep (fun _ => False) w3 y6) : Took w0 (y6.alloc (.cells #[.slice none 0 0] 56)) y6.heap.size v' bs :=
  ⟨box_new y6 _, Nat.le_trans k3.size k6.size, ownat_same (ownat_lower o6 k3.size) ((Keep.refl _ _).alloc _), (k3.trans k6).alloc _⟩
theorem took_2 {w0 w3 w5 y6 : World} {v' : Value} {bs : List Nat} (k3 : Keep (fun _ => False) w0 w3) (k5 : Keep (fun _ => False) (w3.alloc (.cells #[.slice none 0 0] 56)) w5) (o6 : OwnAt w5.heap.size ptrV 60 y6 v' bs) (k6 : Keep (fun _ => False) w5 y6) (N : Nat) (hN : w3.heap.size = N) : Took w0 y6 N v' bs := by
  subst hN
  have k4 := k3.alloc (.cells #[.slice none 0 0] 56)
  exact ⟨((box_new w3 _).keep k5 id).keep k6 id, k3.size, ownat_lower o6 (Nat.le_trans k4.size k5.size), (k4.trans k5).trans k6⟩
set_option maxRecDepth 100000 in
set_option maxHeartbeats 2000000 in
theorem takeout_any {L R : List Ta} {x : Ta} (h : MkAt w m q v (L ++ x :: R)) (hl : (L ++ x :: R).length ≤ 10000) (hn : ∀ y ∈ L ++ R, 1 ≤ y.n) (h0 : x.n = 0) :
    Calls Try.prog 26 #[.pointer (some ⟨m, 0, none⟩), ptrV x.b] w fun e w' => e = .returned (.tuple #[]) ∧ Went w m q v (L ++ x :: R) (spread (L ++ R)) w' := by
  obtain ⟨A, c, rfl, hc⟩ := h.lies.cap
  obtain ⟨n, en⟩ : ∃ n, (L ++ x :: R).length = n := ⟨_, rfl⟩
  rw [en] at h hl hc ⊢
  have cm := h.cm
  have fm := h.fm
  have H := Lib.hid h
  have EN := Lib.hid en
  clear h en
  unfold ptrV
  go_enter Try.func26, Try.ntmps26
  go_wp2
  go_loopw [4, 5, 6, 7] (fun _ _ _ _ wr => w = wr) (fun _ _ _ _ _ => 0)
  case atStart => rfl
  case round =>
    obtain rfl := hrel
    go_wp2_with fail
    refine (pload m cm H.out.bx).mono ?_
    rintro e w1 ⟨rfl, rfl⟩
    have cq := H.out.bx.cell
    have cx := (H.out.en x (by simp)).c0
    have kd := (Keep.refl (fun _ => False) w).drew
    have H1 := Lib.hid (H.out.same kd)
    go_wp2_with fail
    refine wp_region_held_drew (S := fun w' => w'.cell? ⟨q, 0, none⟩ = some (.slice A n c) ∧ w'.cell? ⟨x.b, 0, none⟩ = some (.int .u64 x.t)) (by kernel_rfl) ⟨cq, cx⟩ (fun hHeld => ?_)
    refine wpAnyH_take (i := 0) (v := ?qvu18) rfl (by kernel_rfl) (by kernel_rfl) (by kernel_rfl) (fun _ _ _ h => h) (Or.inl ⟨by rfl, ?qyu18⟩) (by assumption) ?qru18; case qyu18 => ((intro w hSw; (try dsimp only at hSw); go_simp); try (with_reducible rfl))
    ((try simp only [List.getElem_toArray]); (try simp only [List.getElem_cons_succ]); (try simp only [List.getElem_cons_zero]); (try simp only [Act.put]); (try simp only [List.setIfInBounds_toArray]); (try simp only [List.set_cons_succ]); (try simp only [List.set_cons_zero]))
    refine wpAnyH_take (i := 1) (v := ?qvu19) rfl (by kernel_rfl) (by kernel_rfl) (by kernel_rfl) (fun _ _ _ h => h) (Or.inl ⟨by rfl, ?qyu19⟩) (by assumption) ?qru19; case qyu19 => ((intro w hSw; (try dsimp only at hSw); go_simp); try (with_reducible rfl))
    ((try simp only [List.getElem_toArray]); (try simp only [List.getElem_cons_succ]); (try simp only [List.getElem_cons_zero]); (try simp only [Act.put]); (try simp only [List.setIfInBounds_toArray]); (try simp only [List.set_cons_succ]); (try simp only [List.set_cons_zero]))
    refine wpAnyH_take (i := 2) (v := ?qvu20) rfl (by kernel_rfl) (by kernel_rfl) (by kernel_rfl) (fun _ _ _ h => h) (Or.inl ⟨by rfl, ?qyu20⟩) (by assumption) ?qru20; case qyu20 => ((intro w hSw; (try dsimp only at hSw); go_simp); try (with_reducible rfl))
    ((try simp only [List.getElem_toArray]); (try simp only [List.getElem_cons_succ]); (try simp only [List.getElem_cons_zero]); (try simp only [Act.put]); (try simp only [List.setIfInBounds_toArray]); (try simp only [List.set_cons_succ]); (try simp only [List.set_cons_zero]))
    refine wpAnyH_take (i := 3) (v := ?qvu21) rfl (by kernel_rfl) (by kernel_rfl) (by kernel_rfl) (fun _ _ _ h => h) (Or.inl ⟨by rfl, ?qyu21⟩) (by assumption) ?qru21; case qyu21 => ((intro w hSw; (try dsimp only at hSw); go_simp); try (with_reducible rfl))
    ((try simp only [List.getElem_toArray]); (try simp only [List.getElem_cons_succ]); (try simp only [List.getElem_cons_zero]); (try simp only [Act.put]); (try simp only [List.setIfInBounds_toArray]); (try simp only [List.set_cons_succ]); (try simp only [List.set_cons_zero]))
    refine wpAnyH_take (i := 4) (v := ?qvu22) rfl (by kernel_rfl) (by kernel_rfl) (by kernel_rfl) (fun _ _ _ h => h) (Or.inl ⟨by rfl, ?qyu22⟩) (by assumption) ?qru22; case qyu22 => ((intro w hSw; (try dsimp only at hSw); go_simp); try (with_reducible rfl))
    ((try simp only [List.getElem_toArray]); (try simp only [List.getElem_cons_succ]); (try simp only [List.getElem_cons_zero]); (try simp only [Act.put]); (try simp only [List.setIfInBounds_toArray]); (try simp only [List.set_cons_succ]); (try simp only [List.set_cons_zero]))
    refine wpAnyH_take (i := 5) (v := ?qvu23) rfl (by kernel_rfl) (by kernel_rfl) (by kernel_rfl) (fun _ _ _ h => h) (Or.inl ⟨by rfl, ?qyu23⟩) (by assumption) ?qru23; case qyu23 => ((intro w hSw; (try dsimp only at hSw); go_simp); try (with_reducible rfl))
    ((try simp only [List.getElem_toArray]); (try simp only [List.getElem_cons_succ]); (try simp only [List.getElem_cons_zero]); (try simp only [Act.put]); (try simp only [List.setIfInBounds_toArray]); (try simp only [List.set_cons_succ]); (try simp only [List.set_cons_zero]))
    refine wpAnyH_take (i := 6) (v := ?qvu24) rfl (by kernel_rfl) (by kernel_rfl) (by kernel_rfl) (fun _ _ _ h => h) (Or.inl ⟨by rfl, ?qyu24⟩) (by assumption) ?qru24; case qyu24 => ((intro w hSw; (try dsimp only at hSw); go_simp); try (with_reducible rfl))
    ((try simp only [List.getElem_toArray]); (try simp only [List.getElem_cons_succ]); (try simp only [List.getElem_cons_zero]); (try simp only [Act.put]); (try simp only [List.setIfInBounds_toArray]); (try simp only [List.set_cons_succ]); (try simp only [List.set_cons_zero]))
    refine wpAnyH_ready (rs := [7]) (by kernel_rfl) (by simp) ?_
    refine AllReadyH.cons rfl (fun K hK => ?_) AllReadyH.nil
    go_simp
    refine (findt_any H1.out.lies H1.out.up (by rw [EN.out]; omega) x.t).mono ?_
    rintro e w2 ⟨i, b, rfl, hF, k2⟩
    refine hK.out _ _ ⟨k2.cell hHeld.1 id, k2.cell hHeld.2 id⟩ (fun hHeld => ?_)
    clear hK K
    ((try simp only [List.getElem_toArray]); (try simp only [List.getElem_cons_succ]); (try simp only [List.getElem_cons_zero]); (try simp only [Act.put]); (try simp only [List.setIfInBounds_toArray]); (try simp only [List.set_cons_succ]); (try simp only [List.set_cons_zero]))
    refine wpAnyH_take (i := 8) (v := ?qvu25) rfl (by kernel_rfl) (by kernel_rfl) (by kernel_rfl) (fun _ _ _ h => h) (Or.inl ⟨by rfl, ?qyu25⟩) (by assumption) ?qru25; case qyu25 => ((intro w hSw; (try dsimp only at hSw); go_simp); try (with_reducible rfl))
    ((try simp only [List.getElem_toArray]); (try simp only [List.getElem_cons_succ]); (try simp only [List.getElem_cons_zero]); (try simp only [Act.put]); (try simp only [List.setIfInBounds_toArray]); (try simp only [List.set_cons_succ]); (try simp only [List.set_cons_zero]))
    refine wpAnyH_take (i := 9) (v := ?qvu26) rfl (by kernel_rfl) (by kernel_rfl) (by kernel_rfl) (fun _ _ _ h => h) (Or.inl ⟨by rfl, ?qyu26⟩) (by assumption) ?qru26; case qyu26 => ((intro w hSw; (try dsimp only at hSw); go_simp); try (with_reducible rfl))
    ((try simp only [List.getElem_toArray]); (try simp only [List.getElem_cons_succ]); (try simp only [List.getElem_cons_zero]); (try simp only [Act.put]); (try simp only [List.setIfInBounds_toArray]); (try simp only [List.set_cons_succ]); (try simp only [List.set_cons_zero]))
    refine wpAnyH_take (i := 10) (v := ?qvu27) rfl (by kernel_rfl) (by kernel_rfl) (by kernel_rfl) (fun _ _ _ h => h) (Or.inl ⟨by rfl, ?qyu27⟩) (by assumption) ?qru27; case qyu27 => ((intro w hSw; (try dsimp only at hSw); go_simp); try (with_reducible rfl))
    ((try simp only [List.getElem_toArray]); (try simp only [List.getElem_cons_succ]); (try simp only [List.getElem_cons_zero]); (try simp only [Act.put]); (try simp only [List.setIfInBounds_toArray]); (try simp only [List.set_cons_succ]); (try simp only [List.set_cons_zero]))
    refine wpAnyH_take (i := 11) (v := ?qvu28) rfl (by kernel_rfl) (by kernel_rfl) (by kernel_rfl) (fun _ _ _ h => h) (Or.inl ⟨by rfl, ?qyu28⟩) (by assumption) ?qru28; case qyu28 => ((intro w hSw; (try dsimp only at hSw); go_simp); try (with_reducible rfl))
    ((try simp only [List.getElem_toArray]); (try simp only [List.getElem_cons_succ]); (try simp only [List.getElem_cons_zero]); (try simp only [Act.put]); (try simp only [List.setIfInBounds_toArray]); (try simp only [List.set_cons_succ]); (try simp only [List.set_cons_zero]))
    refine wpAnyH_take (i := 12) (v := ?qvu29) rfl (by kernel_rfl) (by kernel_rfl) (by kernel_rfl) (fun _ _ _ h => h) (Or.inl ⟨by rfl, ?qyu29⟩) (by assumption) ?qru29; case qyu29 => ((intro w hSw; (try dsimp only at hSw); go_simp); try (with_reducible rfl))
    ((try simp only [List.getElem_toArray]); (try simp only [List.getElem_cons_succ]); (try simp only [List.getElem_cons_zero]); (try simp only [Act.put]); (try simp only [List.setIfInBounds_toArray]); (try simp only [List.set_cons_succ]); (try simp only [List.set_cons_zero]))
    refine wpAnyH_done (by kernel_rfl) ?_ _
    obtain ⟨i0, hi0, _⟩ := info_parts (show (Try.prog.info? 69).map (fun i => (i.zero, i.size, i.bytes)) = _ from rfl)
    obtain ⟨L', R0, e0, rfl, hL, hR⟩ := hF
    obtain rfl : b = true := by
      cases b
      · rw [if_neg (by simp)] at hR
        have hx : x ∈ L' ++ R0 := by rw [← e0]; simp
        rcases List.mem_append.1 hx with hx | hx
        · have := hL x hx; omega
        · have := hR x hx; omega
      · rfl
    obtain ⟨x', R', rfl, et⟩ : ∃ x' R', R0 = x' :: R' ∧ x'.t = x.t := hR
    obtain ⟨rfl, rfl, rfl⟩ := ris_split H.out.up e0 et.symm
    have K2 := kd.trans k2
    have H2 := Lib.hid (H.out.same K2)
    obtain ⟨g, eA⟩ : ∃ g, A = some ⟨g, 0, none⟩ := by
      rcases H2.out.ow.form with ⟨_, h2⟩ | ⟨g, c, h1, _⟩
      · simp at h2
      · cases h1; exact ⟨g, rfl⟩
    subst eA
    have cp := H2.out.ow.cell L.length (by simp)
    have cp : w2.cell? ⟨g, L.length, none⟩ = some (.pointer (some ⟨x.b, 0, none⟩)) := by rw [cp]; simp [ptrV]
    have cq2 := hHeld.1
    have li : L.length < n := by rw [← EN.out]; simp
    have li' : (L.length : Int) < (n : Int) := by omega
    have qn : ∀ w, (binOp .neq 60 (.pointer (some ⟨x.b, 0, none⟩)) (.pointer (some ⟨x.b, 0, none⟩))).run Try.prog w = .ok (.bool false) w := fun w => Lib.run_neq_ptr_same w ⟨x.b, 0, none⟩ Try.underlying60 hi0
    have kd2 := (Keep.refl (fun _ => False) w2).drew
    have K3 := K2.trans kd2
    have H3 := Lib.hid (H2.out.same kd2)
    have up' := ris_drop H.out.up
    have hnl : R.length + 1 + L.length = n := by rw [← EN.out]; simp; omega
    have p1 := take_lies H3.out.ow L.length (by simp)
    rw [show ((L ++ x :: R).map Ta.b).take L.length = L.map Ta.b by simp] at p1
    have eR : ((L ++ x :: R).map Ta.b).drop (L.length + 1) = R.map Ta.b := by rw [show L ++ x :: R = (L ++ [x]) ++ R by simp, List.map_append, List.drop_left' (by simp)]
    have KF : Keep (FootM m q (.slice (some ⟨g, 0, none⟩) n c) (L ++ x :: R)) w w2.drew := K3.mono (fun _ e => e.elim)
    have CSW := Lib.hid <| fun (w' W : World) (q' : Nat) (v' : Value) (tk : Took w2.drew w' q' v' ((L ++ R).map Ta.b)) (eW : w'.setCell ⟨q', 0, none⟩ v' = W) => tk.swap H3.out eW (v0 := .slice (some ⟨g, 0, none⟩) n c) (ts := L ++ x :: R) (fun k hk => .inl hk) KF up' (fun y hy => by rcases List.mem_append.1 hy with hy | hy <;> simp [hy]) hn rfl
    have el : (L.map Ta.b ++ R.map Ta.b).length ≤ 100000 := by simp; omega
    have em : L.map Ta.b ++ R.map Ta.b = (L ++ R).map Ta.b := by simp
    have wi : IntKind.i64.wrap ((L.length : Int) + 1) = ((L.length + 1 : Nat) : Int) := (IntWalk.i64_in _ (by omega)).trans (by omega)
    obtain ⟨i, ei⟩ : ∃ i, L.length = i := ⟨_, rfl⟩
    rw [ei] at wi cp li li' hnl p1
    rw [ei] at eR
    rw [ei]
    by_cases hcl : c = i + 1
    · subst hcl
      have hii : (i : Int) ≤ (i : Int) + 1 := by omega
      have hii2 : i ≤ i + 1 := by omega
      have hii3 : (0 : Int) ≤ (i : Int) + 1 := by omega
      obtain rfl : R = [] := List.length_eq_zero_iff.1 (by omega)
      obtain rfl : n = i + 1 := by simp at hnl; omega
      have p3 : LiesN w2.drew (.slice (some ⟨g, 0, none⟩) 0 0) ([].map Ta.b) := .inr ⟨⟨g, 0, none⟩, 0, rfl, fun j b hb => by simp at hb⟩
      have P1 := Lib.hid p1
      have P3 := Lib.hid p3
      have EL := Lib.hid el
      have EM := Lib.hid em
      clear p1 p3 el em eR e0 et hL hHeld up' KF ei hnl li li' hc
      have QL := Lib.hid (show q < w2.drew.heap.size from H3.out.bx.lt)
      have cqd : w2.drew.cell? ⟨q, 0, none⟩ = some (.slice (some ⟨g, 0, none⟩) (i + 1) (i + 1)) := cq2
      go_wp2_with fail
      refine wp_region_held_drew (S := fun w' => w'.cell? ⟨q, 0, none⟩ = some (.slice (some ⟨g, 0, none⟩) (i + 1) (i + 1))) (by kernel_rfl) cqd (fun hHeld => ?_)
      refine wpAnyH_take (i := 0) (v := ?qvu30) rfl (by kernel_rfl) (by kernel_rfl) (by kernel_rfl) (fun _ _ _ h => h) (Or.inl ⟨by rfl, ?qyu30⟩) (by assumption) ?qru30; case qyu30 => ((intro w hSw; (try dsimp only at hSw); go_simp); try (with_reducible rfl))
      ((try simp only [List.getElem_toArray]); (try simp only [List.getElem_cons_succ]); (try simp only [List.getElem_cons_zero]); (try simp only [Act.put]); (try simp only [List.setIfInBounds_toArray]); (try simp only [List.set_cons_succ]); (try simp only [List.set_cons_zero]))
      refine wpAnyH_take (i := 1) (v := ?qvu31) rfl (by kernel_rfl) (by kernel_rfl) (by kernel_rfl) (fun _ _ _ h => h) (Or.inl ⟨by rfl, ?qyu31⟩) (by assumption) ?qru31; case qyu31 => ((intro w hSw; (try dsimp only at hSw); go_simp); try (with_reducible rfl))
      ((try simp only [List.getElem_toArray]); (try simp only [List.getElem_cons_succ]); (try simp only [List.getElem_cons_zero]); (try simp only [Act.put]); (try simp only [List.setIfInBounds_toArray]); (try simp only [List.set_cons_succ]); (try simp only [List.set_cons_zero]))
      refine wpAnyH_take (i := 2) (v := ?qvu32) rfl (by kernel_rfl) (by kernel_rfl) (by kernel_rfl) (fun _ _ _ h => h) (Or.inl ⟨by rfl, ?qyu32⟩) (by assumption) ?qru32; case qyu32 => ((intro w hSw; (try dsimp only at hSw); go_simp); try (with_reducible rfl))
      ((try simp only [List.getElem_toArray]); (try simp only [List.getElem_cons_succ]); (try simp only [List.getElem_cons_zero]); (try simp only [Act.put]); (try simp only [List.setIfInBounds_toArray]); (try simp only [List.set_cons_succ]); (try simp only [List.set_cons_zero]))
      refine wpAnyH_take (i := 3) (v := ?qvu33) rfl (by kernel_rfl) (by kernel_rfl) (by kernel_rfl) (fun _ _ _ h => h) (Or.inl ⟨by rfl, ?qyu33⟩) (by assumption) ?qru33; case qyu33 => ((intro w hSw; (try dsimp only at hSw); go_simp); try (with_reducible rfl))
      ((try simp only [List.getElem_toArray]); (try simp only [List.getElem_cons_succ]); (try simp only [List.getElem_cons_zero]); (try simp only [Act.put]); (try simp only [List.setIfInBounds_toArray]); (try simp only [List.set_cons_succ]); (try simp only [List.set_cons_zero]))
      refine wpAnyH_take (i := 4) (v := ?qvu34) rfl (by kernel_rfl) (by kernel_rfl) (by kernel_rfl) (fun _ _ _ h => h) (Or.inl ⟨by rfl, ?qyu34⟩) (by assumption) ?qru34; case qyu34 => ((intro w hSw; (try dsimp only at hSw); go_simp); try (with_reducible rfl))
      ((try simp only [List.getElem_toArray]); (try simp only [List.getElem_cons_succ]); (try simp only [List.getElem_cons_zero]); (try simp only [Act.put]); (try simp only [List.setIfInBounds_toArray]); (try simp only [List.set_cons_succ]); (try simp only [List.set_cons_zero]))
      refine wpAnyH_take (i := 5) (v := ?qvu35) rfl (by kernel_rfl) (by kernel_rfl) (by kernel_rfl) (fun _ _ _ h => h) (Or.inl ⟨by rfl, ?qyu35⟩) (by assumption) ?qru35; case qyu35 => ((intro w hSw; (try dsimp only at hSw); go_simp); try (with_reducible rfl))
      ((try simp only [List.getElem_toArray]); (try simp only [List.getElem_cons_succ]); (try simp only [List.getElem_cons_zero]); (try simp only [Act.put]); (try simp only [List.setIfInBounds_toArray]); (try simp only [List.set_cons_succ]); (try simp only [List.set_cons_zero]))
      refine wpAnyH_take (i := 6) (v := ?qvu36) rfl (by kernel_rfl) (by kernel_rfl) (by kernel_rfl) (fun _ _ _ h => h) (Or.inl ⟨by rfl, ?qyu36⟩) (by assumption) ?qru36; case qyu36 => ((intro w hSw; (try dsimp only at hSw); go_simp); try (with_reducible rfl))
      ((try simp only [List.getElem_toArray]); (try simp only [List.getElem_cons_succ]); (try simp only [List.getElem_cons_zero]); (try simp only [Act.put]); (try simp only [List.setIfInBounds_toArray]); (try simp only [List.set_cons_succ]); (try simp only [List.set_cons_zero]))
      refine wpAnyH_take (i := 7) (v := ?qvu37) rfl (by kernel_rfl) (by kernel_rfl) (by kernel_rfl) (fun _ _ _ h => h) (Or.inl ⟨by rfl, ?qyu37⟩) (by assumption) ?qru37; case qyu37 => ((intro w hSw; (try dsimp only at hSw); go_simp); try (with_reducible rfl))
      ((try simp only [List.getElem_toArray]); (try simp only [List.getElem_cons_succ]); (try simp only [List.getElem_cons_zero]); (try simp only [Act.put]); (try simp only [List.setIfInBounds_toArray]); (try simp only [List.set_cons_succ]); (try simp only [List.set_cons_zero]))
      refine wpAnyH_take (i := 8) (v := ?qvu38) rfl (by kernel_rfl) (by kernel_rfl) (by kernel_rfl) (fun _ _ _ h => h) (Or.inl ⟨by rfl, ?qyu38⟩) (by assumption) ?qru38; case qyu38 => ((intro w hSw; (try dsimp only at hSw); go_simp); try (with_reducible rfl))
      ((try simp only [List.getElem_toArray]); (try simp only [List.getElem_cons_succ]); (try simp only [List.getElem_cons_zero]); (try simp only [Act.put]); (try simp only [List.setIfInBounds_toArray]); (try simp only [List.set_cons_succ]); (try simp only [List.set_cons_zero]))
      refine wpAnyH_take (i := 9) (v := ?qvu39) rfl (by kernel_rfl) (by kernel_rfl) (by kernel_rfl) (fun _ _ _ h => h) (Or.inl ⟨by rfl, ?qyu39⟩) (by assumption) ?qru39; case qyu39 => ((intro w hSw; (try dsimp only at hSw); go_simp); try (with_reducible rfl))
      ((try simp only [List.getElem_toArray]); (try simp only [List.getElem_cons_succ]); (try simp only [List.getElem_cons_zero]); (try simp only [Act.put]); (try simp only [List.setIfInBounds_toArray]); (try simp only [List.set_cons_succ]); (try simp only [List.set_cons_zero]))
      refine wpAnyH_take (i := 10) (v := ?qvu40) rfl (by kernel_rfl) (by kernel_rfl) (by kernel_rfl) (fun _ _ _ h => h) (Or.inl ⟨by rfl, ?qyu40⟩) (by assumption) ?qru40; case qyu40 => ((intro w hSw; (try dsimp only at hSw); go_simp); try (with_reducible rfl))
      ((try simp only [List.getElem_toArray]); (try simp only [List.getElem_cons_succ]); (try simp only [List.getElem_cons_zero]); (try simp only [Act.put]); (try simp only [List.setIfInBounds_toArray]); (try simp only [List.set_cons_succ]); (try simp only [List.set_cons_zero]))
      have hHd := hHeld
      refine wpAnyH_ready (rs := [11, 13]) (by kernel_rfl) (by simp) ?_
      refine AllReadyH.cons rfl (fun K hK => ?_) (AllReadyH.cons rfl (fun K hK => ?_) AllReadyH.nil)
      · go_simp
        refine hK.out _ _ (((Keep.refl (fun _ => False) _).alloc _).cell hHeld id) (fun hHeld => ?_)
        clear hK K
        ((try simp only [List.getElem_toArray]); (try simp only [List.getElem_cons_succ]); (try simp only [List.getElem_cons_zero]); (try simp only [Act.put]); (try simp only [List.setIfInBounds_toArray]); (try simp only [List.set_cons_succ]); (try simp only [List.set_cons_zero]))
        refine wpAnyH_ready (rs := [12, 13]) (by kernel_rfl) (by simp) ?_
        refine AllReadyH.cons rfl (fun K hK => ?_) (AllReadyH.cons rfl (fun K hK => ?_) AllReadyH.nil)
        · go_simp
          refine (cat2 P1.out P3.out EL.out (Keep.refl _ _) w2.heap.size rfl).mono ?_
          rintro e y6 ⟨A6, n6, c6, rfl, o6, k6⟩
          rw [EM.out] at o6
          have tk := took_1 ((Keep.refl _ w2.drew).alloc _) o6 k6
          refine hK.out _ _ (k6.cell hHeld id) (fun hHeld => ?_)
          clear hK K
          ((try simp only [List.getElem_toArray]); (try simp only [List.getElem_cons_succ]); (try simp only [List.getElem_cons_zero]); (try simp only [Act.put]); (try simp only [List.setIfInBounds_toArray]); (try simp only [List.set_cons_succ]); (try simp only [List.set_cons_zero]))
          refine wpAnyH_ready (rs := [13]) (by kernel_rfl) (by simp) ?_
          refine AllReadyH.cons rfl (fun K hK => ?_) AllReadyH.nil
          go_simp
          refine hK.out _ _ (((Keep.refl (fun _ => False) _).alloc _).cell hHeld id) (fun hHeld => ?_)
          clear hK K
          ((try simp only [List.getElem_toArray]); (try simp only [List.getElem_cons_succ]); (try simp only [List.getElem_cons_zero]); (try simp only [Act.put]); (try simp only [List.setIfInBounds_toArray]); (try simp only [List.set_cons_succ]); (try simp only [List.set_cons_zero]))
          refine wpAnyH_ready (rs := [14]) (by kernel_rfl) (by simp) ?_
          refine AllReadyH.cons rfl (fun K hK => ?_) AllReadyH.nil
          go_simp
          refine hK.out _ _ (((Keep.refl (fun _ => False) _).alloc _).cell (k6.cell (((Keep.refl (fun _ => False) _).alloc _).cell hHd id) id) id) (fun hHeld => ?_)
          clear hK K
          ((try simp only [List.getElem_toArray]); (try simp only [List.getElem_cons_succ]); (try simp only [List.getElem_cons_zero]); (try simp only [Act.put]); (try simp only [List.setIfInBounds_toArray]); (try simp only [List.set_cons_succ]); (try simp only [List.set_cons_zero]))
          refine wpAnyH_done (by kernel_rfl) ?_ _
          go_wp2_with fail
          refine (CSW.out (y6.alloc (.cells #[.slice none 0 0] 56)) (y6.alloc (.cells #[.slice A6 n6 c6] 56)) y6.heap.size (.slice A6 n6 c6) tk (by rw [World.setCell_alloc_new]; rfl)).mono ?_
          rintro e w9 ⟨rfl, FN⟩
          go_wp2
          refine bodyPost_ret (results_none rfl _ _ _) rfl ?_
          exact ⟨rfl, FN⟩
        · go_simp
          refine hK.out _ _ (((Keep.refl (fun _ => False) _).alloc _).cell hHeld id) (fun hHeld => ?_)
          clear hK K
          ((try simp only [List.getElem_toArray]); (try simp only [List.getElem_cons_succ]); (try simp only [List.getElem_cons_zero]); (try simp only [Act.put]); (try simp only [List.setIfInBounds_toArray]); (try simp only [List.set_cons_succ]); (try simp only [List.set_cons_zero]))
          refine wpAnyH_ready (rs := [12]) (by kernel_rfl) (by simp) ?_
          refine AllReadyH.cons rfl (fun K hK => ?_) AllReadyH.nil
          go_simp
          refine (cat2 P1.out P3.out EL.out ((Keep.refl _ _).alloc _) w2.heap.size rfl).mono ?_
          rintro e y6 ⟨A6, n6, c6, rfl, o6, k6⟩
          rw [EM.out] at o6
          have tk := took_2 ((Keep.refl _ w2.drew).alloc _) (Keep.refl _ _) o6 k6 (w2.heap.size + 1) (by simp)
          have d6 := tk.bx.cell
          have f6 := tk.bx.free
          refine hK.out _ _ (k6.cell hHeld id) (fun hHeld => ?_)
          clear hK K
          ((try simp only [List.getElem_toArray]); (try simp only [List.getElem_cons_succ]); (try simp only [List.getElem_cons_zero]); (try simp only [Act.put]); (try simp only [List.setIfInBounds_toArray]); (try simp only [List.set_cons_succ]); (try simp only [List.set_cons_zero]))
          refine wpAnyH_ready (rs := [14]) (by kernel_rfl) (by simp) ?_
          refine AllReadyH.cons rfl (fun K hK => ?_) AllReadyH.nil
          go_simp
          refine hK.out _ _ ((keep_one y6 ⟨w2.heap.size + 1, 0, none⟩ _).cell hHeld (fun e => by have e : q = w2.heap.size + 1 := e; have q1 : q < w2.heap.size := QL.out; omega)) (fun hHeld => ?_)
          clear hK K
          ((try simp only [List.getElem_toArray]); (try simp only [List.getElem_cons_succ]); (try simp only [List.getElem_cons_zero]); (try simp only [Act.put]); (try simp only [List.setIfInBounds_toArray]); (try simp only [List.set_cons_succ]); (try simp only [List.set_cons_zero]))
          refine wpAnyH_done (by kernel_rfl) ?_ _
          go_wp2_with fail
          refine (CSW.out _ _ _ _ tk rfl).mono ?_
          rintro e w9 ⟨rfl, FN⟩
          go_wp2
          refine bodyPost_ret (results_none rfl _ _ _) rfl ?_
          exact ⟨rfl, FN⟩
      · go_simp
        refine hK.out _ _ (((Keep.refl (fun _ => False) _).alloc _).cell hHeld id) (fun hHeld => ?_)
        clear hK K
        ((try simp only [List.getElem_toArray]); (try simp only [List.getElem_cons_succ]); (try simp only [List.getElem_cons_zero]); (try simp only [Act.put]); (try simp only [List.setIfInBounds_toArray]); (try simp only [List.set_cons_succ]); (try simp only [List.set_cons_zero]))
        refine wpAnyH_ready (rs := [11]) (by kernel_rfl) (by simp) ?_
        refine AllReadyH.cons rfl (fun K hK => ?_) AllReadyH.nil
        go_simp
        refine hK.out _ _ (((Keep.refl (fun _ => False) _).alloc _).cell hHeld id) (fun hHeld => ?_)
        clear hK K
        ((try simp only [List.getElem_toArray]); (try simp only [List.getElem_cons_succ]); (try simp only [List.getElem_cons_zero]); (try simp only [Act.put]); (try simp only [List.setIfInBounds_toArray]); (try simp only [List.set_cons_succ]); (try simp only [List.set_cons_zero]))
        refine wpAnyH_ready (rs := [12]) (by kernel_rfl) (by simp) ?_
        refine AllReadyH.cons rfl (fun K hK => ?_) AllReadyH.nil
        go_simp
        refine (cat2 (P1.out.same ((Keep.refl _ _).alloc _)) (P3.out.same ((Keep.refl _ _).alloc _)) EL.out (Keep.refl _ _) (w2.heap.size + 1) (by simp)).mono ?_
        rintro e y6 ⟨A6, n6, c6, rfl, o6, k6⟩
        rw [EM.out] at o6
        have tk := took_2 (Keep.refl _ w2.drew) ((Keep.refl _ _).alloc _) o6 k6 w2.heap.size rfl
        have d6 := tk.bx.cell
        have f6 := tk.bx.free
        refine hK.out _ _ (k6.cell hHeld id) (fun hHeld => ?_)
        clear hK K
        ((try simp only [List.getElem_toArray]); (try simp only [List.getElem_cons_succ]); (try simp only [List.getElem_cons_zero]); (try simp only [Act.put]); (try simp only [List.setIfInBounds_toArray]); (try simp only [List.set_cons_succ]); (try simp only [List.set_cons_zero]))
        refine wpAnyH_ready (rs := [14]) (by kernel_rfl) (by simp) ?_
        refine AllReadyH.cons rfl (fun K hK => ?_) AllReadyH.nil
        go_simp
        refine hK.out _ _ ((keep_one y6 ⟨w2.heap.size, 0, none⟩ _).cell hHeld (fun e => by have e : q = w2.heap.size := e; have q1 : q < w2.heap.size := QL.out; omega)) (fun hHeld => ?_)
        clear hK K
        ((try simp only [List.getElem_toArray]); (try simp only [List.getElem_cons_succ]); (try simp only [List.getElem_cons_zero]); (try simp only [Act.put]); (try simp only [List.setIfInBounds_toArray]); (try simp only [List.set_cons_succ]); (try simp only [List.set_cons_zero]))
        refine wpAnyH_done (by kernel_rfl) ?_ _
        go_wp2_with fail
        refine (CSW.out _ _ _ _ tk rfl).mono ?_
        rintro e w9 ⟨rfl, FN⟩
        go_wp2
        refine bodyPost_ret (results_none rfl _ _ _) rfl ?_
        exact ⟨rfl, FN⟩
    · have p3 := drop_lies H3.out.ow (i + 1) (n - (i + 1)) (c - (i + 1)) (ad := ⟨g, i + 1, none⟩) (by rw [eR]; simp; omega) (fun _ => rfl)
      rw [eR] at p3
      have P1 := Lib.hid p1
      have P3 := Lib.hid p3
      have EL := Lib.hid el
      have EM := Lib.hid em
      obtain ⟨j, ej⟩ : ∃ j, i + 1 = j := ⟨_, rfl⟩
      rw [ej] at hcl wi P3
      have hjn : j ≤ n := by omega
      have hic : i ≤ c := by omega
      clear p1 p3 el em eR e0 et hL hHeld up' KF ei ej hnl
      have QL := Lib.hid (show q < w2.drew.heap.size from H3.out.bx.lt)
      have cqd : w2.drew.cell? ⟨q, 0, none⟩ = some (.slice (some ⟨g, 0, none⟩) n c) := cq2
      go_wp2_with fail
      refine wp_region_held_drew (S := fun w' => w'.cell? ⟨q, 0, none⟩ = some (.slice (some ⟨g, 0, none⟩) n c)) (by kernel_rfl) cqd (fun hHeld => ?_)
      refine wpAnyH_take (i := 0) (v := ?qvu41) rfl (by kernel_rfl) (by kernel_rfl) (by kernel_rfl) (fun _ _ _ h => h) (Or.inl ⟨by rfl, ?qyu41⟩) (by assumption) ?qru41; case qyu41 => ((intro w hSw; (try dsimp only at hSw); go_simp); try (with_reducible rfl))
      ((try simp only [List.getElem_toArray]); (try simp only [List.getElem_cons_succ]); (try simp only [List.getElem_cons_zero]); (try simp only [Act.put]); (try simp only [List.setIfInBounds_toArray]); (try simp only [List.set_cons_succ]); (try simp only [List.set_cons_zero]))
      refine wpAnyH_take (i := 1) (v := ?qvu42) rfl (by kernel_rfl) (by kernel_rfl) (by kernel_rfl) (fun _ _ _ h => h) (Or.inl ⟨by rfl, ?qyu42⟩) (by assumption) ?qru42; case qyu42 => ((intro w hSw; (try dsimp only at hSw); go_simp); try (with_reducible rfl))
      ((try simp only [List.getElem_toArray]); (try simp only [List.getElem_cons_succ]); (try simp only [List.getElem_cons_zero]); (try simp only [Act.put]); (try simp only [List.setIfInBounds_toArray]); (try simp only [List.set_cons_succ]); (try simp only [List.set_cons_zero]))
      refine wpAnyH_take (i := 2) (v := ?qvu43) rfl (by kernel_rfl) (by kernel_rfl) (by kernel_rfl) (fun _ _ _ h => h) (Or.inl ⟨by rfl, ?qyu43⟩) (by assumption) ?qru43; case qyu43 => ((intro w hSw; (try dsimp only at hSw); go_simp); try (with_reducible rfl))
      ((try simp only [List.getElem_toArray]); (try simp only [List.getElem_cons_succ]); (try simp only [List.getElem_cons_zero]); (try simp only [Act.put]); (try simp only [List.setIfInBounds_toArray]); (try simp only [List.set_cons_succ]); (try simp only [List.set_cons_zero]))
      refine wpAnyH_take (i := 3) (v := ?qvu44) rfl (by kernel_rfl) (by kernel_rfl) (by kernel_rfl) (fun _ _ _ h => h) (Or.inl ⟨by rfl, ?qyu44⟩) (by assumption) ?qru44; case qyu44 => ((intro w hSw; (try dsimp only at hSw); go_simp); try (with_reducible rfl))
      ((try simp only [List.getElem_toArray]); (try simp only [List.getElem_cons_succ]); (try simp only [List.getElem_cons_zero]); (try simp only [Act.put]); (try simp only [List.setIfInBounds_toArray]); (try simp only [List.set_cons_succ]); (try simp only [List.set_cons_zero]))
      refine wpAnyH_take (i := 4) (v := ?qvu45) rfl (by kernel_rfl) (by kernel_rfl) (by kernel_rfl) (fun _ _ _ h => h) (Or.inl ⟨by rfl, ?qyu45⟩) (by assumption) ?qru45; case qyu45 => ((intro w hSw; (try dsimp only at hSw); go_simp); try (with_reducible rfl))
      ((try simp only [List.getElem_toArray]); (try simp only [List.getElem_cons_succ]); (try simp only [List.getElem_cons_zero]); (try simp only [Act.put]); (try simp only [List.setIfInBounds_toArray]); (try simp only [List.set_cons_succ]); (try simp only [List.set_cons_zero]))
      refine wpAnyH_take (i := 5) (v := ?qvu46) rfl (by kernel_rfl) (by kernel_rfl) (by kernel_rfl) (fun _ _ _ h => h) (Or.inl ⟨by rfl, ?qyu46⟩) (by assumption) ?qru46; case qyu46 => ((intro w hSw; (try dsimp only at hSw); go_simp); try (with_reducible rfl))
      ((try simp only [List.getElem_toArray]); (try simp only [List.getElem_cons_succ]); (try simp only [List.getElem_cons_zero]); (try simp only [Act.put]); (try simp only [List.setIfInBounds_toArray]); (try simp only [List.set_cons_succ]); (try simp only [List.set_cons_zero]))
      refine wpAnyH_take (i := 6) (v := ?qvu47) rfl (by kernel_rfl) (by kernel_rfl) (by kernel_rfl) (fun _ _ _ h => h) (Or.inl ⟨by rfl, ?qyu47⟩) (by assumption) ?qru47; case qyu47 => ((intro w hSw; (try dsimp only at hSw); go_simp); try (with_reducible rfl))
      ((try simp only [List.getElem_toArray]); (try simp only [List.getElem_cons_succ]); (try simp only [List.getElem_cons_zero]); (try simp only [Act.put]); (try simp only [List.setIfInBounds_toArray]); (try simp only [List.set_cons_succ]); (try simp only [List.set_cons_zero]))
      refine wpAnyH_take (i := 7) (v := ?qvu48) rfl (by kernel_rfl) (by kernel_rfl) (by kernel_rfl) (fun _ _ _ h => h) (Or.inl ⟨by rfl, ?qyu48⟩) (by assumption) ?qru48; case qyu48 => ((intro w hSw; (try dsimp only at hSw); go_simp); try (with_reducible rfl))
      ((try simp only [List.getElem_toArray]); (try simp only [List.getElem_cons_succ]); (try simp only [List.getElem_cons_zero]); (try simp only [Act.put]); (try simp only [List.setIfInBounds_toArray]); (try simp only [List.set_cons_succ]); (try simp only [List.set_cons_zero]))
      refine wpAnyH_take (i := 8) (v := ?qvu49) rfl (by kernel_rfl) (by kernel_rfl) (by kernel_rfl) (fun _ _ _ h => h) (Or.inl ⟨by rfl, ?qyu49⟩) (by assumption) ?qru49; case qyu49 => ((intro w hSw; (try dsimp only at hSw); go_simp); try (with_reducible rfl))
      ((try simp only [List.getElem_toArray]); (try simp only [List.getElem_cons_succ]); (try simp only [List.getElem_cons_zero]); (try simp only [Act.put]); (try simp only [List.setIfInBounds_toArray]); (try simp only [List.set_cons_succ]); (try simp only [List.set_cons_zero]))
      refine wpAnyH_take (i := 9) (v := ?qvu50) rfl (by kernel_rfl) (by kernel_rfl) (by kernel_rfl) (fun _ _ _ h => h) (Or.inl ⟨by rfl, ?qyu50⟩) (by assumption) ?qru50; case qyu50 => ((intro w hSw; (try dsimp only at hSw); go_simp); try (with_reducible rfl))
      ((try simp only [List.getElem_toArray]); (try simp only [List.getElem_cons_succ]); (try simp only [List.getElem_cons_zero]); (try simp only [Act.put]); (try simp only [List.setIfInBounds_toArray]); (try simp only [List.set_cons_succ]); (try simp only [List.set_cons_zero]))
      refine wpAnyH_take (i := 10) (v := ?qvu51) rfl (by kernel_rfl) (by kernel_rfl) (by kernel_rfl) (fun _ _ _ h => h) (Or.inl ⟨by rfl, ?qyu51⟩) (by assumption) ?qru51; case qyu51 => ((intro w hSw; (try dsimp only at hSw); go_simp); try (with_reducible rfl))
      ((try simp only [List.getElem_toArray]); (try simp only [List.getElem_cons_succ]); (try simp only [List.getElem_cons_zero]); (try simp only [Act.put]); (try simp only [List.setIfInBounds_toArray]); (try simp only [List.set_cons_succ]); (try simp only [List.set_cons_zero]))
      have hHd := hHeld
      refine wpAnyH_ready (rs := [11, 13]) (by kernel_rfl) (by simp) ?_
      refine AllReadyH.cons rfl (fun K hK => ?_) (AllReadyH.cons rfl (fun K hK => ?_) AllReadyH.nil)
      · go_simp
        refine hK.out _ _ (((Keep.refl (fun _ => False) _).alloc _).cell hHeld id) (fun hHeld => ?_)
        clear hK K
        ((try simp only [List.getElem_toArray]); (try simp only [List.getElem_cons_succ]); (try simp only [List.getElem_cons_zero]); (try simp only [Act.put]); (try simp only [List.setIfInBounds_toArray]); (try simp only [List.set_cons_succ]); (try simp only [List.set_cons_zero]))
        refine wpAnyH_ready (rs := [12, 13]) (by kernel_rfl) (by simp) ?_
        refine AllReadyH.cons rfl (fun K hK => ?_) (AllReadyH.cons rfl (fun K hK => ?_) AllReadyH.nil)
        · go_simp
          refine (cat2 P1.out P3.out EL.out (Keep.refl _ _) w2.heap.size rfl).mono ?_
          rintro e y6 ⟨A6, n6, c6, rfl, o6, k6⟩
          rw [EM.out] at o6
          have tk := took_1 ((Keep.refl _ w2.drew).alloc _) o6 k6
          refine hK.out _ _ (k6.cell hHeld id) (fun hHeld => ?_)
          clear hK K
          ((try simp only [List.getElem_toArray]); (try simp only [List.getElem_cons_succ]); (try simp only [List.getElem_cons_zero]); (try simp only [Act.put]); (try simp only [List.setIfInBounds_toArray]); (try simp only [List.set_cons_succ]); (try simp only [List.set_cons_zero]))
          refine wpAnyH_ready (rs := [13]) (by kernel_rfl) (by simp) ?_
          refine AllReadyH.cons rfl (fun K hK => ?_) AllReadyH.nil
          go_simp
          refine hK.out _ _ (((Keep.refl (fun _ => False) _).alloc _).cell hHeld id) (fun hHeld => ?_)
          clear hK K
          ((try simp only [List.getElem_toArray]); (try simp only [List.getElem_cons_succ]); (try simp only [List.getElem_cons_zero]); (try simp only [Act.put]); (try simp only [List.setIfInBounds_toArray]); (try simp only [List.set_cons_succ]); (try simp only [List.set_cons_zero]))
          refine wpAnyH_ready (rs := [14]) (by kernel_rfl) (by simp) ?_
          refine AllReadyH.cons rfl (fun K hK => ?_) AllReadyH.nil
          go_simp
          refine hK.out _ _ (((Keep.refl (fun _ => False) _).alloc _).cell (k6.cell (((Keep.refl (fun _ => False) _).alloc _).cell hHd id) id) id) (fun hHeld => ?_)
          clear hK K
          ((try simp only [List.getElem_toArray]); (try simp only [List.getElem_cons_succ]); (try simp only [List.getElem_cons_zero]); (try simp only [Act.put]); (try simp only [List.setIfInBounds_toArray]); (try simp only [List.set_cons_succ]); (try simp only [List.set_cons_zero]))
          refine wpAnyH_done (by kernel_rfl) ?_ _
          go_wp2_with fail
          refine (CSW.out (y6.alloc (.cells #[.slice none 0 0] 56)) (y6.alloc (.cells #[.slice A6 n6 c6] 56)) y6.heap.size (.slice A6 n6 c6) tk (by rw [World.setCell_alloc_new]; rfl)).mono ?_
          rintro e w9 ⟨rfl, FN⟩
          go_wp2
          refine bodyPost_ret (results_none rfl _ _ _) rfl ?_
          exact ⟨rfl, FN⟩
        · go_simp
          refine hK.out _ _ (((Keep.refl (fun _ => False) _).alloc _).cell hHeld id) (fun hHeld => ?_)
          clear hK K
          ((try simp only [List.getElem_toArray]); (try simp only [List.getElem_cons_succ]); (try simp only [List.getElem_cons_zero]); (try simp only [Act.put]); (try simp only [List.setIfInBounds_toArray]); (try simp only [List.set_cons_succ]); (try simp only [List.set_cons_zero]))
          refine wpAnyH_ready (rs := [12]) (by kernel_rfl) (by simp) ?_
          refine AllReadyH.cons rfl (fun K hK => ?_) AllReadyH.nil
          go_simp
          refine (cat2 P1.out P3.out EL.out ((Keep.refl _ _).alloc _) w2.heap.size rfl).mono ?_
          rintro e y6 ⟨A6, n6, c6, rfl, o6, k6⟩
          rw [EM.out] at o6
          have tk := took_2 ((Keep.refl _ w2.drew).alloc _) (Keep.refl _ _) o6 k6 (w2.heap.size + 1) (by simp)
          have d6 := tk.bx.cell
          have f6 := tk.bx.free
          refine hK.out _ _ (k6.cell hHeld id) (fun hHeld => ?_)
          clear hK K
          ((try simp only [List.getElem_toArray]); (try simp only [List.getElem_cons_succ]); (try simp only [List.getElem_cons_zero]); (try simp only [Act.put]); (try simp only [List.setIfInBounds_toArray]); (try simp only [List.set_cons_succ]); (try simp only [List.set_cons_zero]))
          refine wpAnyH_ready (rs := [14]) (by kernel_rfl) (by simp) ?_
          refine AllReadyH.cons rfl (fun K hK => ?_) AllReadyH.nil
          go_simp
          refine hK.out _ _ ((keep_one y6 ⟨w2.heap.size + 1, 0, none⟩ _).cell hHeld (fun e => by have e : q = w2.heap.size + 1 := e; have q1 : q < w2.heap.size := QL.out; omega)) (fun hHeld => ?_)
          clear hK K
          ((try simp only [List.getElem_toArray]); (try simp only [List.getElem_cons_succ]); (try simp only [List.getElem_cons_zero]); (try simp only [Act.put]); (try simp only [List.setIfInBounds_toArray]); (try simp only [List.set_cons_succ]); (try simp only [List.set_cons_zero]))
          refine wpAnyH_done (by kernel_rfl) ?_ _
          go_wp2_with fail
          refine (CSW.out _ _ _ _ tk rfl).mono ?_
          rintro e w9 ⟨rfl, FN⟩
          go_wp2
          refine bodyPost_ret (results_none rfl _ _ _) rfl ?_
          exact ⟨rfl, FN⟩
      · go_simp
        refine hK.out _ _ (((Keep.refl (fun _ => False) _).alloc _).cell hHeld id) (fun hHeld => ?_)
        clear hK K
        ((try simp only [List.getElem_toArray]); (try simp only [List.getElem_cons_succ]); (try simp only [List.getElem_cons_zero]); (try simp only [Act.put]); (try simp only [List.setIfInBounds_toArray]); (try simp only [List.set_cons_succ]); (try simp only [List.set_cons_zero]))
        refine wpAnyH_ready (rs := [11]) (by kernel_rfl) (by simp) ?_
        refine AllReadyH.cons rfl (fun K hK => ?_) AllReadyH.nil
        go_simp
        refine hK.out _ _ (((Keep.refl (fun _ => False) _).alloc _).cell hHeld id) (fun hHeld => ?_)
        clear hK K
        ((try simp only [List.getElem_toArray]); (try simp only [List.getElem_cons_succ]); (try simp only [List.getElem_cons_zero]); (try simp only [Act.put]); (try simp only [List.setIfInBounds_toArray]); (try simp only [List.set_cons_succ]); (try simp only [List.set_cons_zero]))
        refine wpAnyH_ready (rs := [12]) (by kernel_rfl) (by simp) ?_
        refine AllReadyH.cons rfl (fun K hK => ?_) AllReadyH.nil
        go_simp
        refine (cat2 (P1.out.same ((Keep.refl _ _).alloc _)) (P3.out.same ((Keep.refl _ _).alloc _)) EL.out (Keep.refl _ _) (w2.heap.size + 1) (by simp)).mono ?_
        rintro e y6 ⟨A6, n6, c6, rfl, o6, k6⟩
        rw [EM.out] at o6
        have tk := took_2 (Keep.refl _ w2.drew) ((Keep.refl _ _).alloc _) o6 k6 w2.heap.size rfl
        have d6 := tk.bx.cell
        have f6 := tk.bx.free
        refine hK.out _ _ (k6.cell hHeld id) (fun hHeld => ?_)
        clear hK K
        ((try simp only [List.getElem_toArray]); (try simp only [List.getElem_cons_succ]); (try simp only [List.getElem_cons_zero]); (try simp only [Act.put]); (try simp only [List.setIfInBounds_toArray]); (try simp only [List.set_cons_succ]); (try simp only [List.set_cons_zero]))
        refine wpAnyH_ready (rs := [14]) (by kernel_rfl) (by simp) ?_
        refine AllReadyH.cons rfl (fun K hK => ?_) AllReadyH.nil
        go_simp
        refine hK.out _ _ ((keep_one y6 ⟨w2.heap.size, 0, none⟩ _).cell hHeld (fun e => by have e : q = w2.heap.size := e; have q1 : q < w2.heap.size := QL.out; omega)) (fun hHeld => ?_)
        clear hK K
        ((try simp only [List.getElem_toArray]); (try simp only [List.getElem_cons_succ]); (try simp only [List.getElem_cons_zero]); (try simp only [Act.put]); (try simp only [List.setIfInBounds_toArray]); (try simp only [List.set_cons_succ]); (try simp only [List.set_cons_zero]))
        refine wpAnyH_done (by kernel_rfl) ?_ _
        go_wp2_with fail
        refine (CSW.out _ _ _ _ tk rfl).mono ?_
        rintro e w9 ⟨rfl, FN⟩
        go_wp2
        refine bodyPost_ret (results_none rfl _ _ _) rfl ?_
        exact ⟨rfl, FN⟩
end
end Go.Proofs.Ytbbinfdgmfmaeaa
