/- Package mark as landed, fifth part: Leave, Low, Len, All; conditions: at most 10,000 tallies, each with a count of 1 to 10,000. -/
import Derived.Test.YtbbinfdgmfmaeaaMkG
namespace Go.Proofs.Ytbbinfdgmfmaeaa
open Go.ChangeShapes Go.WideShapes Go.ChangeAt Go.RowKit
set_option linter.unusedVariables false
set_option linter.unusedSimpArgs false

section
variable {w w' : World} {m q : Nat} {v : Value} {ts : List Ta} {T : Nat → Prop}
theorem MkAt.some_at {A : Option Addr} {n c : Nat} (h : MkAt w m q (.slice A n c) ts) (h0 : 0 < ts.length) : ∃ g, A = some ⟨g, 0, none⟩ := by
  rcases h.ow.form with ⟨_, h2⟩ | ⟨g, c, h1, _⟩
  · rw [List.map_eq_nil_iff.1 h2] at h0; exact absurd h0 (Nat.lt_irrefl 0)
  · cases h1; exact ⟨g, rfl⟩
theorem MkAt.slot {g n c : Nat} (h : MkAt w m q (.slice (some ⟨g, 0, none⟩) n c) ts) (j : Nat) (x : Ta) (hx : ts[j]? = some x) : w.cell? ⟨g, j, none⟩ = some (.pointer (some ⟨x.b, 0, none⟩)) := by
  obtain ⟨lj, e⟩ := List.getElem?_eq_some_iff.1 hx
  rw [h.ow.cell j (by rw [List.length_map]; exact lj), List.getElem_map, e]
  rfl
theorem Went.same (h : MkAt w' m q v ts) (k : Keep (FootM m q v ts) w w') (hn : ∀ x ∈ ts, 1 ≤ x.n) {l : List Int} (hl : spread ts = l) : Went w m q v ts l w' := ⟨q, v, ts, h, hl, hn, k, fun k hk => .inl hk⟩
theorem foot_same {L R : List Ta} {x y : Ta} (e : x.b = y.b) (k : Nat) (hk : FootM m q v (L ++ x :: R) k) : FootM m q v (L ++ y :: R) k := by
  rcases hk with hk | hk | hk | ⟨z, hz, rfl⟩
  · exact .inl hk
  · exact .inr (.inl hk)
  · exact .inr (.inr (.inl hk))
  · rcases List.mem_append.1 hz with hz | hz
    · exact .inr (.inr (.inr ⟨z, by simp [hz], rfl⟩))
    · rcases List.mem_cons.1 hz with rfl | hz
      · exact .inr (.inr (.inr ⟨y, by simp, e.symm⟩))
      · exact .inr (.inr (.inr ⟨z, by simp [hz], rfl⟩))
theorem Went.step {w1 : World} {ts1 : List Ta} {l : List Int} (h : Went w1 m q v ts1 l w') (k : Keep (FootM m q v ts) w w1) (f : ∀ k, FootM m q v ts1 k → FootM m q v ts k) : Went w m q v ts l w' := by
  obtain ⟨q', v', ts', h1, h2, h3, h4, h5⟩ := h
  exact ⟨q', v', ts', h1, h2, h3, k.trans (h4.mono f), fun j hj => by
    rcases h5 j hj with a | a
    · exact .inl (f j a)
    · right; have := k.size; omega⟩
set_option maxRecDepth 100000 in
theorem leave_any (h : MkAt w m q v ts) (hl : ts.length ≤ 10000) (hn : ∀ x ∈ ts, 1 ≤ x.n ∧ x.n ≤ 10000) (t : Int) (r : Bool) (hr : decide (t ∈ spread ts) = r) :
    Calls Try.prog 10 #[.pointer (some ⟨m, 0, none⟩), .int .u64 t] w fun e w' => e = .returned (.bool r) ∧ Went w m q v ts ((spread ts).erase t) w' := by
  obtain ⟨A, c, rfl, hc⟩ := h.lies.cap
  obtain ⟨n, en⟩ : ∃ n, ts.length = n := ⟨_, rfl⟩
  rw [en] at h hl hc ⊢
  have cm := h.cm
  have fm := h.fm
  have H := Lib.hid h
  have EN := Lib.hid en
  have HR := Lib.hid hr
  clear h en hr
  go_enter Try.func10, Try.ntmps10
  go_wp2_with fail
  refine (pload m cm H.out.bx).mono ?_
  rintro e w1 ⟨rfl, rfl⟩
  have cq := H.out.bx.cell
  go_wp2_with fail
  refine (findt_any H.out.lies H.out.up (by rw [EN.out]; omega) t).mono ?_
  rintro e w1 ⟨i, b, rfl, hF, k1⟩
  have H1 := Lib.hid (H.out.same k1)
  have K1 : Keep (FootM m q (.slice A n c) ts) w w1 := k1.mono (fun _ e => e.elim)
  cases b
  · obtain ⟨L0, R0, e0, rfl, hL0, hR0⟩ := hF
    have hR0 : ∀ x ∈ R0, t < x.t := hR0
    have no : t ∉ spread ts := spread_out fun x hx e => by
      rw [e0] at hx
      rcases List.mem_append.1 hx with hx | hx
      · have := hL0 x hx; omega
      · have := hR0 x hx; omega
    obtain rfl : r = false := by rw [← HR.out]; exact decide_eq_false no
    have F := Lib.hid (Went.same H1.out K1 (fun x hx => (hn x hx).1) (List.erase_of_not_mem no).symm)
    clear e0 hL0 hR0 no
    go_wp2
    go_ret
    exact ⟨rfl, F.out⟩
  · obtain ⟨L, R0, e0, rfl, hL, hR⟩ := hF
    obtain ⟨x, R, rfl, rfl⟩ : ∃ x R', R0 = x :: R' ∧ x.t = t := hR
    subst e0
    have xn := hn x (by simp)
    obtain rfl : r = true := by rw [← HR.out]; exact decide_eq_true (spread_in xn.1)
    obtain ⟨g, eA⟩ := H.out.some_at (by simp; omega)
    subst eA
    have cp := H1.out.slot L.length x (by simp)
    have li : L.length < n := by rw [← EN.out]; simp
    have li' : (L.length : Int) < (n : Int) := by omega
    have wn : IntKind.i64.wrap (x.n + -1) = x.n - 1 := (IntWalk.i64_in _ (by omega)).trans (by omega)
    have hch := change_any (H1.out.en x (by simp)) (-1) (by simp; omega) _ wn
    obtain ⟨w2, e2⟩ : ∃ w2, w1.setCell ⟨x.b, 1, none⟩ (.int .i64 (x.n - 1)) = w2 := ⟨_, rfl⟩
    have H2 := H1.out.put (x.n - 1)
    have k2 := keep_one w1 ⟨x.b, 1, none⟩ (.int .i64 (x.n - 1))
    rw [e2] at hch H2 k2
    have cp2 := H2.slot L.length ⟨x.b, x.t, x.n - 1⟩ (by simp)
    have K2 : Keep (FootM m q (.slice (some ⟨g, 0, none⟩) n c) (L ++ x :: R)) w w2 := K1.trans (k2.mono (fun j e => .inr (.inr (.inr ⟨x, by simp, e.symm⟩))))
    have tx := H2.en ⟨x.b, x.t, x.n - 1⟩ (by simp)
    have n1 : ∀ y ∈ L ++ R, 1 ≤ y.n := fun y hy => (hn y (by rcases List.mem_append.1 hy with hy | hy <;> simp [hy])).1
    have len2 : (L ++ (⟨x.b, x.t, x.n - 1⟩ : Ta) :: R).length = n := by rw [← EN.out]; simp
    have sl := spread_less (L := L) (R := R) (x := x) H.out.up xn.1
    by_cases hz : x.n = 1
    · have hs := spent_any tx true (by simp; omega)
      have sz : spread (L ++ (⟨x.b, x.t, x.n - 1⟩ : Ta) :: R) = spread (L ++ R) := spread_zero (by show x.n - 1 = 0; omega)
      have ht := takeout_any H2 (by rw [len2]; exact hl) n1 (by show x.n - 1 = 0; omega)
      rw [← sz, sl] at ht
      have FW := Lib.hid fun (w' : World) (h : Went w2 m q (.slice (some ⟨g, 0, none⟩) n c) (L ++ (⟨x.b, x.t, x.n - 1⟩ : Ta) :: R) ((spread (L ++ x :: R)).erase x.t) w') => h.step K2 (foot_same rfl)
      have HT := Lib.hid ht
      unfold ptrV at hch hs
      clear e2 H2 k2 K1 K2 tx n1 len2 sl sz ht wn xn hz hL hc
      go_wp2_with fail
      refine hch.mono ?_
      rintro e w3 ⟨rfl, rfl⟩
      go_wp2_with fail
      refine hs.mono ?_
      rintro e w3 ⟨rfl, rfl⟩
      go_wp2_with fail
      refine HT.out.mono ?_
      rintro e w3 ⟨rfl, hW⟩
      have F := Lib.hid (FW.out _ hW)
      clear hW
      go_wp2
      go_ret
      exact ⟨rfl, F.out⟩
    · have hs := spent_any tx false (by simp; omega)
      have F := Lib.hid (Went.step (Went.same H2 (Keep.refl _ _) (fun y hy => by
        rcases List.mem_append.1 hy with hy | hy
        · exact n1 y (by simp [hy])
        · rcases List.mem_cons.1 hy with rfl | hy
          · show 1 ≤ x.n - 1; omega
          · exact n1 y (by simp [hy])) sl) K2 (foot_same rfl))
      unfold ptrV at hch hs
      clear e2 H2 k2 K1 K2 tx n1 len2 sl wn xn hz hL hc
      go_wp2_with fail
      refine hch.mono ?_
      rintro e w3 ⟨rfl, rfl⟩
      go_wp2_with fail
      refine hs.mono ?_
      rintro e w3 ⟨rfl, rfl⟩
      go_wp2
      go_ret
      exact ⟨rfl, F.out⟩
theorem low_t (h : LiesT w v ts) (hn : ∀ x ∈ ts, 1 ≤ x.n) (now y : Int) (hy : lowM (spread ts) now = y) :
    Calls Try.prog 24 #[v, .int .u64 now] w fun e w' => e = .returned (.int .u64 y) ∧ Keep (fun _ => False) w w' := by
  obtain ⟨A, c, rfl, hc⟩ := h.cap
  cases ts with
  | nil =>
    obtain rfl : now = y := hy
    simp only [List.length_nil]
    clear h
    go_enter Try.func24, Try.ntmps24
    go_wp2
    go_loopw [9] (fun i wr => i = .int .i64 0 ∧ w = wr) (fun _ _ => 0)
    case atStart => exact ⟨rfl, rfl⟩
    case round =>
      obtain ⟨rfl, rfl⟩ := hrel
      go_wp2
      go_ret
      exact ⟨rfl, Keep.refl _ _⟩
  | cons x l =>
    rw [low_spread (hn x (by simp))] at hy
    obtain ⟨b, off, rfl, cx, tx⟩ := h.get 0 x rfl
    unfold ptrV at cx
    have cx : w.cell? ⟨b, off, none⟩ = some (.pointer (some ⟨x.b, 0, none⟩)) := cx
    have c0 := tx.c0
    have hs := spent_any tx false (by have := hn x (by simp); simp; omega)
    unfold ptrV at hs
    have hp : (0 : Int) < (((x :: l).length : Nat) : Int) := by simp only [List.length_cons]; omega
    obtain ⟨n, en⟩ : ∃ n, (x :: l).length = n := ⟨_, rfl⟩
    rw [en] at hp hc ⊢
    have hp2 : 0 < n := by omega
    clear h en hn tx
    go_enter Try.func24, Try.ntmps24
    go_wp2
    go_loopw [6, 9] (fun _ i wr => i = .int .i64 0 ∧ w = wr) (fun _ _ _ => 0)
    case atStart => exact ⟨rfl, rfl⟩
    case round =>
      obtain ⟨rfl, rfl⟩ := hrel
      go_wp2_with fail
      refine hs.mono ?_
      rintro e w1 ⟨rfl, rfl⟩
      go_wp2
      go_ret
      exact ⟨by rw [← hy]; rfl, Keep.refl _ _⟩
theorem low_any (h : MkAt w m q v ts) (hn : ∀ x ∈ ts, 1 ≤ x.n) (now y : Int) (hy : lowM (spread ts) now = y) :
    Calls Try.prog 9 #[.pointer (some ⟨m, 0, none⟩), .int .u64 now] w fun e w' => e = .returned (.int .u64 y) ∧ Keep (fun _ => False) w w' := by
  obtain ⟨A, n, c, rfl⟩ := h.slice
  have H := Lib.hid h
  have cm := h.cm
  have cq := h.bx.cell
  have hs := low_t h.lies hn now y hy
  obtain ⟨i0, hi0, _⟩ := info_parts (show (Try.prog.info? 56).map (fun i => (i.zero, i.size, i.bytes)) = _ from rfl)
  have qe : ∀ w, (binOp .eql 45 (.pointer (some ⟨q, 0, none⟩)) (.pointer (some ⟨q, 0, none⟩))).run Try.prog w = .ok (.bool true) w := fun w => run_eql_ptr_same w ⟨q, 0, none⟩ Try.underlying45 hi0
  clear h hn hy
  go_enter Try.func9, Try.ntmps9
  go_wp2
  go_loopw [5, 6] (fun _ _ wr => w = wr) (fun _ _ _ => 0)
  case atStart => rfl
  case round =>
    obtain rfl := hrel
    go_wp2_with fail
    refine (pload m cm H.out.bx).mono ?_
    rintro e w1 ⟨rfl, rfl⟩
    go_wp2_with fail
    refine hs.mono ?_
    rintro e w1 ⟨rfl, k1⟩
    go_wp2_with fail
    refine (pload m (k1.cell cm id) (H.out.same k1).bx).mono ?_
    rintro e w1 ⟨rfl, rfl⟩
    go_wp2
    go_ret
    exact ⟨rfl, k1⟩
end
end Go.Proofs.Ytbbinfdgmfmaeaa
