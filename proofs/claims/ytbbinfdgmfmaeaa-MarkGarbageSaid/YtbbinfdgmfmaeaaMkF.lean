/- Package mark as landed, third part: Marks in memory; New, Enter, takeOut, Leave, Low, Len, All; conditions: at most 10,000 tallies, each with a count of 1 to 10,000. -/
import Derived.Test.YtbbinfdgmfmaeaaMkW
import Derived.Test.YtbbinfdgmfmaeaaPush
import Derived.LaidEqlPtr
namespace Go.Proofs.Ytbbinfdgmfmaeaa
open Go.ChangeShapes Go.WideShapes Go.ChangeAt Go.RowKit
set_option linter.unusedVariables false
set_option linter.unusedSimpArgs false

/-- Marks m in memory: they lead to the list v in block q, which leads to the tallies. -/
structure MkAt (w : World) (m q : Nat) (v : Value) (ts : List Ta) : Prop where
  cm : w.cell? ⟨m, 0, none⟩ = some (.pointer (some ⟨q, 0, none⟩))
  fm : w.frozen? ⟨m, 0, none⟩ = false
  bx : BoxL w q v
  ow : Own ptrV 60 w v (ts.map Ta.b)
  en : ∀ x ∈ ts, TaAt w x
  up : RisT ts
  gv : v.ownBlock ≠ some m
/-- Their blocks. -/
def FootM (m q : Nat) (v : Value) (ts : List Ta) (k : Nat) : Prop := k = m ∨ k = q ∨ v.ownBlock = some k ∨ ∃ x ∈ ts, x.b = k
section
variable {w w' : World} {m q : Nat} {v : Value} {ts : List Ta} {T : Nat → Prop}
theorem MkAt.slice (h : MkAt w m q v ts) : ∃ A n c, v = .slice A n c := by
  rcases h.ow.form with ⟨h1, _⟩ | ⟨g, c, h1, _⟩ <;> exact ⟨_, _, _, h1⟩
theorem MkAt.lies (h : MkAt w m q v ts) : LiesT w v ts := lies_of h.ow h.en
theorem MkAt.mlt (h : MkAt w m q v ts) : m < w.heap.size := lt_of_cell (a := ⟨m, 0, none⟩) h.cm
theorem MkAt.lt (h : MkAt w m q v ts) (k : Nat) (hk : FootM m q v ts k) : k < w.heap.size := by
  rcases hk with rfl | rfl | hk | ⟨x, hx, rfl⟩
  · exact h.mlt
  · exact h.bx.lt
  · exact h.ow.lt hk
  · exact (h.en x hx).lt
theorem MkAt.keep (h : MkAt w m q v ts) (k : Keep T w w') (hn : ∀ g, FootM m q v ts g → ¬ T g) : MkAt w' m q v ts :=
  ⟨k.cell h.cm (hn _ (.inl rfl)), (k.frozen (a := ⟨m, 0, none⟩) h.mlt (hn _ (.inl rfl))).trans h.fm, h.bx.keep k (hn _ (.inr (.inl rfl))), h.ow.keep k (fun g hg => hn g (.inr (.inr (.inl hg)))), fun x hx => (h.en x hx).keep k (hn _ (.inr (.inr (.inr ⟨x, hx, rfl⟩)))), h.up, h.gv⟩
theorem MkAt.same (h : MkAt w m q v ts) (k : Keep (fun _ => False) w w') : MkAt w' m q v ts := h.keep k (fun _ _ => id)
theorem MkAt.nq (h : MkAt w m q v ts) : m ≠ q := fun e => by
  obtain ⟨A, n, c, ev⟩ := h.slice
  have := h.bx.cell
  rw [← e, h.cm, ev] at this
  cases this
theorem MkAt.nb (h : MkAt w m q v ts) {x : Ta} (hx : x ∈ ts) : x.b ≠ m ∧ x.b ≠ q ∧ v.ownBlock ≠ some x.b := by
  have c0 := (h.en x hx).c0
  refine ⟨fun e => ?_, fun e => ?_, fun e => ?_⟩
  · rw [e, h.cm] at c0; cases c0
  · obtain ⟨A, n, c, ev⟩ := h.slice
    rw [e, h.bx.cell, ev] at c0; cases c0
  · rcases h.ow.form with ⟨rfl, _⟩ | ⟨g, c, rfl, _⟩
    · cases e
    · have e : g = x.b := by simpa [Value.ownBlock] using e
      have h0 : 0 < (ts.map Ta.b).length := by rw [List.length_map]; exact List.length_pos_of_mem hx
      have := h.ow.cell 0 h0
      rw [e, c0] at this; cases this
theorem ris_b {L R : List Ta} {x : Ta} (hr : RisT (L ++ x :: R)) (h : ∀ y ∈ L ++ x :: R, TaAt w y) : ∀ y ∈ L ++ R, y.b ≠ x.b := by
  intro y hy e
  have hx := h x (by simp)
  have hy' : TaAt w y := h y (by rcases List.mem_append.1 hy with hy | hy <;> simp [hy])
  have c := hy'.c0
  rw [e, hx.c0] at c
  have : x.t = y.t := by simpa using c
  obtain ⟨_, h2, h3⟩ := ris_app.1 hr
  rcases List.mem_append.1 hy with hy | hy
  · have := h3 y hy x (by simp); omega
  · have := h2.1 y hy; omega
/-- One tally counts otherwise. -/
theorem MkAt.put {L R : List Ta} {x : Ta} (h : MkAt w m q v (L ++ x :: R)) (n : Int) : MkAt (w.setCell ⟨x.b, 1, none⟩ (.int .i64 n)) m q v (L ++ ⟨x.b, x.t, n⟩ :: R) := by
  have k := keep_one w ⟨x.b, 1, none⟩ (.int .i64 n)
  have nb := h.nb (x := x) (by simp)
  refine ⟨k.cell h.cm (fun e => nb.1 e.symm), (k.frozen (a := ⟨m, 0, none⟩) h.mlt (fun e => nb.1 e.symm)).trans h.fm, h.bx.keep k (fun e => nb.2.1 e.symm), ?_, fun y hy => ?_, ris_same h.up rfl, h.gv⟩
  · have := h.ow.keep k (fun g hg (e : g = x.b) => nb.2.2 (by rw [hg, e]))
    simpa using this
  · have hb := ris_b h.up h.en
    rcases List.mem_append.1 hy with hy | hy
    · exact (h.en y (by simp [hy])).keep k (hb y (by simp [hy]))
    · rcases List.mem_cons.1 hy with rfl | hy
      · exact (h.en x (by simp)).put n
      · exact (h.en y (by simp [hy])).keep k (hb y (by simp [hy]))
/-- Another list takes its place. -/
theorem MkAt.swap (h : MkAt w m q v ts) (k : Keep (fun _ => False) w w') {q' : Nat} {v' : Value} {ts' : List Ta} (bx : BoxL w' q' v') (ow : OwnAt w.heap.size ptrV 60 w' v' (ts'.map Ta.b)) (en : ∀ x ∈ ts', TaAt w' x) (up : RisT ts') :
    MkAt (w'.setCell ⟨m, 0, none⟩ (.pointer (some ⟨q', 0, none⟩))) m q' v' ts' := by
  have k1 := keep_one w' ⟨m, 0, none⟩ (.pointer (some ⟨q', 0, none⟩))
  have cm := k.cell h.cm id
  have ow' : Own ptrV 60 w' v' (ts'.map Ta.b) := Own.of_base ow (by simp) rfl
  have gv : ∀ g, v'.ownBlock = some g → g ≠ m := fun g hg e => by have := (World.ownsRow.lt ow g hg).1; have := h.mlt; omega
  refine ⟨World.cell?_setCell_same _ _ _ cm, ?_, bx.keep k1 (fun e => ?_), ow'.keep k1 (fun g hg e => gv g hg e), fun x hx => (en x hx).keep k1 (fun e => ?_), up, fun e => gv m e rfl⟩
  · rw [World.frozen?_setCell]; exact (k.frozen (a := ⟨m, 0, none⟩) h.mlt id).trans h.fm
  · obtain ⟨A, n, c, ev⟩ : ∃ A n c, v' = .slice A n c := by rcases ow'.form with ⟨h1, _⟩ | ⟨g, c, h1, _⟩ <;> exact ⟨_, _, _, h1⟩
    have := bx.cell
    rw [show q' = m from e, cm, ev] at this
    cases this
  · have := (en x hx).c0
    rw [show x.b = m from e, cm] at this
    cases this
theorem marks_new (w : World) : Calls Try.prog 7 #[] w fun e w' => ∃ m q v, e = .returned (.pointer (some ⟨m, 0, none⟩)) ∧ MkAt w' m q v [] ∧ Keep (fun _ => False) w w' ∧ ∀ k, FootM m q v [] k → w.heap.size ≤ k := by
  obtain ⟨w1, e1⟩ : ∃ w1, w.alloc (.cells #[.pointer none] 53) = w1 := ⟨_, rfl⟩
  have s1 : w1.heap.size = w.heap.size + 1 := by rw [← e1]; simp
  have k1 : Keep (fun _ => False) w w1 := by rw [← e1]; exact (Keep.refl _ _).alloc _
  have c1 : w1.cell? ⟨w.heap.size, 0, none⟩ = some (.pointer none) := by rw [← e1]; simp
  have f1 : w1.frozen? ⟨w.heap.size, 0, none⟩ = false := by rw [← e1]; simp
  obtain ⟨w2, e2⟩ : ∃ w2, w1.alloc (.cells #[] 60) = w2 := ⟨_, rfl⟩
  have s2 : w2.heap.size = w.heap.size + 1 + 1 := by rw [← e2]; simp [s1]
  have k2 : Keep (fun _ => False) w1 w2 := by rw [← e2]; exact (Keep.refl _ _).alloc _
  have o2 : OwnAt (α := Nat) 0 ptrV 60 w2 (.slice (some ⟨w.heap.size + 1, 0, none⟩) 0 0) [] := by
    rw [← e2, ← s1]
    exact World.ownsRow_lit w1 #[] 0 (Nat.zero_le _) (by unfold maxLen; omega) rfl
  obtain ⟨w3, e3⟩ : ∃ w3, w2.alloc (.cells #[.slice (some ⟨w.heap.size + 1, 0, none⟩) 0 0] 56) = w3 := ⟨_, rfl⟩
  have k3 : Keep (fun _ => False) w2 w3 := by rw [← e3]; exact (Keep.refl _ _).alloc _
  have b3 : BoxL w3 (w.heap.size + 1 + 1) (.slice (some ⟨w.heap.size + 1, 0, none⟩) 0 0) := by
    unfold BoxL
    rw [← e3, ← s2]
    exact heap_alloc_new w2 _
  have k13 := k2.trans k3
  have c3 := k13.cell c1 id
  have f3 := (k13.frozen (a := ⟨w.heap.size, 0, none⟩) (by rw [s1]; exact Nat.lt_succ_self _) id).trans f1
  have o3 : Own (α := Nat) ptrV 60 w3 (.slice (some ⟨w.heap.size + 1, 0, none⟩) 0 0) [] := Own.keep (Own.of_base o2 rfl rfl) k3 (by simp)
  have k4 := keep_one w3 ⟨w.heap.size, 0, none⟩ (.pointer (some ⟨w.heap.size + 1 + 1, 0, none⟩))
  have K : Keep (fun j => w.heap.size ≤ j) w (w3.setCell ⟨w.heap.size, 0, none⟩ (.pointer (some ⟨w.heap.size + 1 + 1, 0, none⟩))) := ((k1.trans k13).mono (by simp)).trans (k4.mono (fun j e => by cases e; exact Nat.le_refl _))
  have hp := pstore w.heap.size _ c3 f3 b3
  have FIN : MkAt (w3.setCell ⟨w.heap.size, 0, none⟩ (.pointer (some ⟨w.heap.size + 1 + 1, 0, none⟩))) w.heap.size (w.heap.size + 1 + 1) (.slice (some ⟨w.heap.size + 1, 0, none⟩) 0 0) [] :=
    ⟨World.cell?_setCell_same _ _ _ c3, by rw [World.frozen?_setCell]; exact f3, b3.keep k4 (fun e => by simp at e; omega), o3.keep k4 (fun g hg e => by simp [Value.ownBlock] at hg e; omega), by simp, trivial, by simp [Value.ownBlock]⟩
  have E : ((w.alloc (.cells #[.pointer none] 53)).alloc (.cells #[] 60)).alloc (.cells #[.slice (some ⟨w.heap.size + 1, 0, none⟩) 0 0] 56) = w3 := by rw [e1, e2, e3]
  have E := Lib.hid E
  clear e1 e2 e3 s1 s2 k1 k2 c1 f1 o2 k3 b3 k13 c3 f3 o3 k4
  go_enter Try.func7, Try.ntmps7
  go_wp2_with fail
  refine hp.mono ?_
  rintro e w4 ⟨rfl, rfl⟩
  clear hp
  go_wp2
  go_ret
  refine ⟨_, _, _, rfl, FIN, K.newer, fun k hk => ?_⟩
  rcases hk with rfl | rfl | hk | ⟨x, hx, _⟩
  · omega
  · omega
  · simp [Value.ownBlock] at hk; omega
  · simp at hx
/-- A list behind a variable of its own. -/
theorem boxed (w2 : World) (v' : Value) (W : World) (e : (w2.alloc (.cells #[.slice none 0 0] 56)).setCell ⟨w2.heap.size, 0, none⟩ v' = W) : BoxL W w2.heap.size v' ∧ Keep (fun _ => False) w2 W := by
  have k1 : Keep (fun _ => False) w2 (w2.alloc (.cells #[.slice none 0 0] 56)) := (Keep.refl _ _).alloc _
  have k2 := keep_one (w2.alloc (.cells #[.slice none 0 0] 56)) ⟨w2.heap.size, 0, none⟩ v'
  rw [e] at k2
  refine ⟨?_, k1.older k2 (fun j e => by cases e; exact Nat.le_refl _)⟩
  unfold BoxL
  rw [← e]
  have := heap_alloc_new w2 (.cells #[.slice none 0 0] 56)
  simp only [World.setCell]
  rw [Array.getElem?_modify, this]
  simp
/-- What Enter leaves. -/
def Went (w : World) (m q : Nat) (v : Value) (ts : List Ta) (l : List Int) (w' : World) : Prop :=
  ∃ q' v' ts', MkAt w' m q' v' ts' ∧ spread ts' = l ∧ (∀ x ∈ ts', 1 ≤ x.n) ∧ Keep (FootM m q v ts) w w' ∧ ∀ k, FootM m q' v' ts' k → FootM m q v ts k ∨ w.heap.size ≤ k
/-- A list of new tallies and old ones takes the place of Marks' list. -/
theorem MkAt.went (h : MkAt w m q v ts) {w1 w2 W : World} {qv v' : Value} {q0 : Nat} {ts1 ts' : List Ta} (h1 : MkAt w1 m q0 qv ts1) (f1 : ∀ k, FootM m q0 qv ts1 k → FootM m q v ts k ∨ w.heap.size ≤ k) (k1 : Keep (FootM m q v ts) w w1)
    (k2 : Keep (fun _ => False) w1 w2) (ow : OwnAt w1.heap.size ptrV 60 w2 v' (ts'.map Ta.b)) (en : ∀ x ∈ ts', TaAt w2 x) (up : RisT ts') (old : ∀ x ∈ ts', (∃ y ∈ ts1, y.b = x.b) ∨ w1.heap.size ≤ x.b) (n1 : ∀ x ∈ ts', 1 ≤ x.n) {l : List Int} (hl : spread ts' = l)
    (e : (w2.alloc (.cells #[.slice none 0 0] 56)).setCell ⟨w2.heap.size, 0, none⟩ v' = W) : Went w m q v ts l (W.setCell ⟨m, 0, none⟩ (.pointer (some ⟨w2.heap.size, 0, none⟩))) := by
  obtain ⟨bx, k3⟩ := boxed w2 v' W e
  have k12 := k2.trans k3
  have ow3 : OwnAt w1.heap.size ptrV 60 W v' (ts'.map Ta.b) := by
    obtain ⟨a1, a2⟩ := id ow
    refine ⟨a1, ?_⟩
    rcases a2 with a2 | ⟨g, c, cur, hv, hg, hh, r⟩
    · exact .inl a2
    · exact .inr ⟨g, c, cur, hv, hg, by rw [k3.block g (lt_of_block hh) id]; exact hh, r⟩
  have S := h1.swap k12 bx ow3 (fun x hx => (en x hx).keep k3 id) up
  have s1 := k1.size
  have s2 := k2.size
  refine ⟨w2.heap.size, v', ts', S, hl, n1, (k1.trans (k12.mono (fun _ x => x.elim))).trans ((keep_one W ⟨m, 0, none⟩ _).mono (fun j e => .inl e)), fun k hk => ?_⟩
  rcases hk with rfl | rfl | hk | ⟨x, hx, rfl⟩
  · exact .inl (.inl rfl)
  · right; omega
  · right; have := (World.ownsRow.lt ow k hk).1; omega
  · rcases old x hx with ⟨y, hy, e⟩ | e
    · exact f1 _ (.inr (.inr (.inr ⟨y, hy, e⟩)))
    · right; omega
theorem enter_any (h : MkAt w m q v ts) (hl : ts.length ≤ 10000) (hn : ∀ x ∈ ts, 1 ≤ x.n ∧ x.n ≤ 10000) (t : Int) :
    Calls Try.prog 8 #[.pointer (some ⟨m, 0, none⟩), .int .u64 t] w fun e w' => e = .returned (.tuple #[]) ∧ Went w m q v ts (insM (spread ts) t) w' := by
  obtain ⟨A, c, rfl, hc⟩ := h.lies.cap
  obtain ⟨n, en⟩ : ∃ n, ts.length = n := ⟨_, rfl⟩
  rw [en] at h hl hc ⊢
  have cm := h.cm
  have fm := h.fm
  have H := Lib.hid h
  have EN := Lib.hid en
  clear h en
  go_enter Try.func8, Try.ntmps8
  go_wp2
  go_loopw [4, 5, 6] (fun _ _ _ wr => w = wr) (fun _ _ _ _ => 0)
  case atStart => rfl
  case round =>
    obtain rfl := hrel
    go_wp2_with fail
    refine (pload m cm H.out.bx).mono ?_
    rintro e w1 ⟨rfl, rfl⟩
    have cq := H.out.bx.cell
    go_wp2_with fail
    refine (findt_any H.out.lies H.out.up (by rw [EN.out]; omega) t).mono ?_
    rintro e w1 ⟨i, b, rfl, hF, k1⟩
    have cm1 := k1.cell cm id
    have cq1 := k1.cell cq id
    have H1 := Lib.hid (H.out.same k1)
    have K1 : Keep (FootM m q (.slice A n c) ts) w w1 := k1.mono (fun _ e => e.elim)
    cases b
    · obtain ⟨L0, R0, e0, rfl, hL0, hR0⟩ := hF
      have hR0 : ∀ x ∈ R0, t < x.t := hR0
      have no : ∀ x ∈ ts, x.t ≠ t := fun x hx e => by
        rw [e0] at hx
        rcases List.mem_append.1 hx with hx | hx
        · have := hL0 x hx; omega
        · have := hR0 x hx; omega
      clear e0 hL0 hR0
      go_wp2_with fail
      refine (with_any H1.out.ow H1.out.en H1.out.up (by rw [EN.out]; exact hl) t no).mono ?_
      rintro e w2 ⟨v', b, L, R, rfl, e0, hL, hR, hb, ow, ta, k2⟩
      have up' : RisT (L ++ ⟨b, t, 1⟩ :: R) := ris_put (e0 ▸ H1.out.up) hL hR
      obtain ⟨W, eW⟩ : ∃ W, (w2.alloc (.cells #[.slice none 0 0] 56)).setCell ⟨w2.heap.size, 0, none⟩ v' = W := ⟨_, rfl⟩
      obtain ⟨bx, k3⟩ := boxed w2 v' W eW
      have cm3 := (k2.trans k3).cell cm1 id
      have fm3 := ((k1.trans k2).trans k3).frozen (a := ⟨m, 0, none⟩) H.out.mlt id
      have bx3 := H1.out.bx.keep (k2.trans k3) id
      have FIN : Went w m q (.slice A n c) ts (insM (spread ts) t) (W.setCell ⟨m, 0, none⟩ (.pointer (some ⟨w2.heap.size, 0, none⟩))) :=
        H.out.went H1.out (fun k hk => .inl hk) K1 k2 ow (fun x hx => by
          rcases List.mem_append.1 hx with hx | hx
          · exact (H1.out.en x (by rw [e0]; simp [hx])).keep k2 id
          · rcases List.mem_cons.1 hx with rfl | hx
            · exact ta
            · exact (H1.out.en x (by rw [e0]; simp [hx])).keep k2 id) up' (fun x hx => by
          rcases List.mem_append.1 hx with hx | hx
          · exact .inl ⟨x, by rw [e0]; simp [hx], rfl⟩
          · rcases List.mem_cons.1 hx with rfl | hx
            · exact .inr hb
            · exact .inl ⟨x, by rw [e0]; simp [hx], rfl⟩) (fun x hx => by
          rcases List.mem_append.1 hx with hx | hx
          · exact (hn x (by rw [e0]; simp [hx])).1
          · rcases List.mem_cons.1 hx with rfl | hx
            · exact Int.le_refl _
            · exact (hn x (by rw [e0]; simp [hx])).1) (by rw [spread_new up', e0]) eW
      have FIN := Lib.hid FIN
      have hp := pcas m cm3 (fm3.trans fm) bx3 bx
      obtain ⟨A', n', c', rfl⟩ : ∃ A n c, v' = .slice A n c := by
        rcases (Own.of_base (zs := (L ++ ⟨b, t, 1⟩ :: R).map Ta.b) ow (by simp) rfl).form with ⟨h1, _⟩ | ⟨g, c, h1, _⟩ <;> exact ⟨_, _, _, h1⟩
      clear ow ta up' bx k3 bx3 hL hR e0 no
      go_wp2_with fail
      refine hp.mono ?_
      rintro e w4 ⟨rfl, rfl⟩
      clear hp
      go_wp2
      refine bodyPost_ret (results_none rfl _ _ _) rfl ?_
      exact ⟨rfl, FIN.out⟩
    · obtain ⟨L, R0, e0, rfl, hL, hR⟩ := hF
      obtain ⟨x, R, rfl, rfl⟩ : ∃ x R', R0 = x :: R' ∧ x.t = t := hR
      subst e0
      obtain ⟨b0, off, rfl, cx, tx⟩ := H1.out.lies.get L.length x (by simp)
      have xn := hn x (by simp)
      have wn : IntKind.i64.wrap (x.n + 1) = x.n + 1 := IntWalk.i64_in _ (by omega)
      have li : L.length < n := by rw [← EN.out]; simp
      have li' : (L.length : Int) < (n : Int) := by omega
      have hc := change_any tx 1 (by simp; omega) _ wn
      have FIN : Went w m q (.slice (some ⟨b0, off, none⟩) n c) (L ++ x :: R) (insM (spread (L ++ x :: R)) x.t) (w1.setCell ⟨x.b, 1, none⟩ (.int .i64 (x.n + 1))) :=
        ⟨q, _, _, H1.out.put (x.n + 1), spread_more H1.out.up (by omega), fun y hy => by
          rcases List.mem_append.1 hy with hy | hy
          · exact (hn y (by simp [hy])).1
          · rcases List.mem_cons.1 hy with rfl | hy
            · show 1 ≤ x.n + 1; omega
            · exact (hn y (by simp [hy])).1, K1.trans ((keep_one w1 ⟨x.b, 1, none⟩ _).mono (fun j e => .inr (.inr (.inr ⟨x, by simp, e.symm⟩)))), fun k hk => by
          left
          rcases hk with rfl | rfl | hk | ⟨y, hy, rfl⟩
          · exact .inl rfl
          · exact .inr (.inl rfl)
          · exact .inr (.inr (.inl hk))
          · rcases List.mem_append.1 hy with hy | hy
            · exact .inr (.inr (.inr ⟨y, by simp [hy], rfl⟩))
            · rcases List.mem_cons.1 hy with rfl | hy
              · exact .inr (.inr (.inr ⟨x, by simp, rfl⟩))
              · exact .inr (.inr (.inr ⟨y, by simp [hy], rfl⟩))⟩
      have FIN := Lib.hid FIN
      clear hL wn xn tx K1
      go_wp2_with fail
      refine hc.mono ?_
      rintro e w2 ⟨rfl, rfl⟩
      clear hc
      go_wp2
      refine bodyPost_ret (results_none rfl _ _ _) rfl ?_
      exact ⟨rfl, FIN.out⟩
theorem garbw_any (b e low : Int) (r : Bool) (hr : garbI e low = r) (w : World) :
    Calls Try.prog 14 #[.int .u64 b, .int .u64 e, .int .u64 low] w fun y w' => y = .returned (.bool r) ∧ w' = w := by
  obtain ⟨p1, e1⟩ : ∃ p, decide (1 ≤ e) = p := ⟨_, rfl⟩
  obtain ⟨p2, e2⟩ : ∃ p, decide (e ≤ 1099511627776) = p := ⟨_, rfl⟩
  obtain ⟨p3, e3⟩ : ∃ p, decide (e ≤ low) = p := ⟨_, rfl⟩
  obtain rfl : (p1 && (p2 && p3)) = r := by rw [← hr, ← e1, ← e2, ← e3]; simp [garbI]
  clear hr
  cases p1
  · go_enter Try.func14, Try.ntmps14
    go_wp2
    go_ret
    exact ⟨rfl, rfl⟩
  · cases p2
    · go_enter Try.func14, Try.ntmps14
      go_wp2
      go_ret
      exact ⟨rfl, rfl⟩
    · cases p3
      · go_enter Try.func14, Try.ntmps14
        go_wp2
        go_ret
        exact ⟨rfl, rfl⟩
      · go_enter Try.func14, Try.ntmps14
        go_wp2
        go_ret
        exact ⟨rfl, rfl⟩
end
end Go.Proofs.Ytbbinfdgmfmaeaa
