/- Package mark as landed, first part: tallies in memory, newTally, spent, change; find (slices.BinarySearchFunc over pointers); conditions: counts between 1 and 1,000,000 where they are turned, lists of at most 100,000. -/
import Derived.Test.YtbbinfdgmfmaeaaAptr
import Derived.Test.YtbbinfdgmfmaeaaAtom
import Derived.Test.YtbbinfdgmfmaeaaPush1
import Derived.Test.YtbbinfdgmfmaeaaMkT
import Derived.Deep.LoopGhost
import Derived.Deep.QuietTactic
import Derived.BigQuiet
namespace Go.Proofs.Ytbbinfdgmfmaeaa
open Go.ChangeShapes Go.WideShapes Go.ChangeAt Go.RowKit
set_option linter.unusedVariables false

/-- A tally in memory. -/
structure TaAt (w : World) (x : Ta) : Prop where
  c0 : w.cell? ⟨x.b, 0, none⟩ = some (.int .u64 x.t)
  c1 : w.cell? ⟨x.b, 1, none⟩ = some (.int .i64 x.n)
  fz : w.frozen? ⟨x.b, 1, none⟩ = false
section
variable {w w' : World} {T : Nat → Prop} {x : Ta} {ts : List Ta} {v : Value}
theorem TaAt.lt (h : TaAt w x) : x.b < w.heap.size := lt_of_cell (a := ⟨x.b, 0, none⟩) h.c0
theorem TaAt.keep (h : TaAt w x) (k : Keep T w w') (hn : ¬ T x.b) : TaAt w' x := ⟨k.cell h.c0 hn, k.cell h.c1 hn, (k.frozen (a := ⟨x.b, 1, none⟩) h.lt hn).trans h.fz⟩
theorem TaAt.put (h : TaAt w x) (n : Int) : TaAt (w.setCell ⟨x.b, 1, none⟩ (.int .i64 n)) ⟨x.b, x.t, n⟩ :=
  ⟨by rw [World.cell?_setCell_other _ _ _ _ (by first | (simp; done) | (simp; omega))]; exact h.c0, World.cell?_setCell_same _ _ _ h.c1, by rw [World.frozen?_setCell]; exact h.fz⟩
/-- A slice that lies somewhere, and what its pointers lead to. -/
def LiesT (w : World) (v : Value) (ts : List Ta) : Prop :=
  ∃ A c, v = .slice A ts.length c ∧ ts.length ≤ c ∧ (0 < ts.length → ∃ b off, A = some ⟨b, off, none⟩ ∧ ∀ j x, ts[j]? = some x → w.cell? ⟨b, off + j, none⟩ = some (ptrV x.b) ∧ TaAt w x)
theorem LiesT.cap (h : LiesT w v ts) : ∃ A c, v = .slice A ts.length c ∧ ts.length ≤ c := by
  obtain ⟨A, c, e, hc, _⟩ := h
  exact ⟨A, c, e, hc⟩
theorem LiesT.get {A : Option Addr} {n c : Nat} (h : LiesT w (.slice A n c) ts) (j : Nat) (x : Ta) (hx : ts[j]? = some x) : ∃ b off, A = some ⟨b, off, none⟩ ∧ w.cell? ⟨b, off + j, none⟩ = some (ptrV x.b) ∧ TaAt w x := by
  obtain ⟨A', c', e, hc, hf⟩ := h
  cases e
  obtain ⟨b, off, rfl, he⟩ := hf (by have := (List.getElem?_eq_some_iff.1 hx).1; omega)
  exact ⟨b, off, rfl, he j x hx⟩
theorem LiesT.same (h : LiesT w v ts) (k : Keep (fun _ => False) w w') : LiesT w' v ts := by
  obtain ⟨A, c, e, hc, hf⟩ := h
  refine ⟨A, c, e, hc, fun h0 => ?_⟩
  obtain ⟨b, off, rfl, he⟩ := hf h0
  exact ⟨b, off, rfl, fun j x hx => ⟨k.cell (he j x hx).1 id, (he j x hx).2.keep k id⟩⟩
theorem lies_of (o : Own ptrV 60 w v (ts.map Ta.b)) (h : ∀ x ∈ ts, TaAt w x) : LiesT w v ts := by
  rcases o.form with ⟨rfl, z⟩ | ⟨g, c, rfl, _, hc, _⟩
  · have z : ts = [] := List.map_eq_nil_iff.1 z
    subst z
    exact ⟨none, 0, rfl, Nat.le_refl _, fun h => absurd h (Nat.lt_irrefl 0)⟩
  · rw [List.length_map] at hc o ⊢
    refine ⟨some ⟨g, 0, none⟩, c, rfl, hc, fun _ => ⟨g, 0, rfl, fun j x hx => ⟨?_, h x (List.mem_of_getElem? hx)⟩⟩⟩
    have lj := (List.getElem?_eq_some_iff.1 hx)
    rw [Nat.zero_add, o.cell j (by rw [List.length_map]; exact lj.1), List.getElem_map, lj.2]
theorem newt_any (t : Int) (w : World) : Calls Try.prog 37 #[.int .u64 t] w fun e w' => ∃ b, e = .returned (ptrV b) ∧ w.heap.size ≤ b ∧ TaAt w' ⟨b, t, 1⟩ ∧ Keep (fun _ => False) w w' := by
  obtain ⟨w1, e1⟩ : ∃ w1, w.alloc (.cells #[.int .u64 t, .int .i64 0] 69) = w1 := ⟨_, rfl⟩
  have k1 : Keep (fun _ => False) w w1 := by rw [← e1]; exact (Keep.refl _ w).alloc _
  have a0 : w1.cell? ⟨w.heap.size, 0, none⟩ = some (.int .u64 t) := by rw [← e1]; simp
  have a1 : w1.cell? ⟨w.heap.size, 1, none⟩ = some (.int .i64 0) := by rw [← e1]; simp
  have f1 : w1.frozen? ⟨w.heap.size, 1, none⟩ = false := by rw [← e1]; simp
  have E1 := Lib.hid e1
  clear e1
  go_enter Try.func37, Try.ntmps37
  go_wp2_with fail
  rw [E1.out]
  refine (storeInt64 ⟨w.heap.size, 1, none⟩ _ 1 w1 a1 f1 rfl).mono ?_
  rintro e w2 ⟨rfl, rfl⟩
  go_wp2
  go_ret
  exact ⟨w.heap.size, rfl, Nat.le_refl _, ⟨by rw [World.cell?_setCell_other _ _ _ _ (by first | (simp; done) | (simp; omega))]; exact a0, World.cell?_setCell_same _ _ _ a1, by rw [World.frozen?_setCell]; exact f1⟩, ⟨k1.os, k1.tape, k1.output, by simpa [World.setCell] using k1.size, fun j hj _ => (Below.heap_setCell _ _ _ _ (fun e => by simp at e; omega)).trans (k1.block j hj id)⟩⟩
theorem spent_any (h : TaAt w x) (b : Bool) (hb : (x.n == 0) = b) : Calls Try.prog 25 #[ptrV x.b] w fun e w' => e = .returned (.bool b) ∧ w = w' := by
  obtain ⟨xb, xt, xn⟩ := x
  have c1 := h.c1
  unfold ptrV
  go_enter Try.func25, Try.ntmps25
  go_wp2_with fail
  refine (loadInt64 ⟨xb, 1, none⟩ xn w c1 rfl).mono ?_
  rintro e w2 ⟨rfl, rfl⟩
  go_wp2
  go_ret
  exact ⟨by rw [← hb]; rfl, rfl⟩
theorem change_any (h : TaAt w x) (d : Int) (h0 : (x.n == 0) = false) (n' : Int) (hn : IntKind.i64.wrap (x.n + d) = n') : Calls Try.prog 21 #[ptrV x.b, .int .i64 d] w fun e w' => e = .returned (.bool true) ∧ w' = w.setCell ⟨x.b, 1, none⟩ (.int .i64 n') := by
  obtain ⟨xb, xt, xn⟩ := x
  have c1 := h.c1
  have f1 := h.fz
  unfold ptrV
  clear h
  go_enter Try.func21, Try.ntmps21
  go_wp2
  go_loopw [5] (fun _ wr => wr = w) (fun _ _ => 0)
  case atStart => rfl
  case round =>
    obtain rfl := hrel
    go_wp2_with fail
    refine (loadInt64 ⟨xb, 1, none⟩ xn wr c1 rfl).mono ?_
    rintro e w2 ⟨rfl, rfl⟩
    go_wp2_with fail
    refine (casInt64 ⟨xb, 1, none⟩ xn n' wr c1 f1 rfl).mono ?_
    rintro e w2 ⟨rfl, rfl⟩
    go_wp2
    go_ret
    exact ⟨rfl, rfl⟩
def cmpT (x y : Int) : Int := if x < y then -1 else if y < x then 1 else 0
theorem nanu_any (x : Int) (w : World) : Calls Try.prog 43 #[.int .u64 x] w fun e w' => e = .returned (.bool false) ∧ w = w' := by
  go_enter Try.func43, Try.ntmps43
  go_wp2
  go_ret
  exact ⟨by simp, rfl⟩
theorem cmpu_any (x y : Int) (w : World) : Calls Try.prog 34 #[.int .u64 x, .int .u64 y] w fun e w' => e = .returned (.int .i64 (cmpT x y)) ∧ w = w' := by
  go_enter Try.func34, Try.ntmps34
  go_wp2_with (go_at_call 43; refine (nanu_any _ _).mono ?_; rintro e w' ⟨rfl, rfl⟩)
  all_goals (go_ret; refine ⟨?_, rfl⟩; unfold cmpT; (repeat' split) <;> first | rfl | (exfalso; omega))
/-- The closure of find. -/
theorem fndt_any (h : TaAt w x) (t : Int) : Calls Try.prog 33 #[ptrV x.b, .int .u64 t] w fun e w' => e = .returned (.int .i64 (cmpT x.t t)) ∧ Keep (fun _ => False) w w' := by
  obtain ⟨xb, xt, xn⟩ := x
  have c0 := h.c0
  unfold ptrV
  clear h
  go_enter Try.func33, Try.ntmps33
  go_wp2_with fail
  refine (cmpu_any _ _ _).mono ?_
  rintro e w1 ⟨rfl, rfl⟩
  go_wp2
  go_ret
  exact ⟨rfl, Keep.refl _ _⟩
set_option maxRecDepth 100000 in
set_option maxHeartbeats 1000000 in
theorem search_t (h : LiesT w v ts) (hr : RisT ts) (hl : ts.length ≤ 100000) (t : Int) :
    Calls Try.prog 32 #[v, .int .u64 t, .func (.func 33) #[] #[]] w fun e w' => ∃ (i : Nat) (b : Bool), e = .returned (.tuple #[.int .i64 i, .bool b]) ∧ FoundT ts t i b ∧ Keep (fun _ => False) w w' := by
  obtain ⟨A, c, rfl, hc⟩ := h.cap
  have H := Lib.hid h
  have HR := Lib.hid hr
  obtain ⟨n, en⟩ : ∃ n, ts.length = n := ⟨_, rfl⟩
  have EN := Lib.hid en
  rw [en] at hc hl ⊢
  clear h hr en
  go_enter Try.func32, Try.ntmps32
  go_wp2
  go_loopw [9, 10] (fun p q wr => ∃ i j : Nat, p = .int .i64 i ∧ q = .int .i64 j ∧ SoughtT ts t i j ∧ Keep (fun _ => False) w wr) (fun p q _ => (intOf q).toNat - (intOf p).toNat)
  case atStart => exact ⟨0, n, rfl, rfl, ⟨Nat.zero_le _, by rw [EN.out]; exact Nat.le_refl _, fun m p hm => absurd hm (Nat.not_lt_zero m), fun m p hm hp => by have := (List.getElem?_eq_some_iff.1 hp).1; rw [EN.out] at this; omega⟩, Keep.refl _ w⟩
  case round =>
    obtain ⟨i, j, rfl, rfl, hS, bl⟩ := hrel
    have hij := hS.le
    have hjn : j ≤ n := by have := hS.len; rw [EN.out] at this; exact this
    have HS := Lib.hid hS
    clear hS
    by_cases hlt : i < j
    · obtain ⟨m, em⟩ : ∃ m, (i + j) / 2 = m := ⟨_, rfl⟩
      have him : i ≤ m := by omega
      have hmj : m < j := by omega
      have hmn : m < n := by omega
      have wk : IntKind.i64.wrap ((i : Int) + (j : Int)) = (i : Int) + (j : Int) := IntWalk.i64_in _ (by omega)
      have wu : IntKind.u64.wrap ((i : Int) + (j : Int)) = (i : Int) + (j : Int) := by rw [IntKind.wrap_u64]; omega
      have wm : IntKind.i64.wrap ((m : Int) + 1) = (m : Int) + 1 := IntWalk.i64_in _ (by omega)
      have ei : ((i : Int) + (j : Int)) / 2 = (m : Int) := by omega
      have wmi : IntKind.i64.wrap (m : Int) = (m : Int) := IntWalk.i64_in _ (by omega)
      obtain ⟨p, hp⟩ : ∃ p, ts[m]? = some p := ⟨_, List.getElem?_eq_getElem (by rw [EN.out]; exact hmn)⟩
      obtain ⟨b, off, rfl, c0, c1⟩ := LiesT.get (H.out.same bl) m p hp
      have hc := fndt_any c1 t
      by_cases hk : p.t < t
      · have hS2 := Lib.hid (show SoughtT ts t (m + 1) j from ⟨hmj, HS.out.len, fun q z hq hz => by
          by_cases e : q = m
          · subst e; rw [hp] at hz; cases hz; exact hk
          · have := ris_get HR.out hz hp (by omega); omega, HS.out.up⟩)
        rw [show cmpT p.t t = -1 from if_pos hk] at hc
        clear HS hp hk em c1
        go_wp2_with fail
        refine hc.mono ?_
        rintro e w1 ⟨rfl, k1⟩
        clear hc c0
        go_wp2
        go_roundw
        case rel => exact ⟨m + 1, j, by go_num, rfl, hS2.out, bl.trans k1⟩
        case measure => simp [intOf]; omega
      · have hS2 := Lib.hid (show SoughtT ts t i m from ⟨him, by have := HS.out.len; omega, HS.out.low, fun q z hq hz => by
          by_cases e : q = m
          · subst e; rw [hp] at hz; cases hz; omega
          · have := ris_get HR.out hp hz (by omega); omega⟩)
        obtain ⟨y, ey, y0⟩ : ∃ y, cmpT p.t t = y ∧ ¬ y < 0 := ⟨_, rfl, by unfold cmpT; rw [if_neg hk]; split <;> omega⟩
        rw [ey] at hc
        clear HS hp hk ey em c1
        go_wp2_with fail
        refine hc.mono ?_
        rintro e w1 ⟨rfl, k1⟩
        clear hc c0
        go_wp2
        go_roundw
        case rel => exact ⟨i, m, rfl, rfl, hS2.out, bl.trans k1⟩
        case measure => simp [intOf]; omega
    · obtain rfl : i = j := by omega
      by_cases hin : i < n
      · obtain ⟨p, hp⟩ : ∃ p, ts[i]? = some p := ⟨_, List.getElem?_eq_getElem (by rw [EN.out]; exact hin)⟩
        obtain ⟨b, off, rfl, c0, c1⟩ := LiesT.get (H.out.same bl) i p hp
        have hc := fndt_any c1 t
        by_cases hk : p.t = t
        · have F := Lib.hid (HS.out.yes hp hk)
          rw [show cmpT p.t t = 0 by unfold cmpT; rw [if_neg (by omega), if_neg (by omega)]] at hc
          clear HS hp hk c1
          go_wp2_with fail
          refine hc.mono ?_
          rintro e w1 ⟨rfl, k1⟩
          clear hc c0
          go_wp2
          go_ret2
          exact ⟨i, true, rfl, F.out, bl.trans k1⟩
        · have F := Lib.hid (HS.out.no HR.out (fun z hz => by rw [hp] at hz; cases hz; exact hk))
          obtain ⟨y, ey, y0⟩ : ∃ y, cmpT p.t t = y ∧ (y == 0) = false := ⟨_, rfl, by unfold cmpT; by_cases a : p.t < t; (rw [if_pos a]; rfl); (rw [if_neg a, if_pos (by omega)]; rfl)⟩
          rw [ey] at hc
          clear HS hp hk ey c1
          go_wp2_with fail
          refine hc.mono ?_
          rintro e w1 ⟨rfl, k1⟩
          clear hc c0
          go_wp2
          go_ret2
          exact ⟨i, false, rfl, F.out, bl.trans k1⟩
      · have F := Lib.hid (HS.out.no HR.out (fun z hz => by have := (List.getElem?_eq_some_iff.1 hz).1; rw [EN.out] at this; omega))
        clear HS
        go_wp2
        go_ret2
        exact ⟨i, false, rfl, F.out, bl⟩
theorem findt_any (h : LiesT w v ts) (hr : RisT ts) (hl : ts.length ≤ 100000) (t : Int) :
    Calls Try.prog 20 #[v, .int .u64 t] w fun e w' => ∃ (i : Nat) (b : Bool), e = .returned (.tuple #[.int .i64 i, .bool b]) ∧ FoundT ts t i b ∧ Keep (fun _ => False) w w' := by
  have hs := search_t h hr hl t
  obtain ⟨A, c, rfl, hc⟩ := h.cap
  clear h hr
  go_enter Try.func20, Try.ntmps20
  go_wp2_with fail
  refine hs.mono ?_
  rintro e w1 ⟨i, b, rfl, hF, k1⟩
  clear hs
  go_wp2
  go_ret2
  exact ⟨i, b, rfl, hF, k1⟩
end
end Go.Proofs.Ytbbinfdgmfmaeaa
