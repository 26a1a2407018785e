/- Package mark as landed, sixth part: Len, All; conditions: at most 10,000 times in all. -/
import Derived.Test.YtbbinfdgmfmaeaaMkH
namespace Go.Proofs.Ytbbinfdgmfmaeaa
open Go.ChangeShapes Go.WideShapes Go.ChangeAt Go.RowKit
set_option linter.unusedVariables false
set_option linter.unusedSimpArgs false

theorem spread_take (ts : List Ta) (k : Nat) (x : Ta) (hx : ts[k]? = some x) : spread (ts.take (k + 1)) = spread (ts.take k) ++ List.replicate x.n.toNat x.t := by
  rw [List.take_add_one, hx, spread_app]
  simp [spread]
theorem spread_take_le (ts : List Ta) (k : Nat) : (spread (ts.take k)).length ≤ (spread ts).length := by
  have : spread ts = spread (ts.take k) ++ spread (ts.drop k) := by rw [← spread_app, List.take_append_drop]
  rw [this, List.length_append]; omega
section
variable {w w' : World} {m q : Nat} {v : Value} {ts : List Ta} {T : Nat → Prop}
def RL (w : World) (ts : List Ta) (k : Nat) (a i : Value) (wr : World) : Prop := ∃ s : Nat, k ≤ ts.length ∧ i = .int .i64 k ∧ a = .int .i64 s ∧ s = (spread (ts.take k)).length ∧ w = wr
set_option maxRecDepth 100000 in
theorem len_any (h : MkAt w m q v ts) (hn : ∀ x ∈ ts, 1 ≤ x.n) (hl : (spread ts).length ≤ 10000) (y : Int) (hy : ((spread ts).length : Int) = y) :
    Calls Try.prog 11 #[.pointer (some ⟨m, 0, none⟩)] w fun e w' => e = .returned (.int .i64 y) ∧ w = w' := by
  obtain ⟨A, c, rfl, hc⟩ := h.lies.cap
  obtain ⟨n, en⟩ : ∃ n, ts.length = n := ⟨_, rfl⟩
  have ln := Nat.le_trans (spread_len_le hn) hl
  rw [en] at h hc ln
  have cm := h.cm
  have cq := h.bx.cell
  have H := Lib.hid h
  have EN := Lib.hid en
  have HY := Lib.hid hy
  have HL := Lib.hid hl
  clear h en hy hl
  go_enter Try.func11, Try.ntmps11
  go_wp2_with fail
  refine (pload m cm H.out.bx).mono ?_
  rintro e w1 ⟨rfl, rfl⟩
  go_wp2
  go_loopw [3, 5, 13] (fun a _ i wr => ∃ k : Nat, RL w ts k a i wr) (fun _ _ i _ => n - (intOf i).toNat)
  case atStart => exact ⟨0, 0, Nat.zero_le _, rfl, rfl, rfl, rfl⟩
  case round =>
    obtain ⟨k, s, hk, rfl, rfl, hs, rfl⟩ := hrel
    rw [EN.out] at hk
    have sl : s ≤ 10000 := by rw [hs]; exact Nat.le_trans (spread_take_le ts k) HL.out
    have HS := Lib.hid hs
    clear hs
    by_cases hlt : k < n
    · obtain ⟨x, hx⟩ : ∃ x, ts[k]? = some x := ⟨_, List.getElem?_eq_getElem (by rw [EN.out]; exact hlt)⟩
      have tx := H.out.en x (List.mem_of_getElem? hx)
      have xn := hn x (List.mem_of_getElem? hx)
      obtain ⟨g, eA⟩ := H.out.some_at (by rw [EN.out]; omega)
      subst eA
      have cp := H.out.slot k x hx
      have c1 := tx.c1
      have e1 := spread_take ts k x hx
      have ls : s + x.n.toNat ≤ 10000 := by
        have h1 := Nat.le_trans (spread_take_le ts (k + 1)) HL.out
        rw [e1, List.length_append, List.length_replicate, ← HS.out] at h1
        exact h1
      obtain ⟨r, er⟩ : ∃ r, s + x.n.toNat = r := ⟨_, rfl⟩
      have w1 : IntKind.i64.wrap ((s : Int) + x.n) = (r : Int) := (IntWalk.i64_in _ (by omega)).trans (by omega)
      have w2 : IntKind.i64.wrap ((k : Int) + 1) = (k : Int) + 1 := IntWalk.i64_in _ (by omega)
      have E1 := Lib.hid (show r = (spread (ts.take (k + 1))).length by rw [e1, List.length_append, List.length_replicate, ← HS.out]; exact er.symm)
      clear e1 er tx hx ls
      go_wp2_with fail
      refine (loadInt64 ⟨x.b, 1, none⟩ x.n w c1 rfl).mono ?_
      rintro e w2 ⟨rfl, rfl⟩
      go_wp2
      first | exact ⟨⟨k + 1, r, by rw [EN.out]; omega, by go_num, rfl, E1.out, rfl⟩, by simp [intOf]; omega⟩ | (refine ⟨?rel2, ?meas2⟩; (case meas2 => (simp [intOf]; omega)); (case rel2 => ((repeat apply Exists.intro); exact ⟨⟨k + 1, r, by rw [EN.out]; omega, by go_num, rfl, E1.out, rfl⟩, rfl⟩)))
    · obtain rfl : k = n := by omega
      have es : (s : Int) = y := by rw [HS.out, ← HY.out, ← EN.out, List.take_length]
      have ES := Lib.hid es
      clear hlt es
      go_wp2
      go_ret
      exact ⟨by rw [← ES.out]; rfl, rfl⟩
def RA (w : World) (ts : List Ta) (k : Nat) (a i : Value) (wr : World) : Prop := k ≤ ts.length ∧ i = .int .i64 k ∧ OwnU w.heap.size wr a (spread (ts.take k)) ∧ Keep (fun _ => False) w wr
def RB (w : World) (ts : List Ta) (k : Nat) (x : Ta) (j : Nat) (a i : Value) (wr : World) : Prop := j ≤ x.n.toNat ∧ i = .int .i64 j ∧ OwnU w.heap.size wr a (spread (ts.take k) ++ List.replicate j x.t) ∧ Keep (fun _ => False) w wr
set_option maxRecDepth 100000 in
set_option maxHeartbeats 1000000 in
theorem all_any (h : MkAt w m q v ts) (hn : ∀ x ∈ ts, 1 ≤ x.n) (hl : (spread ts).length ≤ 10000) :
    Calls Try.prog 12 #[.pointer (some ⟨m, 0, none⟩)] w fun e w' => ∃ v, e = .returned v ∧ OwnU w.heap.size w' v (spread ts) ∧ Keep (fun _ => False) w w' := by
  obtain ⟨A, c, rfl, hc⟩ := h.lies.cap
  obtain ⟨n, en⟩ : ∃ n, ts.length = n := ⟨_, rfl⟩
  have ln := Nat.le_trans (spread_len_le hn) hl
  rw [en] at h hc ln
  have cm := h.cm
  have cq := h.bx.cell
  have H := Lib.hid h
  have EN := Lib.hid en
  have HL := Lib.hid hl
  clear h en hl
  go_enter Try.func12, Try.ntmps12
  go_wp2_with fail
  refine (pload m cm H.out.bx).mono ?_
  rintro e w1 ⟨rfl, rfl⟩
  go_wp2
  go_loopw [3, 5, 13] (fun a _ i wr => ∃ k : Nat, RA w ts k a i wr) (fun _ _ i _ => n - (intOf i).toNat)
  case atStart => exact ⟨0, Nat.zero_le _, rfl, World.ownsRow_nil _ _ _ _, Keep.refl _ _⟩
  case round =>
    obtain ⟨k, hk, rfl, o1, k1⟩ := hrel
    rw [EN.out] at hk
    by_cases hlt : k < n
    · obtain ⟨x, hx⟩ : ∃ x, ts[k]? = some x := ⟨_, List.getElem?_eq_getElem (by rw [EN.out]; exact hlt)⟩
      have tx := (H.out.same k1).en x (List.mem_of_getElem? hx)
      have xn := hn x (List.mem_of_getElem? hx)
      obtain ⟨g, eA⟩ := H.out.some_at (by rw [EN.out]; omega)
      subst eA
      have cp := (H.out.same k1).slot k x hx
      have c1 := tx.c1
      have ls : (spread (ts.take k)).length + x.n.toNat ≤ 10000 := by
        have h1 := Nat.le_trans (spread_take_le ts (k + 1)) HL.out
        rw [spread_take ts k x hx, List.length_append, List.length_replicate] at h1
        exact h1
      have E1 := Lib.hid (spread_take ts k x hx)
      obtain ⟨N, eN⟩ : ∃ N : Nat, x.n = (N : Int) := ⟨x.n.toNat, by omega⟩
      have TX := Lib.hid (H.out.en x (List.mem_of_getElem? hx))
      rw [eN] at c1 xn
      have ENn := Lib.hid eN
      have w2 : IntKind.i64.wrap ((k : Int) + 1) = (k : Int) + 1 := IntWalk.i64_in _ (by omega)
      clear tx hx eN
      go_wp2_with fail
      refine (loadInt64 ⟨x.b, 1, none⟩ N _ c1 rfl).mono ?_
      rintro e w2 ⟨rfl, rfl⟩
      go_wp2
      go_loopw [3, 21] (fun a i wr => ∃ j : Nat, RB w ts k x j a i wr) (fun _ i _ => N - (intOf i).toNat)
      case atStart => exact ⟨0, Nat.zero_le _, rfl, by simpa using o1, k1⟩
      case round =>
        clear o1 k1 cp c1
        obtain ⟨j, hj, rfl, o2, k2⟩ := hrel
        have hjN : j ≤ N := by have := ENn.out; omega
        have wj : IntKind.i64.wrap ((j : Int) + 1) = (j : Int) + 1 := IntWalk.i64_in _ (by have := ENn.out; omega)
        by_cases hjl : j < N
        · have c0 := (TX.out.keep k2 id).c0
          have ez : (spread (ts.take k) ++ List.replicate j x.t) ++ [x.t] = spread (ts.take k) ++ List.replicate (j + 1) x.t := by
            rw [List.append_assoc]; congr 1; rw [List.replicate_succ']
          have EZ := Lib.hid ez
          have hz := k2.size
          have lz : (spread (ts.take k) ++ List.replicate j x.t).length ≤ 100000 := by simp; have := ENn.out; omega
          obtain ⟨Z, eZ⟩ : ∃ Z, spread (ts.take k) ++ List.replicate j x.t = Z := ⟨_, rfl⟩
          rw [eZ] at o2 lz
          have E2 := Lib.hid eZ
          have O2 := Lib.hid o2
          have jn : j + 1 ≤ x.n.toNat := by have := ENn.out; omega
          obtain ⟨xb, xt, xn'⟩ := x
          clear ez eZ TX
          go_wp2_with (with_reducible refine wp_stop 29 rfl ?_)
          intro _
          refine wp_push rfl (.tmp 23) (.tmp 28) rfl w.heap.size hz _ Z (by rfl) o2 xt rfl lz ?_
          rintro g2 c2 y3 o3 k3 hg
          have e5 : Z ++ [xt] = spread (ts.take k) ++ List.replicate (j + 1) xt := by rw [← E2.out]; exact EZ.out
          rw [e5] at o3
          have k4 := k2.older (S := fun j => w.heap.size ≤ j) (k3.mono (fun j e => (OwnU.lt O2.out e).1)) (fun j e => e)
          go_wp2
          exact ⟨⟨j + 1, jn, by go_num, o3, k4⟩, by simp [intOf]; omega⟩
        · obtain rfl : j = N := by omega
          have e6 : spread (ts.take k) ++ List.replicate j x.t = spread (ts.take (k + 1)) := by rw [E1.out, show x.n.toNat = j by have := ENn.out; omega]
          rw [e6] at o2
          clear hjl e6
          go_wp2
          first | exact ⟨⟨k + 1, by rw [EN.out]; omega, by go_num, o2, k2⟩, by simp [intOf]; omega⟩ | (refine ⟨?rel2, ?meas2⟩; (case meas2 => (simp [intOf]; omega)); (case rel2 => ((repeat apply Exists.intro); exact ⟨⟨k + 1, by rw [EN.out]; omega, by go_num, o2, k2⟩, rfl⟩)))
    · obtain rfl : k = n := by omega
      rw [← EN.out, List.take_length] at o1
      clear hlt
      go_wp2
      go_ret
      exact ⟨_, rfl, o1, k1⟩
end
end Go.Proofs.Ytbbinfdgmfmaeaa
