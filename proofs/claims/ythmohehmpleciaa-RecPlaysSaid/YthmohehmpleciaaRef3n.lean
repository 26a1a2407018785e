/- Contracts of NewPool and All of the document's own answer for layer 3; conditions: All: the Pool is one that NewPool made, in a state that calls can bring about. -/
import Derived.Test.YthmohehmpleciaaRef3
namespace Go.Proofs.Ythmohehmpleciaa
open Go.ChangeShapes Go.WideShapes Go.ChangeAt Go.RowKit
set_option linter.unusedVariables false

theorem step_make_full {P : Program} {ops : Array Oper} {o : Oper} {a : Act} {w : World} {K : Act → World → Prop} {Q : Exit → Act → World → Prop} {E : Prop}
    (hg : o.guard = none) (l c : Operand) (t : TypeId) (hop : o.op = Op.makeSlice t l c)
    (base : Nat) (e : TypeId) (i : TypeInfo) (z : Value) (size : Nat) (h1 : P.underlying t = some (.slice e)) (h2 : P.info? e = some i) (h3 : i.zero = some z) (h4 : i.size = size)
    (n : Nat) (hl : a.eval l = .int .i64 n) (hc : a.eval c = .int .i64 n) (b2 : i.bytes * n ≤ 281474976710656) (b3 : n ≤ maxLen) (b4 : base ≤ w.heap.size)
    (hK : ∀ w', w'.ownsRow base e size (.slice (some ⟨w.heap.size, 0, none⟩) n n) n (madeCells z.cells (n * size)).toList → w.grownBy w' none → K (a.put o.dst (.slice (some ⟨w.heap.size, 0, none⟩) n n)) w') :
    if Region.wanted o (yielded ops a.tmps) = true then Oper.wp P o a w K Q else E := by
  have hw : Region.wanted o (yielded ops a.tmps) = true := by simp [Region.wanted, hg]
  rw [if_pos hw]
  obtain ⟨w', hrun, r1, r2⟩ := run_make_full (P := P) w base t e i z size h1 h2 h3 h4 .i64 .i64 n b2 b3 b4
  unfold Oper.wp
  simp [execOp, hop, hl, hc, hrun, Result.andThen]
  exact hK w' r1 r2
theorem info_intN : (Try.prog.info? 3).map (fun i => (i.zero, i.size, i.bytes)) = some (some (.int .i64 0), 1, 8) := by kernel_rfl
theorem info_boolN : (Try.prog.info? 4).map (fun i => (i.zero, i.size, i.bytes)) = some (some (.bool false), 1, 1) := by kernel_rfl
theorem own_madeI {w : World} {base g n : Nat} (h : w.ownsRow base 3 1 (.slice (some ⟨g, 0, none⟩) n n) n (madeCells (Value.cells (.int .i64 0)) (n * 1)).toList) : OwnI w (.slice (some ⟨g, 0, none⟩) n n) (List.replicate n 0) := by
  have e : (madeCells (Value.cells (.int .i64 0)) (n * 1)).toList = List.replicate n (.int .i64 0) := by rw [Nat.mul_one]; exact toList_madeCells_one _ _
  rw [e] at h
  exact Own.of_base h (by simp) (by simp)
theorem own_madeB {w : World} {base g n : Nat} (h : w.ownsRow base 4 1 (.slice (some ⟨g, 0, none⟩) n n) n (madeCells (Value.cells (.bool false)) (n * 1)).toList) : OwnB w (.slice (some ⟨g, 0, none⟩) n n) (List.replicate n false) := by
  have e : (madeCells (Value.cells (.bool false)) (n * 1)).toList = List.replicate n (.bool false) := by rw [Nat.mul_one]; exact toList_madeCells_one _ _
  rw [e] at h
  exact Own.of_base h (by simp) (by simp)
theorem keep_grown0 {w w' : World} (h : w.grownBy w' none) (S : Nat → Prop) : Keep S w w' := ⟨h.os, h.tape, h.output, h.size, fun k hk _ => h.block k hk (by simp)⟩
theorem refAt_made (x : World) (b1 b2 n : Nat) (m : Int) (o1 : OwnI x (.slice (some ⟨b1, 0, none⟩) n n) (List.replicate n 0)) (o2 : OwnB x (.slice (some ⟨b2, 0, none⟩) n n) (List.replicate n false)) (hb : b1 ≠ b2) :
    RefAt (x.alloc (.cells #[.int .i64 m, .slice (some ⟨b1, 0, none⟩) n n, .slice (some ⟨b2, 0, none⟩) n n, .slice none 0 0, .int .i64 0, .int .i64 0] 76)) x.heap.size b1 b2 (.slice none 0 0) (St.new n m) := by
  have l1 : b1 < x.heap.size := o1.lt rfl
  have l2 : b2 < x.heap.size := o2.lt rfl
  have k := Keep.alloc (Keep.refl (fun _ => False) x) (.cells #[.int .i64 m, .slice (some ⟨b1, 0, none⟩) n n, .slice (some ⟨b2, 0, none⟩) n n, .slice none 0 0, .int .i64 0, .int .i64 0] 76)
  have e : (St.new n m).tags.length = n := by simp [St.new]
  refine ⟨by simp [St.new], by simp [St.new], by simp [St.new], by simp, by simp [St.new], by simp [St.new], fun i => by simp, ?_, ?_, Own.nil, by omega, by omega, hb, by simp [Value.ownBlock], by simp [Value.ownBlock], by simp [Value.ownBlock]⟩
  · rw [e]; exact o1.keep k (by simp)
  · rw [e]; exact o2.keep k (by simp)
def NewRPost (n : Nat) (most : Int) (w : World) (e : Ending) (w' : World) : Prop :=
  ∃ p b1 b2, e = .returned (.pointer (some ⟨p, 0, none⟩)) ∧ RefAt w' p b1 b2 (.slice none 0 0) (St.new n most) ∧ w.heap.size ≤ p ∧ w.heap.size ≤ b1 ∧ w.heap.size ≤ b2 ∧ Below w.heap.size w w'
theorem rnew_no (n m : Int) (w : World) (h : n < 1 ∨ (¬ n < 1 ∧ 4096 < n) ∨ (¬ n < 1 ∧ ¬ 4096 < n ∧ m < 0) ∨ (¬ n < 1 ∧ ¬ 4096 < n ∧ ¬ m < 0 ∧ 65535 < m)) : Calls Try.prog 20 #[.int .i64 n, .int .i64 m] w fun e w' => e = .returned (.pointer none) ∧ w = w' := by
  rcases h with h | ⟨h, h2⟩ | ⟨h, h2, h3⟩ | ⟨h, h2, h3, h4⟩
  all_goals
    go_enter Try.func20, Try.ntmps20
    go_wp2
    go_ret
    exact ⟨rfl, rfl⟩
set_option maxRecDepth 100000 in
theorem rnew_ok (n : Nat) (m : Int) (w : World) (h0 : 1 ≤ n) (h1 : n ≤ 4096) (m0 : 0 ≤ m) (m1 : m ≤ 65535) : Calls Try.prog 20 #[.int .i64 n, .int .i64 m] w (NewRPost n m w) := by
  obtain ⟨i0, hi, hz0, hz1, hz2⟩ := info_parts info_intN
  obtain ⟨j0, ji, jz0, jz1, jz2⟩ := info_parts info_boolN
  go_enter Try.func20, Try.ntmps20
  go_wp2_with fail
  refine wp_region_held_drew (S := (fun _ => True)) (by kernel_rfl) trivial (fun hHeld => ?_)
  refine wpAnyH_take (i := 0) (v := ?qvna0) rfl (by kernel_rfl) (by kernel_rfl) (by kernel_rfl) (fun _ _ _ h => h) (Or.inl ⟨by rfl, ?qyna0⟩) (by assumption) ?qrna0; case qyna0 => ((intro w hSw; (try dsimp only at hSw); go_simp); try (with_reducible rfl))
  ((try simp only [List.getElem_toArray]); (try simp only [List.getElem_cons_succ]); (try simp only [List.getElem_cons_zero]); (try simp only [Act.put]); (try simp only [List.setIfInBounds_toArray]); (try simp only [List.set_cons_succ]); (try simp only [List.set_cons_zero]))
  refine wpAnyH_take (i := 1) (v := ?qvna1) rfl (by kernel_rfl) (by kernel_rfl) (by kernel_rfl) (fun _ _ _ h => h) (Or.inl ⟨by rfl, ?qyna1⟩) (by assumption) ?qrna1; case qyna1 => ((intro w hSw; (try dsimp only at hSw); go_simp); try (with_reducible rfl))
  ((try simp only [List.getElem_toArray]); (try simp only [List.getElem_cons_succ]); (try simp only [List.getElem_cons_zero]); (try simp only [Act.put]); (try simp only [List.setIfInBounds_toArray]); (try simp only [List.set_cons_succ]); (try simp only [List.set_cons_zero]))
  refine wpAnyH_take (i := 3) (v := ?qvna3) rfl (by kernel_rfl) (by kernel_rfl) (by kernel_rfl) (fun _ _ _ h => h) (Or.inl ⟨by rfl, ?qyna3⟩) (by assumption) ?qrna3; case qyna3 => ((intro w hSw; (try dsimp only at hSw); go_simp); try (with_reducible rfl))
  ((try simp only [List.getElem_toArray]); (try simp only [List.getElem_cons_succ]); (try simp only [List.getElem_cons_zero]); (try simp only [Act.put]); (try simp only [List.setIfInBounds_toArray]); (try simp only [List.set_cons_succ]); (try simp only [List.set_cons_zero]))
  refine wpAnyH_ready (rs := [2, 4]) (by kernel_rfl) (by simp) ?_
  refine AllReadyH.cons rfl (fun K hK => ?_) (AllReadyH.cons rfl (fun K hK => ?_) AllReadyH.nil)
  · refine step_make_full rfl (.tmp 20) (.tmp 20) 73 rfl w.heap.size 3 i0 _ 1 Try.underlying73 hi hz0 hz1 n rfl rfl (by rw [hz2]; omega) (by unfold maxLen; omega) (Nat.le_refl _) ?_
    intro x1 o1 gr1
    have o1 := own_madeI o1
    have k1 := (Keep.refl (fun _ => False) w).drew.trans (keep_grown0 gr1 _)
    refine hK.out _ _ trivial (fun hHeld => ?_)
    clear hK K gr1
    ((try simp only [List.getElem_toArray]); (try simp only [List.getElem_cons_succ]); (try simp only [List.getElem_cons_zero]); (try simp only [Act.put]); (try simp only [List.setIfInBounds_toArray]); (try simp only [List.set_cons_succ]); (try simp only [List.set_cons_zero]))
    refine wpAnyH_ready (rs := [4]) (by kernel_rfl) (by simp) ?_
    refine AllReadyH.cons rfl (fun K hK => ?_) AllReadyH.nil
    refine step_make_full rfl (.tmp 22) (.tmp 22) 74 rfl w.heap.size 4 j0 _ 1 Try.underlying74 ji jz0 jz1 n rfl rfl (by rw [jz2]; omega) (by unfold maxLen; omega) k1.size ?_
    intro x2 o2 gr2
    have o2 := own_madeB o2
    have k2 := k1.trans (keep_grown0 gr2 _)
    have f2 := keep_grown0 gr2 (fun _ => False)
    refine hK.out _ _ trivial (fun hHeld => ?_)
    clear hK K gr2
    ((try simp only [List.getElem_toArray]); (try simp only [List.getElem_cons_succ]); (try simp only [List.getElem_cons_zero]); (try simp only [Act.put]); (try simp only [List.setIfInBounds_toArray]); (try simp only [List.set_cons_succ]); (try simp only [List.set_cons_zero]))
    refine wpAnyH_take (i := 5) (v := ?qvnb0) rfl (by kernel_rfl) (by kernel_rfl) (by kernel_rfl) (fun _ _ _ h => h) (Or.inl ⟨by rfl, ?qynb0⟩) (by assumption) ?qrnb0; case qynb0 => ((intro w hSw; (try dsimp only at hSw); go_simp); try (with_reducible rfl))
    ((try simp only [List.getElem_toArray]); (try simp only [List.getElem_cons_succ]); (try simp only [List.getElem_cons_zero]); (try simp only [Act.put]); (try simp only [List.setIfInBounds_toArray]); (try simp only [List.set_cons_succ]); (try simp only [List.set_cons_zero]))
    refine wpAnyH_ready (rs := [6]) (by kernel_rfl) (by simp) ?_
    refine AllReadyH.cons rfl (fun K hK => ?_) AllReadyH.nil
    go_simp
    refine hK.out _ _ trivial (fun hHeld => ?_)
    clear hK K
    ((try simp only [List.getElem_toArray]); (try simp only [List.getElem_cons_succ]); (try simp only [List.getElem_cons_zero]); (try simp only [Act.put]); (try simp only [List.setIfInBounds_toArray]); (try simp only [List.set_cons_succ]); (try simp only [List.set_cons_zero]))
    refine wpAnyH_take (i := 7) (v := ?qvnc0) rfl (by kernel_rfl) (by kernel_rfl) (by kernel_rfl) (fun _ _ _ h => h) (Or.inl ⟨by rfl, ?qync0⟩) (by assumption) ?qrnc0; case qync0 => ((intro w hSw; (try dsimp only at hSw); go_simp); try (with_reducible rfl))
    ((try simp only [List.getElem_toArray]); (try simp only [List.getElem_cons_succ]); (try simp only [List.getElem_cons_zero]); (try simp only [Act.put]); (try simp only [List.setIfInBounds_toArray]); (try simp only [List.set_cons_succ]); (try simp only [List.set_cons_zero]))
    refine wpAnyH_done (by kernel_rfl) ?_ _
    go_wp2
    go_ret
    have b1x := o1.lt rfl
    refine ⟨_, _, _, rfl, refAt_made x2 _ _ n m (o1.keep f2 (by simp)) o2 (by simp at b1x; omega), ?_, ?_, ?_, ?_⟩
    · exact k2.size
    · exact Nat.le_refl _
    · exact k1.size
    · exact (k2.alloc _).below (Nat.le_refl _) (by simp)
  · refine step_make_full rfl (.tmp 22) (.tmp 22) 74 rfl w.heap.size 4 j0 _ 1 Try.underlying74 ji jz0 jz1 n rfl rfl (by rw [jz2]; omega) (by unfold maxLen; omega) (Nat.le_refl _) ?_
    intro x1 o1 gr1
    have o1 := own_madeB o1
    have k1 := (Keep.refl (fun _ => False) w).drew.trans (keep_grown0 gr1 _)
    refine hK.out _ _ trivial (fun hHeld => ?_)
    clear hK K gr1
    ((try simp only [List.getElem_toArray]); (try simp only [List.getElem_cons_succ]); (try simp only [List.getElem_cons_zero]); (try simp only [Act.put]); (try simp only [List.setIfInBounds_toArray]); (try simp only [List.set_cons_succ]); (try simp only [List.set_cons_zero]))
    refine wpAnyH_ready (rs := [2]) (by kernel_rfl) (by simp) ?_
    refine AllReadyH.cons rfl (fun K hK => ?_) AllReadyH.nil
    refine step_make_full rfl (.tmp 20) (.tmp 20) 73 rfl w.heap.size 3 i0 _ 1 Try.underlying73 hi hz0 hz1 n rfl rfl (by rw [hz2]; omega) (by unfold maxLen; omega) k1.size ?_
    intro x2 o2 gr2
    have o2 := own_madeI o2
    have k2 := k1.trans (keep_grown0 gr2 _)
    have f2 := keep_grown0 gr2 (fun _ => False)
    refine hK.out _ _ trivial (fun hHeld => ?_)
    clear hK K gr2
    ((try simp only [List.getElem_toArray]); (try simp only [List.getElem_cons_succ]); (try simp only [List.getElem_cons_zero]); (try simp only [Act.put]); (try simp only [List.setIfInBounds_toArray]); (try simp only [List.set_cons_succ]); (try simp only [List.set_cons_zero]))
    refine wpAnyH_take (i := 5) (v := ?qvnb1) rfl (by kernel_rfl) (by kernel_rfl) (by kernel_rfl) (fun _ _ _ h => h) (Or.inl ⟨by rfl, ?qynb1⟩) (by assumption) ?qrnb1; case qynb1 => ((intro w hSw; (try dsimp only at hSw); go_simp); try (with_reducible rfl))
    ((try simp only [List.getElem_toArray]); (try simp only [List.getElem_cons_succ]); (try simp only [List.getElem_cons_zero]); (try simp only [Act.put]); (try simp only [List.setIfInBounds_toArray]); (try simp only [List.set_cons_succ]); (try simp only [List.set_cons_zero]))
    refine wpAnyH_ready (rs := [6]) (by kernel_rfl) (by simp) ?_
    refine AllReadyH.cons rfl (fun K hK => ?_) AllReadyH.nil
    go_simp
    refine hK.out _ _ trivial (fun hHeld => ?_)
    clear hK K
    ((try simp only [List.getElem_toArray]); (try simp only [List.getElem_cons_succ]); (try simp only [List.getElem_cons_zero]); (try simp only [Act.put]); (try simp only [List.setIfInBounds_toArray]); (try simp only [List.set_cons_succ]); (try simp only [List.set_cons_zero]))
    refine wpAnyH_take (i := 7) (v := ?qvnc1) rfl (by kernel_rfl) (by kernel_rfl) (by kernel_rfl) (fun _ _ _ h => h) (Or.inl ⟨by rfl, ?qync1⟩) (by assumption) ?qrnc1; case qync1 => ((intro w hSw; (try dsimp only at hSw); go_simp); try (with_reducible rfl))
    ((try simp only [List.getElem_toArray]); (try simp only [List.getElem_cons_succ]); (try simp only [List.getElem_cons_zero]); (try simp only [Act.put]); (try simp only [List.setIfInBounds_toArray]); (try simp only [List.set_cons_succ]); (try simp only [List.set_cons_zero]))
    refine wpAnyH_done (by kernel_rfl) ?_ _
    go_wp2
    go_ret
    have b1x := o1.lt rfl
    refine ⟨_, _, _, rfl, refAt_made x2 _ _ n m o2 (o1.keep f2 (by simp)) (by simp at b1x; omega), ?_, ?_, ?_, ?_⟩
    · exact k2.size
    · exact k1.size
    · exact Nat.le_refl _
    · exact (k2.alloc _).below (Nat.le_refl _) (by simp)
theorem info_u64N : (Try.prog.info? 22).map (fun i => (i.zero, i.size, i.bytes)) = some (some (.int .u64 0), 1, 8) := by kernel_rfl
theorem one_liesU (x : World) (l : Int) : ∀ j u, [Value.int .u64 l][j]? = some u → (x.alloc (.cells #[.int .u64 l] 22)).cell? ((⟨x.heap.size, 0, none⟩ : Addr).add j) = some u := by
  intro j u hj
  match j, hj with
  | 0, hj => simp at hj; subst hj; simp [Addr.add]
/-- A new slice of 64-bit words (or nil); nothing that was there has turned. -/
def NewU (zs : List Int) (w : World) (e : Ending) (w' : World) : Prop :=
  ∃ v, e = .returned v ∧ w'.ownsRow w.heap.size 22 1 v zs.length (zs.map (Value.int .u64)) ∧ Below w.heap.size w w'
def AllRel (s : St) (p b1 b2 : Nat) (v3 : Value) (w : World) (k : Nat) (v i : Value) (wr : World) : Prop :=
  k ≤ s.tags.length ∧ i = .int .i64 k ∧ wr.ownsRow w.heap.size 22 1 v (allTo s k).length ((allTo s k).map (Value.int .u64)) ∧ RefAt wr p b1 b2 v3 s ∧ Below w.heap.size w wr
set_option maxRecDepth 100000 in
set_option maxHeartbeats 1000000 in
theorem rall_any {w : World} {p b1 b2 : Nat} {v3 : Value} {s : St} (h : RefAt w p b1 b2 v3 s) (ok : Ok s) :
    Calls Try.prog 24 #[.pointer (some ⟨p, 0, none⟩)] w (NewU (allTo s s.tags.length) w) := by
  have n1 := ok.n1
  have fl := h.foot_lt
  obtain ⟨i0, hi0, hz0, hz1, hz2⟩ := info_parts info_u64N
  go_enter Try.func24, Try.ntmps24
  go_wp2
  go_loopw [3, 4] (fun v i wr => ∃ k : Nat, AllRel s p b1 b2 v3 w k v i wr) (fun _ i _ => s.tags.length - (intOf i).toNat)
  case atStart => exact ⟨0, Nat.zero_le _, rfl, World.ownsRow_nil _ _ _ _, h, Below.refl _ _⟩
  case round =>
    obtain ⟨k, hk, rfl, ow, hr, br⟩ := hrel
    have g1 := hr.c1
    have g2 := hr.c2
    by_cases hlt : k < s.tags.length
    · have tc := hr.tkAt ok k hlt
      have ll := allTo_len s k
      cases ht : s.tk k with
      | false =>
        rw [ht] at tc
        have sa : allTo s (k + 1) = allTo s k := by rw [allTo, if_neg (by simp [ht])]
        have SA := Lib.hid sa
        clear sa ht
        go_wp2
        go_roundw
        case rel => exact ⟨k + 1, by omega, by go_num, by rw [SA.out]; exact ow, hr, br⟩
        case measure => simp [intOf]; omega
      | true =>
        rw [ht] at tc
        have sa : allTo s (k + 1) = allTo s k ++ [s.link k] := by rw [allTo, if_pos ht]
        have hL := rlink_any hr ok k hlt
        have lb := link_b ok k hlt
        obtain ⟨l, el⟩ : ∃ l, s.link k = l := ⟨_, rfl⟩
        rw [el] at hL sa lb
        have SA := Lib.hid sa
        clear sa el ht
        have bz := br.size
        go_wp2_with (first | (go_at_call 38; refine hL.mono ?_; rintro e w' ⟨rfl, rfl⟩) | (with_reducible refine wp_stop 26 rfl ?_))
        intro _
        refine wpList_append_own _ rfl (.tmp 21) (.tmp 25) 27 rfl w.heap.size 22 i0 (.int .u64 0) 1 8 Try.underlying27 hi0 hz0 hz1 hz2 rfl (by decide) _ (allTo s k).length ((allTo s k).map (Value.int .u64)) rfl (ow.alloc _) ⟨wr.heap.size, 0, none⟩ 1 1 [.int .u64 l] rfl rfl (one_liesU wr l) (by simp [Value.oneCell']) (by unfold maxLen; omega) (by omega) (by simp; omega) ?_
        intro v' x1 o1 gr1 _
        have r1 := World.ownsRow.lt ow
        have k1 := (br.alloc bz (.cells #[.int .u64 l] 22)).grown gr1 (by simp; omega) (fun j hj => (r1 j hj).1)
        have hr1 := hr.keep (((Keep.refl (fun z => w.heap.size ≤ z) wr).alloc (.cells #[.int .u64 l] 22)).trans ⟨gr1.os, gr1.tape, gr1.output, gr1.size, fun j hj hn => gr1.block j hj (fun e => hn (r1 j e.symm).1)⟩) (fun g hg x => by have := fl g hg; omega)
        clear gr1 r1 g1 g2 tc hL ow hr br
        go_wp2
        go_roundw
        case rel => exact ⟨k + 1, by omega, by go_num, by rw [SA.out]; simpa using o1, hr1, k1⟩
        case measure => simp [intOf]; omega
    · obtain rfl : k = s.tags.length := by omega
      go_wp2
      go_ret
      exact ⟨_, rfl, ow, br⟩
end Go.Proofs.Ythmohehmpleciaa
