/- Package model as landed, in memory: an array read as a whole and by places; Used, oldest. Condition: at most 100,000 versions. -/
import Derived.Test.YtkkjofefjepodaaLdF
namespace Go.Proofs.Ytkkjofefjepodaa
open Go.ChangeShapes Go.WideShapes Go.ChangeAt Go.RowKit
set_option linter.unusedVariables false
set_option linter.unusedSimpArgs false
theorem run_index_arr {P : Program} {t e : TypeId} {n i : Nat} (cs : List Value) {d : TypeDesc} (hu : P.underlying t = some (.array n e)) (he : P.underlying e = some d) (hd : (match d with | .struct _ | .array _ _ => false | _ => true) = true)
    (hs : (P.info? e).map (·.size) = some 1) (hi : i < n) {v : Value} (hv : cs[i]? = some v) (w : World) : (Instr.index t (.agg cs.toArray) (.int .i64 i)).run P w = .ok v w := by
  cases hq : P.info? e with
  | none => simp [hq] at hs
  | some j =>
    have hz : j.size = 1 := by simpa [hq] using hs
    have hagg : (isAgg e).run P w = .ok false w := by
      unfold isAgg
      rw [Sem.run_bind, run_underlying he w]
      cases d <;> simp_all
    have h0 : (0 : Int) ≤ (i : Int) ∧ (i : Int) < (n : Int) := ⟨by omega, by omega⟩
    unfold Instr.index
    simp only [asIntOf, Sem.run_bind, Sem.run_pure, Result.andThen_ok, run_underlying hu w]
    simp [h0, Sem.run_bind, sizeOf, typeInfo, hq, hz, part, hagg, hi, hv]
section
variable {w w' : World} {m : Nat} {K : Nat → Value} {o : Nat → Nat} {z : LdI} {T : Nat → Prop} {F : Nat → FtI} {P : VeI → Bool} {t : TtI} {fv : Value} {l : List VeI}
def keyC (K : Nat → Value) : List Value := (List.range 64).map K
def sesC (z : LdI) : List Value := (List.range 8).map fun i => ptrO ((z.s i).map TtI.b)
theorem keyC_at (K : Nat → Value) {k : Nat} (hk : k < 64) : (keyC K)[k]? = some (K k) := by unfold keyC; rw [List.getElem?_map, List.getElem?_range hk]; rfl
theorem sesC_at (z : LdI) {k : Nat} (hk : k < 8) : (sesC z)[k]? = some (ptrO ((z.s k).map TtI.b)) := by unfold sesC; rw [List.getElem?_map, List.getElem?_range hk]; rfl
theorem keyC_cell (h : LdAt w m K o z) : ∀ j v, (keyC K)[j]? = some v → w.cell? ((⟨m, 12, none⟩ : Addr).add j) = some v := fun j v hv => by
  have hj : j < 64 := by have := (List.getElem?_eq_some_iff.1 hv).1; simpa [keyC] using this
  rw [keyC_at K hj] at hv
  cases hv
  have hadd : (⟨m, 12, none⟩ : Addr).add j = ⟨m, 12 + j, none⟩ := by unfold Addr.add; split <;> simp_all
  rw [hadd]; exact h.a.ck j hj
theorem sesC_cell (h : LdAt w m K o z) : ∀ j v, (sesC z)[j]? = some v → w.cell? ((⟨m, 4, none⟩ : Addr).add j) = some v := fun j v hv => by
  have hj : j < 8 := by have := (List.getElem?_eq_some_iff.1 hv).1; simpa [sesC] using this
  rw [sesC_at z hj] at hv
  cases hv
  have hadd : (⟨m, 4, none⟩ : Addr).add j = ⟨m, 4 + j, none⟩ := by unfold Addr.add; split <;> simp_all
  rw [hadd]; exact h.a.cs j hj
/-- The versions of the first keys. -/
def usedL (z : LdI) (n : Nat) : Nat := ((List.range n).map fun k => (z.k k).length).sum
theorem usedL_succ (z : LdI) (n : Nat) : usedL z (n + 1) = usedL z n + (z.k n).length := by unfold usedL; rw [List.range_succ, List.map_append, List.sum_append]; simp
theorem usedL_le (z : LdI) {n k : Nat} (h : n ≤ k) : usedL z n ≤ usedL z k := by
  induction h with
  | refl => exact Nat.le_refl _
  | step h ih => rw [usedL_succ]; omega
def RUse (w : World) (U : Nat → Nat) (a q : Value) (wr : World) (j : Nat) : Prop := j ≤ 64 ∧ q = .int .i64 j ∧ a = .int .i64 (U j) ∧ wr = w
theorem used_core (h : LdAt w m K o z) (U : Nat → Nat) (u0 : U 0 = 0) (us : ∀ j, U (j + 1) = U j + (z.k j).length) (ul : ∀ j, j ≤ 64 → U j ≤ 100000) : Calls Try.prog 26 #[.pointer (some ⟨m, 0, none⟩)] w fun e w' => e = .returned (.int .i64 (U 64)) ∧ w' = w := by
  have US := Lib.hid us
  have UL := Lib.hid ul
  have U0 := Lib.hid u0
  clear us ul u0
  have hc := keyC_cell h
  have sh := fun k (hk : k < 64) => (h.r k hk).shape
  have HS := Lib.hid sh
  have HC := Lib.hid hc
  clear hc sh h
  go_enter Try.func26, Try.ntmps26
  go_wp2_with (refine wpList_load_mid rfl 95 _ rfl ⟨m, 12, none⟩ rfl (keyC K) _ HC.out Try.underlying95 rfl (by kernel_rfl) ?_)
  go_loopw [3, 5, 10] (fun a _ q wr => ∃ j : Nat, RUse w U a q wr j) (fun _ _ q _ => 64 - (intOf q).toNat)
  case atStart => exact ⟨0, Nat.zero_le _, rfl, by rw [U0.out]; rfl, rfl⟩
  case round =>
    obtain ⟨j, hj, rfl, rfl, rfl⟩ := hrel
    by_cases hlt : j < 64
    · obtain ⟨A, c, eK, _⟩ := HS.out j hlt
      have ix := fun w => run_index_arr (P := Try.prog) (keyC K) Try.underlying95 Try.underlying94 rfl (by kernel_rfl) hlt (keyC_at K hlt) w
      rw [eK] at ix
      have us := US.out j
      have ul := UL.out (j + 1) hlt
      obtain ⟨u, eu⟩ : ∃ u, U j = u := ⟨_, rfl⟩
      obtain ⟨n, en⟩ : ∃ n, (z.k j).length = n := ⟨_, rfl⟩
      rw [eu, en] at us
      rw [en] at ix
      rw [us] at ul
      rw [eu]
      have U1 := Lib.hid us
      have wk : IntKind.i64.wrap ((j : Int) + 1) = (j : Int) + 1 := IntWalk.i64_in _ (by omega)
      have wu : IntKind.i64.wrap ((u : Int) + (n : Int)) = (u : Int) + (n : Int) := IntWalk.i64_in _ (by omega)
      clear us eu en eK
      go_wp2
      first | exact ⟨⟨j + 1, by omega, by go_num, by rw [U1.out]; simp, rfl⟩, by simp [intOf]; omega⟩ | (refine ⟨?rel2, ?meas2⟩; (case meas2 => (simp [intOf]; omega)); (case rel2 => ((repeat apply Exists.intro); exact ⟨⟨j + 1, by omega, by go_num, by rw [U1.out]; simp, rfl⟩, rfl⟩)))
    · obtain rfl : j = 64 := by omega
      go_wp2
      go_ret
      exact ⟨rfl, rfl⟩
/-- The lowest begin of the first sessions. -/
def lowN (z : LdI) (n : Nat) : Int := (List.range n).foldl (fun a i => match z.s i with | some t => min a t.start | none => a) 18446744073709551615
theorem lowN_succ (z : LdI) (n : Nat) : lowN z (n + 1) = match z.s n with | some t => min (lowN z n) t.start | none => lowN z n := by unfold lowN; rw [List.range_succ, List.foldl_append]; rfl
theorem used_same (h : LdAt w m K o z) (hu : usedL z 64 ≤ 100000) : Calls Try.prog 26 #[.pointer (some ⟨m, 0, none⟩)] w fun e w' => e = .returned (.int .i64 (usedL z 64)) ∧ w' = w :=
  used_core h (usedL z) rfl (usedL_succ z) fun j hj => Nat.le_trans (usedL_le z hj) hu
theorem used_any (h : LdAt w m K o z) (hu : usedL z 64 ≤ 100000) : Calls Try.prog 26 #[.pointer (some ⟨m, 0, none⟩)] w fun e w' => e = .returned (.int .i64 (usedL z 64)) ∧ Keep (fun _ => False) w w' :=
  (used_same h hu).mono fun e w' q => ⟨q.1, by rw [q.2]; exact Keep.refl _ _⟩
/-- The lowest begin so far. -/
def ROld (w : World) (z : LdI) (a q : Value) (wr : World) (j : Nat) : Prop := j ≤ 8 ∧ q = .int .i64 j ∧ a = .int .u64 (lowN z j) ∧ wr = w
theorem oldest_any (h : LdAt w m K o z) (hb : ∀ i t, i < 8 → z.s i = some t → U64 t.start) : Calls Try.prog 51 #[.pointer (some ⟨m, 0, none⟩)] w fun e w' => e = .returned (.int .u64 (lowN z 8)) ∧ Keep (fun _ => False) w w' := by
  have hc := sesC_cell h
  have HC := Lib.hid hc
  have H := Lib.hid h
  have HB := Lib.hid hb
  clear hc h hb
  go_enter Try.func51, Try.ntmps51
  go_wp2_with (refine wpList_load_mid rfl 93 _ rfl ⟨m, 4, none⟩ rfl (sesC z) _ HC.out Try.underlying93 rfl (by kernel_rfl) ?_)
  go_loopw [3, 5, 10] (fun a _ q wr => ∃ j : Nat, ROld w z a q wr j) (fun _ _ q _ => 8 - (intOf q).toNat)
  case atStart => exact ⟨0, Nat.zero_le _, rfl, rfl, rfl⟩
  case round =>
    obtain ⟨j, hj, rfl, rfl, rfl⟩ := hrel
    by_cases hlt : j < 8
    · have ix := fun w => run_index_arr (P := Try.prog) (sesC z) Try.underlying93 Try.underlying92 rfl (by kernel_rfl) hlt (sesC_at z hlt) w
      have ls := lowN_succ z j
      have wk : IntKind.i64.wrap ((j : Int) + 1) = (j : Int) + 1 := IntWalk.i64_in _ (by omega)
      cases ht : z.s j with
      | none =>
        rw [ht] at ls ix
        dsimp only [ptrO, Option.map] at ls ix
        have LS := Lib.hid ls
        clear ls ht
        go_wp2
        first | exact ⟨⟨j + 1, by omega, by go_num, by rw [LS.out], rfl⟩, by simp [intOf]; omega⟩ | (refine ⟨?rel2, ?meas2⟩; (case meas2 => (simp [intOf]; omega)); (case rel2 => ((repeat apply Exists.intro); exact ⟨⟨j + 1, by omega, by go_num, by rw [LS.out], rfl⟩, rfl⟩)))
      | some t =>
        rw [ht] at ls ix
        dsimp only [ptrO, Option.map] at ls ix
        have c2 := (H.out.t j t hlt ht).c2
        have LS := Lib.hid ls
        obtain ⟨u, eu⟩ : ∃ u, lowN z j = u := ⟨_, rfl⟩
        rw [eu] at LS ⊢
        clear ls ht eu
        go_wp2
        first | exact ⟨⟨j + 1, by omega, by go_num, by rw [LS.out]; congr 1; rw [Int.min_def]; split <;> split <;> omega, rfl⟩, by simp [intOf]; omega⟩ | (refine ⟨?rel2, ?meas2⟩; (case meas2 => (simp [intOf]; omega)); (case rel2 => ((repeat apply Exists.intro); exact ⟨⟨j + 1, by omega, by go_num, by rw [LS.out]; congr 1; rw [Int.min_def]; split <;> split <;> omega, rfl⟩, rfl⟩)))
    · obtain rfl : j = 8 := by omega
      go_wp2
      go_ret
      exact ⟨rfl, Keep.refl _ _⟩
end
end Go.Proofs.Ytkkjofefjepodaa
