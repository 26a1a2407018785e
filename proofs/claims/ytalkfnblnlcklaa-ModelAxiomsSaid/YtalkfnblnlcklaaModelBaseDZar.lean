/- Several texts, one behind the other: LdF, LdU, LdC. -/
import Derived.Test.YtalkfnblnlcklaaModelBaseDZaq
import Derived.Deep.CutRange
import Derived.Lib.SliceRun
/- Package model as landed, in memory, fourth part: find, relies, Used, oldest. Condition: at most 100,000 versions of a key. -/
namespace Go.Proofs.Ytalkfnblnlcklaa
open Go.ChangeShapes Go.WideShapes Go.ChangeAt Go.RowKit
set_option linter.unusedVariables false
set_option linter.unusedSimpArgs false
section
variable {w w' : World} {m : Nat} {K : Nat → Value} {o : Nat → Nat} {z : LdI} {T : Nat → Prop} {F : Nat → FtI} {P : VeI → Bool} {t : TtI} {fv : Value} {l : List VeI}
theorem OwnV.shape {v : Value} (ow : OwnV w v l) : ∃ A c, v = .slice A l.length c ∧ (A = none → l = []) ∧ (∀ ad, A = some ad → ∃ g, ad = ⟨g, 0, none⟩) ∧ ∀ j x, l[j]? = some x → ∃ g, A = some ⟨g, 0, none⟩ ∧ w.cell? ⟨g, j, none⟩ = some (.pointer (some ⟨x.b, 0, none⟩)) := by
 rcases ow.form with ⟨h1, h2⟩ | ⟨g, c, h1, _⟩
 ·have h2 : l = [] := by simpa using h2
  subst h2
  exact ⟨none, 0, h1, fun _ => rfl, (fun ad h => by cases h), (fun j x h => by simp at h)⟩
 ·rw [List.length_map] at h1
  subst h1
  refine ⟨_, c, rfl, (fun h => by cases h), (fun ad h => by cases h; exact ⟨g, rfl⟩), fun j x hx => ⟨g, rfl, ?_⟩⟩
  have hl2 : (l.map VeI.b).length = l.length := List.length_map _
  have hlt := (List.getElem?_eq_some_iff.1 hx).1
  have o2 := ow
  rw [← hl2] at o2
  have := Own.cell o2 j (by rw [hl2]; exact hlt)
  rw [this]
  have e := List.getElem?_eq_some_iff.1 hx
  simp [ptrV, e.2]
set_option maxRecDepth 100000 in
theorem find_any (h : LdAt w m K o z) {k : Nat} (hk : k < 64) (hl : (z.k k).length ≤ 100000) (hf : IsHold fv w z.F P) :
  Calls Try.prog 43 #[.pointer (some ⟨m, 0, none⟩), .int .i64 k, fv] w fun e w' => e = .returned (ptrO (((z.k k).find? P).map VeI.b)) ∧ Keep (fun _ => False) w w' := by
 have C := index_any (h.r k hk) hl (fun x hx => h.ver hk hx) hf
 have ck := h.a.ck k hk
 obtain ⟨A, c, eK, hA0, hA1, hA2⟩ := (h.r k hk).shape
 rw [eK] at C ck
 obtain ⟨n, en⟩ : ∃ n, (z.k k).length = n := ⟨_, rfl⟩
 rw [en] at C ck
 have HA := Lib.hid hA2
 have HN := Lib.hid en
 obtain ⟨q, eq⟩ : ∃ q, (z.k k).find? P = q := ⟨_, rfl⟩
 have HQ := Lib.hid eq
 rw [eq]
 clear hA0 hA1 hA2 eK en hf hl eq
 go_enter Try.func43, Try.ntmps43
 go_wp2_with fail
 refine C.mono ?_
 rintro e w1 ⟨r, rfl, hr, k1⟩
 clear C
 rcases hr with ⟨rfl, hn⟩ | ⟨j, x, rfl, hx, hn, _⟩
 ·obtain rfl : q = none := HQ.out.symm.trans hn
  go_wp2
  go_ret
  exact ⟨rfl, k1⟩
 ·obtain rfl : q = some x := HQ.out.symm.trans hn
  obtain ⟨g, rfl, hc⟩ := HA.out j x hx
  have hc := k1.cell hc id
  have hlt : j < n := by rw [← HN.out]; exact (List.getElem?_eq_some_iff.1 hx).1
  clear hx
  go_wp2
  go_ret
  exact ⟨rfl, k1⟩
/-- A transaction that relies on some keys more. -/
def relyT (t : TtI) (lvl : Int) (lo hi : Int) : TtI := { t with again := fun k => t.again k || (decide (lvl ≤ t.level) && decide (lo ≤ (k : Int)) && decide ((k : Int) ≤ hi)) }
theorem putT_put (s : Nat → Option TtI) (i : Nat) (a b : Option TtI) : putT (putT s i a) i b = putT s i b := by
 funext j
 unfold putT
 by_cases e : j = i
 ·rw [if_pos e, if_pos e]
 ·rw [if_neg e, if_neg e, if_neg e]
theorem putT_same {s : Nat → Option TtI} {i : Nat} {a : Option TtI} (h : s i = a) : putT s i a = s := by
 funext j
 unfold putT
 by_cases e : j = i
 ·rw [if_pos e, e, h]
 ·rw [if_neg e]
set_option maxRecDepth 100000 in
theorem relies_any (h : LdAt w m K o z) {i : Nat} (hi : i < 8) (ht : z.s i = some t) (lvl : Int) (lo hi' : Nat) (h0 : lo ≤ hi') (h1 : hi' < 64) :
  Calls Try.prog 53 #[.pointer (some ⟨t.b, 0, none⟩), .int .i64 lvl, .int .i64 lo, .int .i64 hi'] w fun e w' => e = .returned (.tuple #[]) ∧ LdAt w' m K o { z with s := putT z.s i (some (relyT t lvl lo hi')) } ∧ Keep (fun g => g = t.b) w w' := by
 have c1 := (h.t i t hi ht).c1
 by_cases hlv : t.level < lvl
 ·have d : decide (t.level < lvl) = true := decide_eq_true hlv
  have e : { z with s := putT z.s i (some (relyT t lvl lo hi')) } = z := by
   have : relyT t lvl lo hi' = t := by
    unfold relyT
    have : decide (lvl ≤ t.level) = false := by rw [decide_eq_false_iff_not]; omega
    rw [this]
    simp
   rw [this, putT_same ht]
  rw [e]
  obtain ⟨lv, elv⟩ : ∃ lv, t.level = lv := ⟨_, rfl⟩
  rw [elv] at d c1
  clear e hlv elv
  go_enter Try.func53, Try.ntmps53
  go_wp2
  refine bodyPost_ret (results_none rfl _ _ _) rfl ?_
  exact ⟨rfl, h, Keep.refl _ _⟩
 ·have d : decide (t.level < lvl) = false := decide_eq_false hlv
  have H := Lib.hid h
  have HT := Lib.hid ht
  have HL := Lib.hid hlv
  obtain ⟨lv, elv⟩ : ∃ lv, t.level = lv := ⟨_, rfl⟩
  obtain ⟨b, eb⟩ : ∃ b, t.b = b := ⟨_, rfl⟩
  rw [elv] at d c1
  rw [eb] at c1 ⊢
  have EB := Lib.hid eb
  clear h ht hlv elv eb
  go_enter Try.func53, Try.ntmps53
  go_wp2
  go_loopw [8] (fun q wr => ∃ j : Nat, lo ≤ j ∧ j ≤ hi' + 1 ∧ q = .int .i64 j ∧ Keep (fun g => g = b) w wr ∧ LdAt wr m K o { z with s := putT z.s i (some (relyT t lvl lo ((j : Int) - 1))) }) (fun q _ => hi' + 1 - (intOf q).toNat)
  case atStart =>
   refine ⟨lo, Nat.le_refl _, by omega, rfl, Keep.refl _ _, ?_⟩
   have : relyT t lvl lo ((lo : Int) - 1) = t := by
    unfold relyT
    have : ∀ k : Nat, (decide (lvl ≤ t.level) && decide ((lo : Int) ≤ (k : Int)) && decide ((k : Int) ≤ (lo : Int) - 1)) = false := fun k => by
     rw [Bool.and_eq_false_iff, Bool.and_eq_false_iff, decide_eq_false_iff_not, decide_eq_false_iff_not, decide_eq_false_iff_not]; omega
    simp only [this, Bool.or_false]
   rw [this, putT_same HT.out]
   exact H.out
  case round =>
   obtain ⟨j, hj0, hj1, rfl, kr, hr⟩ := hrel
   have HR := Lib.hid hr
   have tt := hr.t i _ hi (putT_self _ _ _)
   have hj64 : j < 65 := by omega
   clear hr
   by_cases hle : j ≤ hi'
   ·have wk : IntKind.i64.wrap ((j : Int) + 1) = (j : Int) + 1 := IntWalk.i64_in _ (by omega)
    have ca := tt.ca j (by omega)
    have fz := tt.fz (4 + j)
    have eb2 : (relyT t lvl lo ((j : Int) - 1)).b = b := EB.out
    rw [eb2] at ca fz
    have HTT := Lib.hid tt
    clear tt
    go_wp2
    go_roundw
    case rel =>
     refine ⟨j + 1, by omega, by omega, by go_num, kr.setCell (p := ⟨b, 4 + j, none⟩) rfl (Value.bool true), ?_⟩
     have T2 := TtAt.again' HTT.out (k := j) (by omega) (relyT t lvl lo (((j + 1 : Nat) : Int) - 1)).again (by
      have : decide (lvl ≤ t.level) = true := by have := HL.out; rw [decide_eq_true_iff]; omega
      show (t.again j || (decide (lvl ≤ t.level) && decide ((lo : Int) ≤ (j : Int)) && decide ((j : Int) ≤ ((j + 1 : Nat) : Int) - 1))) = true
      rw [this, decide_eq_true (show (lo : Int) ≤ (j : Int) by omega), decide_eq_true (show (j : Int) ≤ ((j + 1 : Nat) : Int) - 1 by omega)]; simp) (fun a ha => by
      show (t.again a || (decide (lvl ≤ t.level) && decide ((lo : Int) ≤ (a : Int)) && decide ((a : Int) ≤ ((j + 1 : Nat) : Int) - 1))) = (t.again a || (decide (lvl ≤ t.level) && decide ((lo : Int) ≤ (a : Int)) && decide ((a : Int) ≤ (j : Int) - 1)))
      have : decide ((a : Int) ≤ ((j + 1 : Nat) : Int) - 1) = decide ((a : Int) ≤ (j : Int) - 1) := by rw [Bool.eq_iff_iff, decide_eq_true_iff, decide_eq_true_iff]; omega
      rw [this])
     have := HR.out.txn hi (putT_self _ _ _) { relyT t lvl lo ((j : Int) - 1) with again := (relyT t lvl lo (((j + 1 : Nat) : Int) - 1)).again } rfl rfl T2
     rw [eb2] at this
     have e3 : ({ relyT t lvl lo ((j : Int) - 1) with again := (relyT t lvl lo (((j + 1 : Nat) : Int) - 1)).again } : TtI) = relyT t lvl lo (((j + 1 : Nat) : Int) - 1) := rfl
     rw [e3] at this
     simpa only [putT_put] using this
    case measure => simp [intOf]; omega
   ·obtain rfl : j = hi' + 1 := by omega
    have dj : decide (((hi' + 1 : Nat) : Int) ≤ (hi' : Int)) = false := by rw [decide_eq_false_iff_not]; omega
    clear tt
    go_wp2
    go_end0
    refine ⟨rfl, ?_, kr⟩
    have e : ((hi' + 1 : Nat) : Int) - 1 = hi' := by omega
    rw [← e]; exact HR.out
end
end Go.Proofs.Ytalkfnblnlcklaa
/- Package model as landed, in memory: an array read as a whole and by places; Used, oldest. Condition: at most 100,000 versions. -/
namespace Go.Proofs.Ytalkfnblnlcklaa
open Go.ChangeShapes Go.WideShapes Go.ChangeAt Go.RowKit
set_option linter.unusedVariables false
set_option linter.unusedSimpArgs false
theorem run_index_arr {P : Program} {t e : TypeId} {n i : Nat} (cs : List Value) {d : TypeDesc} (hu : P.underlying t = some (.array n e)) (he : P.underlying e = some d) (hd : (match d with | .struct _ | .array _ _ => false | _ => true) = true)
    (hs : (P.info? e).map (·.size) = some 1) (hi : i < n) {v : Value} (hv : cs[i]? = some v) (w : World) : (Instr.index t (.agg cs.toArray) (.int .i64 i)).run P w = .ok v w := by
  cases hq : P.info? e with
  | none => simp [hq] at hs
  | some j =>
    have hz : j.size = 1 := by simpa [hq] using hs
    have hagg : (isAgg e).run P w = .ok false w := by
      unfold isAgg
      rw [Sem.run_bind, run_underlying he w]
      cases d <;> simp_all
    have h0 : (0 : Int) ≤ (i : Int) ∧ (i : Int) < (n : Int) := ⟨by omega, by omega⟩
    unfold Instr.index
    simp only [asIntOf, Sem.run_bind, Sem.run_pure, Result.andThen_ok, run_underlying hu w]
    simp [h0, Sem.run_bind, sizeOf, typeInfo, hq, hz, part, hagg, hi, hv]
section
variable {w w' : World} {m : Nat} {K : Nat → Value} {o : Nat → Nat} {z : LdI} {T : Nat → Prop} {F : Nat → FtI} {P : VeI → Bool} {t : TtI} {fv : Value} {l : List VeI}
def keyC (K : Nat → Value) : List Value := (List.range 64).map K
def sesC (z : LdI) : List Value := (List.range 8).map fun i => ptrO ((z.s i).map TtI.b)
theorem keyC_at (K : Nat → Value) {k : Nat} (hk : k < 64) : (keyC K)[k]? = some (K k) := by unfold keyC; rw [List.getElem?_map, List.getElem?_range hk]; rfl
theorem sesC_at (z : LdI) {k : Nat} (hk : k < 8) : (sesC z)[k]? = some (ptrO ((z.s k).map TtI.b)) := by unfold sesC; rw [List.getElem?_map, List.getElem?_range hk]; rfl
theorem keyC_cell (h : LdAt w m K o z) : ∀ j v, (keyC K)[j]? = some v → w.cell? ((⟨m, 12, none⟩ : Addr).add j) = some v := fun j v hv => by
 have hj : j < 64 := by have := (List.getElem?_eq_some_iff.1 hv).1; simpa [keyC] using this
 rw [keyC_at K hj] at hv
 cases hv
 have hadd : (⟨m, 12, none⟩ : Addr).add j = ⟨m, 12 + j, none⟩ := by unfold Addr.add; split <;> simp_all
 rw [hadd]; exact h.a.ck j hj
theorem sesC_cell (h : LdAt w m K o z) : ∀ j v, (sesC z)[j]? = some v → w.cell? ((⟨m, 4, none⟩ : Addr).add j) = some v := fun j v hv => by
 have hj : j < 8 := by have := (List.getElem?_eq_some_iff.1 hv).1; simpa [sesC] using this
 rw [sesC_at z hj] at hv
 cases hv
 have hadd : (⟨m, 4, none⟩ : Addr).add j = ⟨m, 4 + j, none⟩ := by unfold Addr.add; split <;> simp_all
 rw [hadd]; exact h.a.cs j hj
/-- The versions of the first keys. -/
def usedL (z : LdI) (n : Nat) : Nat := ((List.range n).map fun k => (z.k k).length).sum
theorem usedL_succ (z : LdI) (n : Nat) : usedL z (n + 1) = usedL z n + (z.k n).length := by unfold usedL; rw [List.range_succ, List.map_append, List.sum_append]; simp
theorem usedL_le (z : LdI) {n k : Nat} (h : n ≤ k) : usedL z n ≤ usedL z k := by
 induction h with
 | refl => exact Nat.le_refl _
 | step h ih => rw [usedL_succ]; omega
def RUse (w : World) (U : Nat → Nat) (a q : Value) (wr : World) (j : Nat) : Prop := j ≤ 64 ∧ q = .int .i64 j ∧ a = .int .i64 (U j) ∧ wr = w
theorem used_core (h : LdAt w m K o z) (U : Nat → Nat) (u0 : U 0 = 0) (us : ∀ j, U (j + 1) = U j + (z.k j).length) (ul : ∀ j, j ≤ 64 → U j ≤ 100000) : Calls Try.prog 31 #[.pointer (some ⟨m, 0, none⟩)] w fun e w' => e = .returned (.int .i64 (U 64)) ∧ w' = w := by
 have US := Lib.hid us
 have UL := Lib.hid ul
 have U0 := Lib.hid u0
 clear us ul u0
 have hc := keyC_cell h
 have sh := fun k (hk : k < 64) => (h.r k hk).shape
 have HS := Lib.hid sh
 have HC := Lib.hid hc
 clear hc sh h
 go_enter Try.func31, Try.ntmps31
 go_wp2_with (refine wpList_load_mid rfl 52 _ rfl ⟨m, 12, none⟩ rfl (keyC K) _ HC.out Try.underlying52 rfl (by kernel_rfl) ?_)
 go_loopw [3, 5, 10] (fun a _ q wr => ∃ j : Nat, RUse w U a q wr j) (fun _ _ q _ => 64 - (intOf q).toNat)
 case atStart => exact ⟨0, Nat.zero_le _, rfl, by rw [U0.out]; rfl, rfl⟩
 case round =>
  obtain ⟨j, hj, rfl, rfl, rfl⟩ := hrel
  by_cases hlt : j < 64
  ·obtain ⟨A, c, eK, _⟩ := HS.out j hlt
   have ix := fun w => run_index_arr (P := Try.prog) (keyC K) Try.underlying52 Try.underlying51 rfl (by kernel_rfl) hlt (keyC_at K hlt) w
   rw [eK] at ix
   have us := US.out j
   have ul := UL.out (j + 1) hlt
   obtain ⟨u, eu⟩ : ∃ u, U j = u := ⟨_, rfl⟩
   obtain ⟨n, en⟩ : ∃ n, (z.k j).length = n := ⟨_, rfl⟩
   rw [eu, en] at us
   rw [en] at ix
   rw [us] at ul
   rw [eu]
   have U1 := Lib.hid us
   have wk : IntKind.i64.wrap ((j : Int) + 1) = (j : Int) + 1 := IntWalk.i64_in _ (by omega)
   have wu : IntKind.i64.wrap ((u : Int) + (n : Int)) = (u : Int) + (n : Int) := IntWalk.i64_in _ (by omega)
   clear us eu en eK
   go_wp2
   first | exact ⟨⟨j + 1, by omega, by go_num, by rw [U1.out]; simp, rfl⟩, by simp [intOf]; omega⟩ | (refine ⟨?rel2, ?meas2⟩; (case meas2 => (simp [intOf]; omega)); (case rel2 => ((repeat apply Exists.intro); exact ⟨⟨j + 1, by omega, by go_num, by rw [U1.out]; simp, rfl⟩, rfl⟩)))
  ·obtain rfl : j = 64 := by omega
   go_wp2
   go_ret
   exact ⟨rfl, rfl⟩
/-- The lowest begin of the first sessions. -/
def lowN (z : LdI) (n : Nat) : Int := (List.range n).foldl (fun a i => match z.s i with | some t => min a t.start | none => a) 18446744073709551615
theorem lowN_succ (z : LdI) (n : Nat) : lowN z (n + 1) = match z.s n with | some t => min (lowN z n) t.start | none => lowN z n := by unfold lowN; rw [List.range_succ, List.foldl_append]; rfl
theorem used_same (h : LdAt w m K o z) (hu : usedL z 64 ≤ 100000) : Calls Try.prog 31 #[.pointer (some ⟨m, 0, none⟩)] w fun e w' => e = .returned (.int .i64 (usedL z 64)) ∧ w' = w :=
 used_core h (usedL z) rfl (usedL_succ z) fun j hj => Nat.le_trans (usedL_le z hj) hu
theorem used_any (h : LdAt w m K o z) (hu : usedL z 64 ≤ 100000) : Calls Try.prog 31 #[.pointer (some ⟨m, 0, none⟩)] w fun e w' => e = .returned (.int .i64 (usedL z 64)) ∧ Keep (fun _ => False) w w' :=
 (used_same h hu).mono fun e w' q => ⟨q.1, by rw [q.2]; exact Keep.refl _ _⟩
/-- The lowest begin so far. -/
def ROld (w : World) (z : LdI) (a q : Value) (wr : World) (j : Nat) : Prop := j ≤ 8 ∧ q = .int .i64 j ∧ a = .int .u64 (lowN z j) ∧ wr = w
theorem oldest_any (h : LdAt w m K o z) (hb : ∀ i t, i < 8 → z.s i = some t → U64 t.start) : Calls Try.prog 32 #[.pointer (some ⟨m, 0, none⟩)] w fun e w' => e = .returned (.int .u64 (lowN z 8)) ∧ Keep (fun _ => False) w w' := by
  have hc := sesC_cell h
  have HC := Lib.hid hc
  have H := Lib.hid h
  have HB := Lib.hid hb
  clear hc h hb
  go_enter Try.func32, Try.ntmps32
  go_wp2_with (refine wpList_load_mid rfl 50 _ rfl ⟨m, 4, none⟩ rfl (sesC z) _ HC.out Try.underlying50 rfl (by kernel_rfl) ?_)
  go_loopw [3, 5, 10] (fun a _ q wr => ∃ j : Nat, ROld w z a q wr j) (fun _ _ q _ => 8 - (intOf q).toNat)
  case atStart => exact ⟨0, Nat.zero_le _, rfl, rfl, rfl⟩
  case round =>
    obtain ⟨j, hj, rfl, rfl, rfl⟩ := hrel
    by_cases hlt : j < 8
    · have ix := fun w => run_index_arr (P := Try.prog) (sesC z) Try.underlying50 Try.underlying49 rfl (by kernel_rfl) hlt (sesC_at z hlt) w
      have ls := lowN_succ z j
      have wk : IntKind.i64.wrap ((j : Int) + 1) = (j : Int) + 1 := IntWalk.i64_in _ (by omega)
      cases ht : z.s j with
      | none =>
        rw [ht] at ls ix
        dsimp only [ptrO, Option.map] at ls ix
        have LS := Lib.hid ls
        clear ls ht
        go_wp2
        first | exact ⟨⟨j + 1, by omega, by go_num, by rw [LS.out], rfl⟩, by simp [intOf]; omega⟩ | (refine ⟨?rel2, ?meas2⟩; (case meas2 => (simp [intOf]; omega)); (case rel2 => ((repeat apply Exists.intro); exact ⟨⟨j + 1, by omega, by go_num, by rw [LS.out], rfl⟩, rfl⟩)))
      | some t =>
        rw [ht] at ls ix
        dsimp only [ptrO, Option.map] at ls ix
        have c2 := (H.out.t j t hlt ht).c2
        have LS := Lib.hid ls
        obtain ⟨u, eu⟩ : ∃ u, lowN z j = u := ⟨_, rfl⟩
        rw [eu] at LS ⊢
        clear ls ht eu
        go_wp2
        first | exact ⟨⟨j + 1, by omega, by go_num, by rw [LS.out]; congr 1; rw [Int.min_def]; split <;> split <;> omega, rfl⟩, by simp [intOf]; omega⟩ | (refine ⟨?rel2, ?meas2⟩; (case meas2 => (simp [intOf]; omega)); (case rel2 => ((repeat apply Exists.intro); exact ⟨⟨j + 1, by omega, by go_num, by rw [LS.out]; congr 1; rw [Int.min_def]; split <;> split <;> omega, rfl⟩, rfl⟩)))
    · obtain rfl : j = 8 := by omega
      go_wp2
      go_ret
      exact ⟨rfl, Keep.refl _ _⟩
end
end Go.Proofs.Ytalkfnblnlcklaa
/- Package model as landed, in memory: slices.DeleteFunc over versions. Condition: at most 100,000 versions of a key. -/
namespace Go.Proofs.Ytalkfnblnlcklaa
open Go.ChangeShapes Go.WideShapes Go.ChangeAt Go.RowKit
set_option linter.unusedVariables false
set_option linter.unusedSimpArgs false
section
variable {w w' : World} {m g n c : Nat} {K : Nat → Value} {o : Nat → Nat} {z : LdI} {T : Nat → Prop} {F : Nat → FtI} {P : VeI → Bool} {t : TtI} {fv : Value} {l : List VeI}
theorem OwnV.row (ow : OwnV w (.slice (some ⟨g, 0, none⟩) n c) l) : ∃ cur : Array Value, n = l.length ∧ w.heap[g]? = some (.cells cur 85 (0, 0)) ∧ l.length ≤ c ∧ c ≤ maxLen ∧ cur.size = c ∧ cur.toList.take l.length = l.map fun v => ptrV v.b := by
 obtain ⟨h1, h2⟩ := id ow
 rcases h2 with ⟨h2, _⟩ | ⟨g', c', cur, hv, hb, hh, hl, hm, hs, ht⟩
 ·simp at h2
 ·simp at hv
  obtain ⟨rfl, rfl, rfl⟩ := hv
  exact ⟨cur, by simp, by simpa using hh, by simpa using hl, hm, by simpa using hs, by have := ht; simp only [List.length_map, Nat.mul_one, List.map_map] at this; exact this⟩
theorem OwnV.of_row {cur : Array Value} (hh : w.heap[g]? = some (.cells cur 85 (0, 0))) (hl : l.length ≤ c) (hm : c ≤ maxLen) (hs : cur.size = c) (ht : cur.toList.take l.length = l.map fun v => ptrV v.b) : OwnV w (.slice (some ⟨g, 0, none⟩) l.length c) l := by
 have e : (l.map VeI.b).length = l.length := List.length_map _
 unfold OwnV Own
 rw [e]
 exact ⟨by simp, .inr ⟨g, c, cur, rfl, Nat.zero_le _, hh, hl, hm, by simpa using hs, by rw [Nat.mul_one, List.map_map]; exact ht⟩⟩
theorem OwnV.put (ow : OwnV w (.slice (some ⟨g, 0, none⟩) n c) l) (i : Nat) (x : VeI) : OwnV (w.setCell ⟨g, i, none⟩ (ptrV x.b)) (.slice (some ⟨g, 0, none⟩) n c) (l.set i x) := by
 have := Own.set ow i x.b
 unfold OwnV
 rw [List.map_set]
 exact this
theorem IsHold.func {f : FuncId} {p : Value} (h : IsHold (.func (.func f) #[] #[p]) w F P) : (∀ (a : Array Value) (w : World), (callFunc f a).run Try.prog w = .ok (.enter f a) w) ∧ TellsV w F P f fun x => #[x, p] := by
 obtain ⟨f', p', e, hh⟩ := h.form
 rcases hh with ⟨q, hh⟩ | ⟨q, hh⟩
 ·simp at q
  obtain ⟨rfl, rfl⟩ := q
  exact ⟨e, hh⟩
 ·simp at q
theorem zero_ver (w : World) : (zeroValue 85).run Try.prog w = .ok (.pointer none) w := by kernel_rfl
theorem row_set : ∀ (vs : List Value) (o : Nat) (w : World) (xs : List Value), w.ownsRow 0 85 1 (.slice (some ⟨g, 0, none⟩) n c) n xs →
  ∃ xs', (w.setCells g o vs).ownsRow 0 85 1 (.slice (some ⟨g, 0, none⟩) n c) n xs' ∧ xs'.take o = xs.take o ∧ Keep (fun j => j = g) w (w.setCells g o vs)
 | [], o, w, xs, h => ⟨xs, h, rfl, Keep.refl _ _⟩
 | v :: r, o, w, xs, h => by
  obtain ⟨xs', h1, h2, k⟩ := row_set r (o + 1) _ _ (World.ownsRow.stored h o v).1
  refine ⟨xs', h1, ?_, (keep_one w ⟨g, o, none⟩ v).trans k⟩
  have := congrArg (List.take o) h2
  rw [List.take_take, List.take_take, Nat.min_eq_left (Nat.le_succ o)] at this
  rw [this]
  apply List.ext_getElem?
  intro a
  simp only [List.getElem?_take, List.getElem?_set]
  split
  ·rw [if_neg (by omega)]
  ·rfl
theorem OwnV.clear (ow : OwnV w (.slice (some ⟨g, 0, none⟩) n c) l) {i : Nat} (hi : i ≤ n) (vs : List Value) :
  OwnV (w.setCells g i vs) (.slice (some ⟨g, 0, none⟩) i c) (l.take i) ∧ Keep (fun j => j = g) w (w.setCells g i vs) := by
 obtain ⟨_, hn, _⟩ := ow.row
 have o2 : w.ownsRow 0 85 1 (.slice (some ⟨g, 0, none⟩) n c) n ((l.map VeI.b).map ptrV) := by
  have := ow
  unfold OwnV Own at this
  rw [List.length_map, ← hn] at this
  exact this
 obtain ⟨xs', h1, h2, k⟩ := row_set vs i w _ o2
 refine ⟨?_, k⟩
 obtain ⟨a1, a2⟩ := h1
 rcases a2 with ⟨a2, _⟩ | ⟨g', c', cur, hv, hb, hh, hl, hm, hs, ht⟩
 ·simp at a2
 ·simp at hv
  obtain ⟨rfl, rfl⟩ := hv
  have li : (l.take i).length = i := by rw [List.length_take, ← hn]; exact Nat.min_eq_left hi
  have := OwnV.of_row (w := w.setCells g i vs) (l := l.take i) (c := c) hh (by rw [li]; omega) hm (by simpa using hs) (by
   rw [li]
   have e := congrArg (List.take i) ht
   rw [List.take_take, h2, Nat.mul_one, Nat.min_eq_left hi] at e
   rw [e, ← List.map_take, ← List.map_take, List.map_map]
   rfl)
  rw [li] at this
  exact this
theorem wpList_clear_r {P : Program} (w : World) {ops : Array Oper} {rest : List Oper} {o : Oper} {a : Act} {Q : Exit → Act → World → Prop} (hgd : o.guard = none) (s : Operand) (t : TypeId)
  (ho : o.op = .call { callee := .builtin .clear, args := #[s], argTypes := #[t] }) (vs : Value) (hs : a.eval s = vs) {v' : Value} {w' : World}
  (hr : (Builtin.clear_ #[t] o.type #[vs]).run P w = .ok v' w') (h : wpList P ops Q rest (a.put o.dst v') w') : wpList P ops Q (o :: rest) a w := by
 refine wpList_plain hgd fun K hK => ?_
 unfold Oper.wp execOp
 simp only [ho, resolve, invoke, builtin, Sem.run_bind, Sem.run_pure, Result.andThen_ok, List.map_toArray, List.map_cons, List.map_nil, hs, hr]
 exact hK _ _ h
theorem filter_first {P : VeI → Bool} (h : l.find? P = none) : (l.filter fun v => !P v) = l := List.filter_eq_self.2 fun x hx => by have := List.find?_eq_none.1 h x hx; simpa using this
theorem take_first {P : VeI → Bool} : ∀ {l : List VeI} {i : Nat} {x : VeI}, l[i]? = some x → (∀ j y, j < i → l[j]? = some y → P y = false) → (l.take i).filter (fun v => !P v) = l.take i := fun {l i x} hx hn => List.filter_eq_self.2 fun y hy => by
 obtain ⟨j, hj⟩ := List.mem_iff_getElem?.1 hy
 rw [List.getElem?_take] at hj
 split at hj
 ·rename_i q
  rw [hn j y q hj]; rfl
 ·cases hj
structure RDel (w : World) (g n c : Nat) (P : VeI → Bool) (l : List VeI) (a q : Value) (wr : World) (L : List VeI) (i j : Nat) : Prop where
 ij : i < j
 jn : j ≤ n
 a : a = .int .i64 i
 q : q = .int .i64 j
 len : L.length = n
 pre : L.take i = (l.take j).filter fun v => !P v
 suf : ∀ k, j ≤ k → L[k]? = l[k]?
 ow : OwnV wr (.slice (some ⟨g, 0, none⟩) n c) L
 k : Keep (fun b => b = g) w wr
def DelP (w : World) (v : Value) (l : List VeI) (P : VeI → Bool) (e : Ending) (w' : World) : Prop := ∃ v', e = .returned v' ∧ OwnV w' v' (l.filter fun x => !P x) ∧ v'.ownBlock = v.ownBlock ∧ Keep (fun j => v.ownBlock = some j) w w'
theorem FirstV.at' {r : Int} (h : FirstV l P r) : (r = -1 ∧ l.find? P = none) ∨ ∃ (i : Nat) (x : VeI), r = i ∧ l[i]? = some x ∧ P x = true ∧ (l.take i).filter (fun v => !P v) = l.take i := by
 rcases h with h | ⟨i, x, e, hx, hf, hn⟩
 ·exact .inl h
 ·exact .inr ⟨i, x, e, hx, List.find?_some hf, take_first hx hn⟩
set_option maxRecDepth 100000 in
set_option maxHeartbeats 4000000 in
theorem delete_any {v : Value} (ow : OwnV w v l) (hl : l.length ≤ 100000) (hv : ∀ x ∈ l, ∀ w', Keep (fun j => v.ownBlock = some j) w w' → VeF w' F x) {f : FuncId} {p : Nat} (hf : ∀ w', Keep (fun j => v.ownBlock = some j) w w' → IsHold (.func (.func f) #[] #[.pointer (some ⟨p, 0, none⟩)]) w' F P) :
  Calls Try.prog 33 #[v, .func (.func f) #[] #[.pointer (some ⟨p, 0, none⟩)]] w (DelP w v l P) := by
 have C := index_any ow hl (fun x hx => hv x hx w (Keep.refl _ _)) (hf w (Keep.refl _ _))
 rcases ow.form with ⟨rfl, h2⟩ | ⟨g, c, h1, _⟩
 ·have h2 : l = [] := by simpa using h2
  subst h2
  clear hv hf hl
  go_enter Try.func33, Try.ntmps33
  go_wp2_with fail
  refine C.mono ?_
  rintro e w1 ⟨r, rfl, hr, k1⟩
  clear C
  rcases hr with ⟨rfl, _⟩ | ⟨_, _, _, hx, _⟩
  ·go_wp2
   go_ret
   exact ⟨_, rfl, Own.nil, rfl, k1.mono fun _ e => e.elim⟩
  ·cases hx
 ·rw [List.length_map] at h1
  obtain ⟨n, en⟩ : ∃ n, l.length = n := ⟨_, rfl⟩
  rw [en] at h1 hl
  subst h1
  have hnc : n ≤ c := by obtain ⟨_, _, _, q, _⟩ := ow.row; omega
  have hcm : c ≤ maxLen := by obtain ⟨_, _, _, _, q, _⟩ := ow.row; exact q
  have cc : c ≤ 9223372036854775807 := hcm
  have EN := Lib.hid en
  have OW := Lib.hid ow
  have HV := Lib.hid hv
  have HF := Lib.hid hf
  clear ow hv hf en hcm
  go_enter Try.func33, Try.ntmps33
  go_wp2_with fail
  refine C.mono ?_
  rintro e w1 ⟨r, rfl, hr, k1⟩
  clear C
  rcases hr.at' with ⟨rfl, hn⟩ | ⟨i0, x0, rfl, hx, hp, ht⟩
  ·clear hr
   go_wp2
   go_ret
   exact ⟨_, rfl, by rw [filter_first hn]; exact OW.out.keep k1 (fun _ _ => id), rfl, k1.mono fun _ e => e.elim⟩
  ·have hi0 : i0 < n := by rw [← EN.out]; exact (List.getElem?_eq_some_iff.1 hx).1
   have dn : ((i0 : Int) == -1) = false := by simp
   have w0 : IntKind.i64.wrap ((i0 : Int) + 1) = (i0 : Int) + 1 := IntWalk.i64_in _ (by omega)
   have START : RDel w g n c P l (.int .i64 i0) (.int .i64 ((i0 : Int) + 1)) w1 l i0 (i0 + 1) := ⟨by omega, by omega, rfl, by go_num, EN.out, by
    rw [List.take_add_one, hx, List.filter_append, ht]; simp [hp], fun _ _ => rfl, OW.out.keep k1 (fun _ _ => id), k1.mono fun _ e => e.elim⟩
   have ST := Lib.hid START
   clear hr hx hp ht START k1
   go_wp2
   go_loopw [5, 6, 7] (fun a q _ wr => ∃ (L : List VeI) (i j : Nat), RDel w g n c P l a q wr L i j) (fun _ q _ _ => n - (intOf q).toNat)
   case atStart => exact ⟨l, i0, i0 + 1, ST.out⟩
   case round =>
    obtain ⟨L, i, j, hR⟩ := hrel
    obtain ⟨hij, hjn, rfl, rfl, hL, hpre, hsuf, how, hk⟩ := hR
    have wi : IntKind.i64.wrap ((i : Int) + 1) = (i : Int) + 1 := IntWalk.i64_in _ (by omega)
    have wj : IntKind.i64.wrap ((j : Int) + 1) = (j : Int) + 1 := IntWalk.i64_in _ (by omega)
    have KR := Lib.hid hk
    by_cases hlt : j < n
    ·obtain ⟨x, hx⟩ : ∃ x, l[j]? = some x := ⟨_, List.getElem?_eq_getElem (by rw [EN.out]; exact hlt)⟩
     have cj : wr.cell? ⟨g, j, none⟩ = some (.pointer (some ⟨x.b, 0, none⟩)) := by
      obtain ⟨A, c', e1, _, _, hh⟩ := how.shape
      obtain ⟨g', e2, hc⟩ := hh j x (by rw [hsuf j (Nat.le_refl _)]; exact hx)
      cases e1
      cases e2
      exact hc
     have own : ∀ w', Keep (fun b => b = g) w w' → Keep (fun j => (Value.slice (some ⟨g, 0, none⟩) n c).ownBlock = some j) w w' := fun w' k => k.mono fun b e => by rw [e]; rfl
     have hxv := HV.out x (List.mem_of_getElem? hx) wr (own wr hk)
     obtain ⟨hent, hc⟩ := (HF.out wr (own wr hk)).func
     have C := hc x wr (Keep.refl _ _) hxv
     have take : l.take (j + 1) = l.take j ++ [x] := by rw [List.take_add_one, hx]; rfl
     obtain ⟨r, er⟩ : ∃ r, P x = r := ⟨_, rfl⟩
     rw [er] at C
     have next1 : P x = true → ∀ w2, Keep (fun _ => False) wr w2 → RDel w g n c P l (.int .i64 i) (.int .i64 ((j : Int) + 1)) w2 L i (j + 1) := fun hp w2 k2 =>
      ⟨by omega, by omega, rfl, by go_num, hL, by rw [take, List.filter_append, hpre]; simp [hp], fun a ha => hsuf a (by omega), how.keep k2 (fun _ _ => id), hk.trans (k2.mono fun _ e => e.elim)⟩
     have next2 : P x = false → ∀ w2, Keep (fun _ => False) wr w2 → RDel w g n c P l (.int .i64 ((i : Int) + 1)) (.int .i64 ((j : Int) + 1)) (w2.setCell ⟨g, i, none⟩ (ptrV x.b)) (L.set i x) (i + 1) (j + 1) := fun hp w2 k2 =>
      ⟨by omega, by omega, by go_num, by go_num, by rw [List.length_set]; exact hL, by
       rw [take, List.filter_append, ← hpre, List.take_add_one, List.getElem?_set_self (by rw [hL]; omega)]
       rw [List.take_set_of_le (Nat.le_refl i)]
       simp [hp], fun a ha => by rw [List.getElem?_set_ne (by omega)]; exact hsuf a (by omega), OwnV.put (how.keep k2 (fun _ _ => id)) i x, (hk.trans (k2.mono fun _ e => e.elim)).setCell (p := ⟨g, i, none⟩) rfl _⟩
     have ci : ∀ w2, Keep (fun _ => False) wr w2 → ∃ u, w2.cell? ⟨g, i, none⟩ = some u ∧ w2.frozen? ⟨g, i, none⟩ = false := fun w2 k2 => by
      have h2 : OwnV w2 (.slice (some ⟨g, 0, none⟩) n c) L := how.keep k2 (fun _ _ => id)
      obtain ⟨y, hy⟩ : ∃ y, L[i]? = some y := ⟨_, List.getElem?_eq_getElem (by rw [hL]; omega)⟩
      obtain ⟨A, c', e1, _, _, hh⟩ := h2.shape
      obtain ⟨g', e2, hc⟩ := hh i y hy
      cases e1
      cases e2
      exact ⟨_, hc, Own.free h2 i⟩
     have N1 := Lib.hid next1
     have N2 := Lib.hid next2
     have CI := Lib.hid ci
     have ER := Lib.hid er
     have hin : i < n := by omega
     clear next1 next2 hxv hx take hpre hsuf how hL ci er hk own hc
     cases r
     ·go_wp2_with fail
      refine C.mono ?_
      rintro e w2 ⟨rfl, k2⟩
      clear C
      have NX := Lib.hid (N2.out ER.out w2 k2)
      obtain ⟨u, cu, fu⟩ := CI.out w2 k2
      go_wp2
      first | exact ⟨⟨_, i + 1, j + 1, NX.out⟩, by simp [intOf]; omega⟩ | (refine ⟨?rel2, ?meas2⟩; (case meas2 => (simp [intOf]; omega)); (case rel2 => ((repeat apply Exists.intro); exact ⟨⟨_, i + 1, j + 1, NX.out⟩, rfl⟩)))
     ·go_wp2_with fail
      refine C.mono ?_
      rintro e w2 ⟨rfl, k2⟩
      clear C
      have NX := Lib.hid (N1.out ER.out w2 k2)
      go_wp2
      first | exact ⟨⟨_, i, j + 1, NX.out⟩, by simp [intOf]; omega⟩ | (refine ⟨?rel2, ?meas2⟩; (case meas2 => (simp [intOf]; omega)); (case rel2 => ((repeat apply Exists.intro); exact ⟨⟨_, i, j + 1, NX.out⟩, rfl⟩)))
    ·obtain rfl : j = n := by omega
     obtain ⟨oc, kc⟩ := how.clear (i := i) (by omega) (List.replicate (j - i) (.pointer none))
     have hcl : ∀ ty cc, (Builtin.clear_ #[51] ty #[.slice (some ⟨g, i, none⟩) (j - i) cc]).run Try.prog wr = .ok (.tuple #[]) (wr.setCells g i (List.replicate (j - i) (.pointer none))) := fun ty cc => Lib.run_clear_slice wr _ _ ty (.pointer none) Try.underlying51 zero_ver rfl rfl g i (j - i) cc (by omega) (fun a ha => by
      obtain ⟨y, hy⟩ : ∃ y, L[i + a]? = some y := ⟨_, List.getElem?_eq_getElem (by rw [hL]; omega)⟩
      obtain ⟨A, c', e1, _, _, hh⟩ := how.shape
      obtain ⟨g', e2, hc⟩ := hh (i + a) y hy
      cases e1
      cases e2
      rw [hc]; rfl) (fun a ha => Own.free how (i + a))
     have FIN : DelP w (.slice (some ⟨g, 0, none⟩) j c) l P (.returned (.slice (some ⟨g, 0, none⟩) i c)) (wr.setCells g i (List.replicate (j - i) (.pointer none))) := by
      refine ⟨_, rfl, ?_, rfl, (hk.trans kc).mono fun b e => by rw [e]; rfl⟩
      have e : L.take i = l.filter fun v => !P v := by rw [hpre, ← EN.out, List.take_length]
      rw [← e]; exact oc
     obtain ⟨X, eX⟩ : ∃ X, wr.setCells g i (List.replicate (j - i) (.pointer none)) = X := ⟨_, rfl⟩
     rw [eX] at FIN
     simp only [eX] at hcl
     have FN := Lib.hid FIN
     have hci : ¬ c = i := by omega
     have hic : i ≤ c := by omega
     clear oc kc FIN eX hpre hsuf how hL hk hlt
     go_wp2
     go_ret
     exact FN.out
end
end Go.Proofs.Ytalkfnblnlcklaa
