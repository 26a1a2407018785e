/- Several texts, one behind the other: LdO, LdP. -/
import Derived.Test.YtalkfnblnlcklaaModelBaseDZar
import Derived.Test.YtalkfnblnlcklaaModelBaseDZaw
import Derived.Test.YtalkfnblnlcklaaModelBaseDZaf
import Derived.Test.YtalkfnblnlcklaaModelBaseDZad
/- Package model as landed, in memory: holds. Condition: at most 100,000 versions of a key. -/
namespace Go.Proofs.Ytalkfnblnlcklaa
open Go.ChangeShapes Go.WideShapes Go.ChangeAt Go.RowKit
set_option linter.unusedVariables false
set_option linter.unusedSimpArgs false
section
variable {w w' : World} {m : Nat} {K : Nat → Value} {o : Nat → Nat} {z : LdI} {T : Nat → Prop} {F : Nat → FtI} {P : VeI → Bool} {t : TtI} {fv : Value} {l : List VeI}
theorem eql_vers {u v : VeI} (hu : VeAt w u) (hv : VeAt w v) (r : Bool) (hr : decide (u.b ≠ v.b) = r) : (binOp .neq 85 (.pointer (some ⟨u.b, 0, .none⟩)) (.pointer (some ⟨v.b, 0, .none⟩))).run Try.prog w = .ok (.bool r) w := by
 subst hr
 by_cases e : u.b = v.b
 ·rw [e]
  have := (eql_selfV (w := w) (a := v.b)).2
  simpa using this
 ·have := (eql_otherV (two_ptrs e hu.c0 hv.c0 hu.fz hv.fz)).2
  simpa [e] using this
def againC (t : TtI) : List Value := (List.range 64).map fun k => .bool (t.again k)
theorem againC_at (t : TtI) {k : Nat} (hk : k < 64) : (againC t)[k]? = some (.bool (t.again k)) := by unfold againC; rw [List.getElem?_map, List.getElem?_range hk]; rfl
theorem againC_cell (h : TtAt w t) : ∀ j v, (againC t)[j]? = some v → w.cell? ((⟨t.b, 4, none⟩ : Addr).add j) = some v := fun j v hv => by
 have hj : j < 64 := by have := (List.getElem?_eq_some_iff.1 hv).1; simpa [againC] using this
 rw [againC_at t hj] at hv
 cases hv
 have hadd : (⟨t.b, 4, none⟩ : Addr).add j = ⟨t.b, 4 + j, none⟩ := by unfold Addr.add; split <;> simp_all
 rw [hadd]; exact h.ca j hj
def againOk (z : LdI) (t : TtI) (fin : Int) (k : Nat) : Bool := !t.again k || decide (((z.k k).find? (existV z.F t.start)).map VeI.b = ((z.k k).find? (existV z.F fin)).map VeI.b)
def RHol (w : World) (z : LdI) (t : TtI) (fin : Int) (q : Value) (wr : World) (n : Nat) : Prop := n ≤ 64 ∧ q = .int .i64 n ∧ (∀ i, i < n → againOk z t fin i = true) ∧ Keep (fun _ => False) w wr
theorem again_next {z : LdI} {t : TtI} {fin : Int} {n : Nat} (h : ∀ i, i < n → againOk z t fin i = true) (e : againOk z t fin n = true) : ∀ i, i < n + 1 → againOk z t fin i = true := fun i hi => by
 rcases Nat.lt_succ_iff_lt_or_eq.1 hi with q | q
 ·exact h i q
 ·rw [q]; exact e
theorem holds_true {z : LdI} {t : TtI} {fin : Int} (h : ∀ i, i < 64 → againOk z t fin i = true) : holdsL z t fin = true := by
 unfold holdsL
 rw [List.all_eq_true]
 intro k hk
 exact h k (List.mem_range.1 hk)
theorem holds_false {z : LdI} {t : TtI} {fin : Int} {n : Nat} (hn : n < 64) (h : againOk z t fin n = false) : holdsL z t fin = false := by
  cases c : holdsL z t fin with
  | false => rfl
  | true =>
    unfold holdsL at c
    rw [List.all_eq_true] at c
    have := c n (List.mem_range.2 hn)
    have h2 : againOk z t fin n = true := this
    rw [h] at h2; cases h2
set_option maxRecDepth 100000 in
set_option maxHeartbeats 4000000 in
theorem holds_any (h : LdAt w m K o z) {i : Nat} (hi : i < 8) (ht : z.s i = some t) (hl : ∀ k, k < 64 → (z.k k).length ≤ 100000) (fin : Int) :
    Calls Try.prog 58 #[.pointer (some ⟨m, 0, none⟩), .pointer (some ⟨t.b, 0, none⟩), .int .u64 fin] w fun e w' => e = .returned (.bool (holdsL z t fin)) ∧ Keep (fun _ => False) w w' := by
  have E1 := existing_any t.start w
  have c2 := (h.t i t hi ht).c2
  have H := Lib.hid h
  have HL := Lib.hid hl
  have HT := Lib.hid ht
  clear h hl ht
  go_enter Try.func58, Try.ntmps58
  go_wp2_with fail
  refine E1.mono ?_
  rintro e w1 ⟨f1, rfl, hf1, ⟨fa, pa, rfl⟩, k1⟩
  clear E1
  have E2 := existing_any fin w1
  have KA := Lib.hid k1
  have HF1 := Lib.hid hf1
  clear k1 hf1
  go_wp2_with fail
  refine E2.mono ?_
  rintro e w2 ⟨f2, rfl, hf2, ⟨fb, pb, rfl⟩, k2⟩
  clear E2
  have K2 := Lib.hid (KA.out.trans k2)
  have HF1 := Lib.hid ((HF1.out z.F).same k2)
  have HF2 := Lib.hid (hf2 z.F)
  have HC := Lib.hid (againC_cell ((H.out.t i t hi HT.out).keep K2.out id))
  clear k2 hf2 KA c2
  go_wp2_with (refine wpList_load_mid rfl 87 _ rfl ⟨t.b, 4, none⟩ rfl (againC t) _ HC.out Try.underlying87 rfl (by kernel_rfl) ?_)
  go_loopw [9, 10, 22] (fun _ _ q wr => ∃ n : Nat, RHol w2 z t fin q wr n) (fun _ _ q _ => 64 - (intOf q).toNat)
  case atStart => exact ⟨0, Nat.zero_le _, rfl, (fun i hi => absurd hi (Nat.not_lt_zero i)), Keep.refl _ _⟩
  case round =>
    obtain ⟨n, hn, rfl, hno, k1⟩ := hrel
    have HN := Lib.hid hno
    clear hno
    by_cases hlt : n < 64
    · have ix := fun w => run_index_arr (P := Try.prog) (againC t) Try.underlying87 Try.underlying4 rfl (by kernel_rfl) hlt (againC_at t hlt) w
      have wk : IntKind.i64.wrap ((n : Int) + 1) = (n : Int) + 1 := IntWalk.i64_in _ (by omega)
      obtain ⟨ag, eag⟩ : ∃ ag, t.again n = ag := ⟨_, rfl⟩
      rw [eag] at ix
      cases ag with
      | false =>
        have OK := Lib.hid (show againOk z t fin n = true by unfold againOk; rw [eag]; rfl)
        clear eag
        go_wp2
        first | exact ⟨⟨n + 1, by omega, by go_num, again_next HN.out OK.out, k1⟩, by simp [intOf]; omega⟩ | (refine ⟨?rel2, ?meas2⟩; (case meas2 => (simp [intOf]; omega)); (case rel2 => ((repeat apply Exists.intro); exact ⟨⟨n + 1, by omega, by go_num, again_next HN.out OK.out, k1⟩, rfl⟩)))
      | true =>
        have HM := (H.out.quiet K2.out).quiet k1
        have C1 := find_any HM hlt (HL.out n hlt) (HF1.out.same k1)
        have C2 := Lib.hid fun wa (ka : Keep (fun _ => False) wr wa) => find_any (HM.quiet ka) hlt (HL.out n hlt) ((HF2.out.same k1).same ka)
        have V1 := fun v (hv : (z.k n).find? (existV z.F t.start) = some v) => HM.v n v hlt (List.mem_of_find?_eq_some hv)
        have V2 := fun v (hv : (z.k n).find? (existV z.F fin) = some v) => HM.v n v hlt (List.mem_of_find?_eq_some hv)
        have OK0 : againOk z t fin n = decide (((z.k n).find? (existV z.F t.start)).map VeI.b = ((z.k n).find? (existV z.F fin)).map VeI.b) := by unfold againOk; rw [eag]; rfl
        clear HM eag
        obtain ⟨q1, eq1⟩ : ∃ q, (z.k n).find? (existV z.F t.start) = q := ⟨_, rfl⟩
        obtain ⟨q2, eq2⟩ : ∃ q, (z.k n).find? (existV z.F fin) = q := ⟨_, rfl⟩
        rw [eq1] at C1 V1 OK0
        rw [eq2] at C2 V2 OK0
        clear eq1 eq2
        cases q1 with
        | none =>
          cases q2 with
          | none =>
            dsimp only [Option.map, ptrO] at C1 C2
            have OK := Lib.hid (show againOk z t fin n = true by rw [OK0]; rfl)
            clear OK0 V1 V2
            go_wp2_with fail; refine C1.mono ?_; rintro e wa ⟨rfl, ka⟩; clear C1; have C2 := C2.out wa ka; go_wp2_with fail; refine C2.mono ?_; rintro e wb ⟨rfl, kb⟩; clear C2
            have qe := (eql_nilsV (w := wb)).2
            go_wp2; first | exact ⟨⟨n + 1, by omega, by go_num, again_next HN.out OK.out, (k1.trans ka).trans kb⟩, by simp [intOf]; omega⟩ | (refine ⟨?rel2, ?meas2⟩; (case meas2 => (simp [intOf]; omega)); (case rel2 => ((repeat apply Exists.intro); exact ⟨⟨n + 1, by omega, by go_num, again_next HN.out OK.out, (k1.trans ka).trans kb⟩, rfl⟩)))
          | some v =>
            dsimp only [Option.map, ptrO] at C1 C2
            have OK := Lib.hid (show againOk z t fin n = false by rw [OK0]; rfl)
            clear OK0 V1 V2
            go_wp2_with fail; refine C1.mono ?_; rintro e wa ⟨rfl, ka⟩; clear C1; have C2 := C2.out wa ka; go_wp2_with fail; refine C2.mono ?_; rintro e wb ⟨rfl, kb⟩; clear C2
            have qe := (eql_noneV (w := wb) (a := v.b)).2
            go_wp2; go_ret; exact ⟨by rw [holds_false hlt OK.out]; rfl, K2.out.trans ((k1.trans ka).trans kb)⟩
        | some u =>
          cases q2 with
          | none =>
            dsimp only [Option.map, ptrO] at C1 C2
            have OK := Lib.hid (show againOk z t fin n = false by rw [OK0]; rfl)
            clear OK0 V1 V2
            go_wp2_with fail; refine C1.mono ?_; rintro e wa ⟨rfl, ka⟩; clear C1; have C2 := C2.out wa ka; go_wp2_with fail; refine C2.mono ?_; rintro e wb ⟨rfl, kb⟩; clear C2
            have qe := (eql_nilV (w := wb) (a := u.b)).2
            go_wp2; go_ret; exact ⟨by rw [holds_false hlt OK.out]; rfl, K2.out.trans ((k1.trans ka).trans kb)⟩
          | some v =>
            dsimp only [Option.map, ptrO] at C1 C2
            have a1 := V1 u rfl
            have a2 := V2 v rfl
            clear V1 V2
            by_cases e : u.b = v.b
            · have EQ := Lib.hid fun (wa wb : World) (ka : Keep (fun _ => False) wr wa) (kb : Keep (fun _ => False) wa wb) => eql_vers (w := wb) (a1.keep (ka.trans kb) id) (a2.keep (ka.trans kb) id) false (by simpa using e)
              have OK := Lib.hid (show againOk z t fin n = true by rw [OK0]; simp [e])
              clear OK0 e a1 a2
              go_wp2_with fail; refine C1.mono ?_; rintro e wa ⟨rfl, ka⟩; clear C1; have C2 := C2.out wa ka; go_wp2_with fail; refine C2.mono ?_; rintro e wb ⟨rfl, kb⟩; clear C2
              have qe := EQ.out wa wb ka kb
              go_wp2; first | exact ⟨⟨n + 1, by omega, by go_num, again_next HN.out OK.out, (k1.trans ka).trans kb⟩, by simp [intOf]; omega⟩ | (refine ⟨?rel2, ?meas2⟩; (case meas2 => (simp [intOf]; omega)); (case rel2 => ((repeat apply Exists.intro); exact ⟨⟨n + 1, by omega, by go_num, again_next HN.out OK.out, (k1.trans ka).trans kb⟩, rfl⟩)))
            · have EQ := Lib.hid fun (wa wb : World) (ka : Keep (fun _ => False) wr wa) (kb : Keep (fun _ => False) wa wb) => eql_vers (w := wb) (a1.keep (ka.trans kb) id) (a2.keep (ka.trans kb) id) true (by simpa using e)
              have OK := Lib.hid (show againOk z t fin n = false by rw [OK0]; simp [e])
              clear OK0 e a1 a2
              go_wp2_with fail; refine C1.mono ?_; rintro e wa ⟨rfl, ka⟩; clear C1; have C2 := C2.out wa ka; go_wp2_with fail; refine C2.mono ?_; rintro e wb ⟨rfl, kb⟩; clear C2
              have qe := EQ.out wa wb ka kb
              go_wp2; go_ret; exact ⟨by rw [holds_false hlt OK.out]; rfl, K2.out.trans ((k1.trans ka).trans kb)⟩
    · obtain rfl : n = 64 := by omega
      clear hlt hn
      go_wp2
      go_ret
      exact ⟨by rw [holds_true HN.out]; rfl, K2.out.trans k1⟩
end
end Go.Proofs.Ytalkfnblnlcklaa
/- Package model as landed, in memory: pairs, Pairs. Condition: at most 100,000 versions of a key. -/
namespace Go.Proofs.Ytalkfnblnlcklaa
open Go.ChangeShapes Go.WideShapes Go.ChangeAt Go.RowKit
set_option linter.unusedVariables false
set_option linter.unusedSimpArgs false
section
variable {w w' : World} {m : Nat} {K : Nat → Value} {o : Nat → Nat} {z : LdI} {T : Nat → Prop} {F : Nat → FtI} {P : VeI → Bool} {t : TtI} {fv : Value} {l : List VeI}
theorem pairsL_succ (z : LdI) (P : VeI → Bool) (lo n : Nat) : pairsL z P lo (n + 1) = pairsL z P lo n ++ match (z.k (lo + n)).find? P with | some v => [(((lo + n : Nat) : Int), v.val)] | none => [] := by
 unfold pairsL
 rw [List.range'_concat, List.flatMap_append, List.flatMap_cons, List.flatMap_nil, List.append_nil, Nat.one_mul]
 rfl
theorem pairsL_len (z : LdI) (P : VeI → Bool) (lo : Nat) : ∀ n, (pairsL z P lo n).length ≤ n := fun n => by
  induction n with
  | zero => exact Nat.le_refl _
  | succ n ih =>
    rw [pairsL_succ, List.length_append]
    split <;> simp <;> omega
def RPl (w : World) (z : LdI) (P : VeI → Bool) (lo : Nat) (a q : Value) (wr : World) (n : Nat) : Prop := q = .int .i64 ((lo + n : Nat) : Int) ∧ OwnPr wr a (pairsL z P lo n) ∧ (∀ g, a.ownBlock = some g → w.heap.size ≤ g) ∧ Keep (fun _ => False) w wr
set_option maxRecDepth 100000 in
set_option maxHeartbeats 2000000 in
theorem pairs_any (h : LdAt w m K o z) (lo hi : Nat) (hh : hi < 64) (hl : ∀ k, k < 64 → (z.k k).length ≤ 100000) (hf : IsHold fv w z.F P) :
    Calls Try.prog 25 #[.pointer (some ⟨m, 0, none⟩), .int .i64 lo, .int .i64 hi, fv] w (ToldPr w (pairsL z P lo (hi + 1 - lo))) := by
  have H := Lib.hid h
  have HL := Lib.hid hl
  have HF := Lib.hid hf
  clear h hl hf
  go_enter Try.func25, Try.ntmps25
  go_wp2
  go_loopw [9, 10, 11] (fun a q _ wr => ∃ n : Nat, n ≤ hi + 1 - lo ∧ RPl w z P lo a q wr n) (fun _ q _ _ => hi + 1 - (intOf q).toNat)
  case atStart => exact ⟨0, Nat.zero_le _, rfl, OwnM.nil, (fun g e => by cases e), Keep.refl _ _⟩
  case round =>
    obtain ⟨n, hn, rfl, oo, og, k1⟩ := hrel
    by_cases hle : lo + n ≤ hi
    · obtain ⟨k, ek⟩ : ∃ k, lo + n = k := ⟨_, rfl⟩
      have hk : k < 64 := by omega
      have nx := pairsL_succ z P lo n
      have ll := pairsL_len z P lo n
      have C := find_any (H.out.quiet k1) hk (HL.out k hk) (HF.out.same k1)
      have VV := fun v (hv : (z.k k).find? P = some v) => (H.out.quiet k1).v k v hk (List.mem_of_find?_eq_some hv)
      have d : k ≤ hi := by omega
      have wk : IntKind.i64.wrap ((k : Int) + 1) = (k : Int) + 1 := IntWalk.i64_in _ (by omega)
      rw [ek] at nx ⊢
      obtain ⟨Z, eZ⟩ : ∃ Z, pairsL z P lo n = Z := ⟨_, rfl⟩
      rw [eZ] at nx ll oo
      obtain ⟨q, eq⟩ : ∃ q, (z.k k).find? P = q := ⟨_, rfl⟩
      rw [eq] at nx C
      have VH := Lib.hid VV
      have EQ := Lib.hid eq
      have EK := Lib.hid ek
      have OO := Lib.hid oo
      have OG := Lib.hid og
      clear oo og VV eq eZ ek
      cases q with
      | none =>
        dsimp only [Option.map, ptrO] at C
        rw [List.append_nil] at nx
        have NX := Lib.hid nx
        clear nx
        go_wp2_with fail
        refine C.mono ?_
        rintro e w2 ⟨rfl, k2⟩
        clear C
        go_wp2
        first | exact ⟨⟨n + 1, by omega, by rw [← Nat.add_assoc, EK.out]; go_num, by rw [NX.out]; exact OO.out.keep k2 (fun _ _ => id), OG.out, k1.trans k2⟩, by simp [intOf]; omega⟩ | (refine ⟨?rel2, ?meas2⟩; (case meas2 => (simp [intOf]; omega)); (case rel2 => ((repeat apply Exists.intro); exact ⟨⟨n + 1, by omega, by rw [← Nat.add_assoc, EK.out]; go_num, by rw [NX.out]; exact OO.out.keep k2 (fun _ _ => id), OG.out, k1.trans k2⟩, rfl⟩)))
      | some v =>
        dsimp only [Option.map, ptrO] at C
        have NX := Lib.hid nx
        have c0 := (VH.out v EQ.out).c0
        clear nx
        go_wp2_with fail
        refine C.mono ?_
        rintro e w2 ⟨rfl, k2⟩
        clear C
        have c0 := k2.cell c0 id
        have O2 := Lib.hid (OO.out.keep k2 (fun _ _ => id))
        have KK := Lib.hid (k1.trans k2)
        clear k1 k2 OO
        go_wp2_with (with_reducible refine wp_stop 32 rfl ?_)
        intro _
        refine wp_pushM Try.underlying44 info_pr rfl (by decide) (by decide) prI_len (by intro p u hu; simp only [prI, List.mem_cons, List.not_mem_nil, or_false] at hu; rcases hu with rfl | rfl <;> rfl) rfl (.tmp 24) (.tmp 31) rfl _ Z (by rfl) O2.out ((k : Int), v.val) (by rfl) (by omega) ?_
        rintro g2 c2 w3 o3 k3 hg
        rw [show Z ++ [((k : Int), v.val)] = pairsL z P lo (n + 1) from by rw [NX.out, ← EK.out]] at o3
        have K3 : Keep (fun _ => False) w w3 := KK.out.older (S := fun g => w.heap.size ≤ g) (k3.mono (fun g e => OG.out g e)) (fun _ e => e)
        have hg2 : w.heap.size ≤ g2 := by
          rcases hg with e | e
          · exact OG.out g2 e
          · have := KK.out.size; omega
        have O3 := Lib.hid o3
        clear o3 k3 hg c0
        go_wp2
        first | exact ⟨⟨n + 1, by omega, by rw [← Nat.add_assoc, EK.out]; go_num, O3.out, (fun g e => by cases e; exact hg2), K3⟩, by simp [intOf]; omega⟩ | (refine ⟨?rel2, ?meas2⟩; (case meas2 => (simp [intOf]; omega)); (case rel2 => ((repeat apply Exists.intro); exact ⟨⟨n + 1, by omega, by rw [← Nat.add_assoc, EK.out]; go_num, O3.out, (fun g e => by cases e; exact hg2), K3⟩, rfl⟩)))
    · have d : ¬ lo + n ≤ hi := hle
      have en : n = hi + 1 - lo := by omega
      rw [en] at oo
      obtain ⟨k, ek⟩ : ∃ k, lo + n = k := ⟨_, rfl⟩
      rw [ek] at d ⊢
      have OO := Lib.hid oo
      have OG := Lib.hid og
      clear oo og en ek hle hn
      go_wp2
      go_ret
      exact ⟨_, rfl, OO.out, OG.out, k1⟩
theorem Pairs_any (h : LdAt w m K o z) (hl : ∀ k, k < 64 → (z.k k).length ≤ 100000) (at' : Int) :
  Calls Try.prog 13 #[.pointer (some ⟨m, 0, none⟩), .int .u64 at'] w (ToldPr w (pairsL z (existV z.F at') 0 64)) := by
 have E := existing_any at' w
 have H := Lib.hid h
 have HL := Lib.hid hl
 clear h hl
 go_enter Try.func13, Try.ntmps13
 go_wp2_with fail
 refine E.mono ?_
 rintro e w1 ⟨fv, rfl, hf, ⟨f, p, rfl⟩, k1⟩
 clear E
 have C := pairs_any (H.out.quiet k1) 0 63 (by decide) HL.out (hf z.F)
 have KK := Lib.hid k1
 clear hf k1
 go_wp2_with fail
 refine C.mono ?_
 rintro e w2 ⟨u, rfl, o2, g2, k2⟩
 clear C
 have OO := Lib.hid o2
 have OG := Lib.hid g2
 clear o2 g2
 go_wp2
 go_ret
 exact ⟨_, rfl, OO.out, fun g hg => Nat.le_trans KK.out.size (OG.out g hg), KK.out.trans k2⟩
end
end Go.Proofs.Ytalkfnblnlcklaa
