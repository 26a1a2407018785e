/- Package model as landed, in memory: holds. Condition: at most 100,000 versions of a key. -/
import Derived.Test.YtkkjofefjepodaaLdU
import Derived.Test.YtkkjofefjepodaaLdV
namespace Go.Proofs.Ytkkjofefjepodaa
open Go.ChangeShapes Go.WideShapes Go.ChangeAt Go.RowKit
set_option linter.unusedVariables false
set_option linter.unusedSimpArgs false
section
variable {w w' : World} {m : Nat} {K : Nat → Value} {o : Nat → Nat} {z : LdI} {T : Nat → Prop} {F : Nat → FtI} {P : VeI → Bool} {t : TtI} {fv : Value} {l : List VeI}
theorem eql_vers {u v : VeI} (hu : VeAt w u) (hv : VeAt w v) (r : Bool) (hr : decide (u.b ≠ v.b) = r) : (binOp .neq 103 (.pointer (some ⟨u.b, 0, .none⟩)) (.pointer (some ⟨v.b, 0, .none⟩))).run Try.prog w = .ok (.bool r) w := by
  subst hr
  by_cases e : u.b = v.b
  · rw [e]
    have := (eql_selfV (w := w) (a := v.b)).2
    simpa using this
  · have := (eql_otherV (two_ptrs e hu.c0 hv.c0 hu.fz hv.fz)).2
    simpa [e] using this
def againC (t : TtI) : List Value := (List.range 64).map fun k => .bool (t.again k)
theorem againC_at (t : TtI) {k : Nat} (hk : k < 64) : (againC t)[k]? = some (.bool (t.again k)) := by unfold againC; rw [List.getElem?_map, List.getElem?_range hk]; rfl
theorem againC_cell (h : TtAt w t) : ∀ j v, (againC t)[j]? = some v → w.cell? ((⟨t.b, 4, none⟩ : Addr).add j) = some v := fun j v hv => by
  have hj : j < 64 := by have := (List.getElem?_eq_some_iff.1 hv).1; simpa [againC] using this
  rw [againC_at t hj] at hv
  cases hv
  have hadd : (⟨t.b, 4, none⟩ : Addr).add j = ⟨t.b, 4 + j, none⟩ := by unfold Addr.add; split <;> simp_all
  rw [hadd]; exact h.ca j hj
def againOk (z : LdI) (t : TtI) (fin : Int) (k : Nat) : Bool := !t.again k || decide (((z.k k).find? (existV z.F t.start)).map VeI.b = ((z.k k).find? (existV z.F fin)).map VeI.b)
def RHol (w : World) (z : LdI) (t : TtI) (fin : Int) (q : Value) (wr : World) (n : Nat) : Prop := n ≤ 64 ∧ q = .int .i64 n ∧ (∀ i, i < n → againOk z t fin i = true) ∧ Keep (fun _ => False) w wr
theorem again_next {z : LdI} {t : TtI} {fin : Int} {n : Nat} (h : ∀ i, i < n → againOk z t fin i = true) (e : againOk z t fin n = true) : ∀ i, i < n + 1 → againOk z t fin i = true := fun i hi => by
  rcases Nat.lt_succ_iff_lt_or_eq.1 hi with q | q
  · exact h i q
  · rw [q]; exact e
theorem holds_true {z : LdI} {t : TtI} {fin : Int} (h : ∀ i, i < 64 → againOk z t fin i = true) : holdsL z t fin = true := by
  unfold holdsL
  rw [List.all_eq_true]
  intro k hk
  exact h k (List.mem_range.1 hk)
theorem holds_false {z : LdI} {t : TtI} {fin : Int} {n : Nat} (hn : n < 64) (h : againOk z t fin n = false) : holdsL z t fin = false := by
  cases c : holdsL z t fin with
  | false => rfl
  | true =>
    unfold holdsL at c
    rw [List.all_eq_true] at c
    have := c n (List.mem_range.2 hn)
    have h2 : againOk z t fin n = true := this
    rw [h] at h2; cases h2
set_option maxRecDepth 100000 in
set_option maxHeartbeats 4000000 in
theorem holds_any (h : LdAt w m K o z) {i : Nat} (hi : i < 8) (ht : z.s i = some t) (hl : ∀ k, k < 64 → (z.k k).length ≤ 100000) (fin : Int) :
    Calls Try.prog 91 #[.pointer (some ⟨m, 0, none⟩), .pointer (some ⟨t.b, 0, none⟩), .int .u64 fin] w fun e w' => e = .returned (.bool (holdsL z t fin)) ∧ Keep (fun _ => False) w w' := by
  have E1 := existing_any t.start w
  have c2 := (h.t i t hi ht).c2
  have H := Lib.hid h
  have HL := Lib.hid hl
  have HT := Lib.hid ht
  clear h hl ht
  go_enter Try.func91, Try.ntmps91
  go_wp2_with fail
  refine E1.mono ?_
  rintro e w1 ⟨f1, rfl, hf1, ⟨fa, pa, rfl⟩, k1⟩
  clear E1
  have E2 := existing_any fin w1
  have KA := Lib.hid k1
  have HF1 := Lib.hid hf1
  clear k1 hf1
  go_wp2_with fail
  refine E2.mono ?_
  rintro e w2 ⟨f2, rfl, hf2, ⟨fb, pb, rfl⟩, k2⟩
  clear E2
  have K2 := Lib.hid (KA.out.trans k2)
  have HF1 := Lib.hid ((HF1.out z.F).same k2)
  have HF2 := Lib.hid (hf2 z.F)
  have HC := Lib.hid (againC_cell ((H.out.t i t hi HT.out).keep K2.out id))
  clear k2 hf2 KA c2
  go_wp2_with (refine wpList_load_mid rfl 88 _ rfl ⟨t.b, 4, none⟩ rfl (againC t) _ HC.out Try.underlying88 rfl (by kernel_rfl) ?_)
  go_loopw [9, 10, 22] (fun _ _ q wr => ∃ n : Nat, RHol w2 z t fin q wr n) (fun _ _ q _ => 64 - (intOf q).toNat)
  case atStart => exact ⟨0, Nat.zero_le _, rfl, (fun i hi => absurd hi (Nat.not_lt_zero i)), Keep.refl _ _⟩
  case round =>
    obtain ⟨n, hn, rfl, hno, k1⟩ := hrel
    have HN := Lib.hid hno
    clear hno
    by_cases hlt : n < 64
    · have ix := fun w => run_index_arr (P := Try.prog) (againC t) Try.underlying88 Try.underlying4 rfl (by kernel_rfl) hlt (againC_at t hlt) w
      have wk : IntKind.i64.wrap ((n : Int) + 1) = (n : Int) + 1 := IntWalk.i64_in _ (by omega)
      obtain ⟨ag, eag⟩ : ∃ ag, t.again n = ag := ⟨_, rfl⟩
      rw [eag] at ix
      cases ag with
      | false =>
        have OK := Lib.hid (show againOk z t fin n = true by unfold againOk; rw [eag]; rfl)
        clear eag
        go_wp2
        first | exact ⟨⟨n + 1, by omega, by go_num, again_next HN.out OK.out, k1⟩, by simp [intOf]; omega⟩ | (refine ⟨?rel2, ?meas2⟩; (case meas2 => (simp [intOf]; omega)); (case rel2 => ((repeat apply Exists.intro); exact ⟨⟨n + 1, by omega, by go_num, again_next HN.out OK.out, k1⟩, rfl⟩)))
      | true =>
        have HM := (H.out.quiet K2.out).quiet k1
        have C1 := find_any HM hlt (HL.out n hlt) (HF1.out.same k1)
        have C2 := Lib.hid fun wa (ka : Keep (fun _ => False) wr wa) => find_any (HM.quiet ka) hlt (HL.out n hlt) ((HF2.out.same k1).same ka)
        have V1 := fun v (hv : (z.k n).find? (existV z.F t.start) = some v) => HM.v n v hlt (List.mem_of_find?_eq_some hv)
        have V2 := fun v (hv : (z.k n).find? (existV z.F fin) = some v) => HM.v n v hlt (List.mem_of_find?_eq_some hv)
        have OK0 : againOk z t fin n = decide (((z.k n).find? (existV z.F t.start)).map VeI.b = ((z.k n).find? (existV z.F fin)).map VeI.b) := by unfold againOk; rw [eag]; rfl
        clear HM eag
        obtain ⟨q1, eq1⟩ : ∃ q, (z.k n).find? (existV z.F t.start) = q := ⟨_, rfl⟩
        obtain ⟨q2, eq2⟩ : ∃ q, (z.k n).find? (existV z.F fin) = q := ⟨_, rfl⟩
        rw [eq1] at C1 V1 OK0
        rw [eq2] at C2 V2 OK0
        clear eq1 eq2
        cases q1 with
        | none =>
          cases q2 with
          | none =>
            dsimp only [Option.map, ptrO] at C1 C2
            have OK := Lib.hid (show againOk z t fin n = true by rw [OK0]; rfl)
            clear OK0 V1 V2
            go_wp2_with fail; refine C1.mono ?_; rintro e wa ⟨rfl, ka⟩; clear C1; have C2 := C2.out wa ka; go_wp2_with fail; refine C2.mono ?_; rintro e wb ⟨rfl, kb⟩; clear C2
            have qe := (eql_nilsV (w := wb)).2
            go_wp2; first | exact ⟨⟨n + 1, by omega, by go_num, again_next HN.out OK.out, (k1.trans ka).trans kb⟩, by simp [intOf]; omega⟩ | (refine ⟨?rel2, ?meas2⟩; (case meas2 => (simp [intOf]; omega)); (case rel2 => ((repeat apply Exists.intro); exact ⟨⟨n + 1, by omega, by go_num, again_next HN.out OK.out, (k1.trans ka).trans kb⟩, rfl⟩)))
          | some v =>
            dsimp only [Option.map, ptrO] at C1 C2
            have OK := Lib.hid (show againOk z t fin n = false by rw [OK0]; rfl)
            clear OK0 V1 V2
            go_wp2_with fail; refine C1.mono ?_; rintro e wa ⟨rfl, ka⟩; clear C1; have C2 := C2.out wa ka; go_wp2_with fail; refine C2.mono ?_; rintro e wb ⟨rfl, kb⟩; clear C2
            have qe := (eql_noneV (w := wb) (a := v.b)).2
            go_wp2; go_ret; exact ⟨by rw [holds_false hlt OK.out]; rfl, K2.out.trans ((k1.trans ka).trans kb)⟩
        | some u =>
          cases q2 with
          | none =>
            dsimp only [Option.map, ptrO] at C1 C2
            have OK := Lib.hid (show againOk z t fin n = false by rw [OK0]; rfl)
            clear OK0 V1 V2
            go_wp2_with fail; refine C1.mono ?_; rintro e wa ⟨rfl, ka⟩; clear C1; have C2 := C2.out wa ka; go_wp2_with fail; refine C2.mono ?_; rintro e wb ⟨rfl, kb⟩; clear C2
            have qe := (eql_nilV (w := wb) (a := u.b)).2
            go_wp2; go_ret; exact ⟨by rw [holds_false hlt OK.out]; rfl, K2.out.trans ((k1.trans ka).trans kb)⟩
          | some v =>
            dsimp only [Option.map, ptrO] at C1 C2
            have a1 := V1 u rfl
            have a2 := V2 v rfl
            clear V1 V2
            by_cases e : u.b = v.b
            · have EQ := Lib.hid fun (wa wb : World) (ka : Keep (fun _ => False) wr wa) (kb : Keep (fun _ => False) wa wb) => eql_vers (w := wb) (a1.keep (ka.trans kb) id) (a2.keep (ka.trans kb) id) false (by simpa using e)
              have OK := Lib.hid (show againOk z t fin n = true by rw [OK0]; simp [e])
              clear OK0 e a1 a2
              go_wp2_with fail; refine C1.mono ?_; rintro e wa ⟨rfl, ka⟩; clear C1; have C2 := C2.out wa ka; go_wp2_with fail; refine C2.mono ?_; rintro e wb ⟨rfl, kb⟩; clear C2
              have qe := EQ.out wa wb ka kb
              go_wp2; first | exact ⟨⟨n + 1, by omega, by go_num, again_next HN.out OK.out, (k1.trans ka).trans kb⟩, by simp [intOf]; omega⟩ | (refine ⟨?rel2, ?meas2⟩; (case meas2 => (simp [intOf]; omega)); (case rel2 => ((repeat apply Exists.intro); exact ⟨⟨n + 1, by omega, by go_num, again_next HN.out OK.out, (k1.trans ka).trans kb⟩, rfl⟩)))
            · have EQ := Lib.hid fun (wa wb : World) (ka : Keep (fun _ => False) wr wa) (kb : Keep (fun _ => False) wa wb) => eql_vers (w := wb) (a1.keep (ka.trans kb) id) (a2.keep (ka.trans kb) id) true (by simpa using e)
              have OK := Lib.hid (show againOk z t fin n = false by rw [OK0]; simp [e])
              clear OK0 e a1 a2
              go_wp2_with fail; refine C1.mono ?_; rintro e wa ⟨rfl, ka⟩; clear C1; have C2 := C2.out wa ka; go_wp2_with fail; refine C2.mono ?_; rintro e wb ⟨rfl, kb⟩; clear C2
              have qe := EQ.out wa wb ka kb
              go_wp2; go_ret; exact ⟨by rw [holds_false hlt OK.out]; rfl, K2.out.trans ((k1.trans ka).trans kb)⟩
    · obtain rfl : n = 64 := by omega
      clear hlt hn
      go_wp2
      go_ret
      exact ⟨by rw [holds_true HN.out]; rfl, K2.out.trans k1⟩
end
end Go.Proofs.Ytkkjofefjepodaa
