/- Package model as landed, in memory: pairs, Pairs. Condition: at most 100,000 versions of a key. -/
import Derived.Test.YtkkjofefjepodaaLawModelPlaysZai
import Derived.Test.YtkkjofefjepodaaLawModelPlaysZae
import Derived.Test.YtkkjofefjepodaaLawModelPlaysZaf
import Derived.Test.YtkkjofefjepodaaLawModelPlaysZaj
namespace Go.Proofs.Ytkkjofefjepodaa
open Go.ChangeShapes Go.WideShapes Go.ChangeAt Go.RowKit
set_option linter.unusedVariables false
set_option linter.unusedSimpArgs false
section
variable {w w' : World} {m : Nat} {K : Nat → Value} {o : Nat → Nat} {z : LdI} {T : Nat → Prop} {F : Nat → FtI} {P : VeI → Bool} {t : TtI} {fv : Value} {l : List VeI}
theorem pairsL_succ (z : LdI) (P : VeI → Bool) (lo n : Nat) : pairsL z P lo (n + 1) = pairsL z P lo n ++ match (z.k (lo + n)).find? P with | some v => [(((lo + n : Nat) : Int), v.val)] | none => [] := by
 unfold pairsL
 rw [List.range'_concat, List.flatMap_append, List.flatMap_cons, List.flatMap_nil, List.append_nil, Nat.one_mul]
 rfl
theorem pairsL_len (z : LdI) (P : VeI → Bool) (lo : Nat) : ∀ n, (pairsL z P lo n).length ≤ n := fun n => by
  induction n with
  | zero => exact Nat.le_refl _
  | succ n ih =>
    rw [pairsL_succ, List.length_append]
    split <;> simp <;> omega
def RPl (w : World) (z : LdI) (P : VeI → Bool) (lo : Nat) (a q : Value) (wr : World) (n : Nat) : Prop := q = .int .i64 ((lo + n : Nat) : Int) ∧ OwnPr wr a (pairsL z P lo n) ∧ (∀ g, a.ownBlock = some g → w.heap.size ≤ g) ∧ Keep (fun _ => False) w wr
set_option maxRecDepth 100000 in
set_option maxHeartbeats 2000000 in
theorem pairs_any (h : LdAt w m K o z) (lo hi : Nat) (hh : hi < 64) (hl : ∀ k, k < 64 → (z.k k).length ≤ 100000) (hf : IsHold fv w z.F P) :
    Calls Try.prog 57 #[.pointer (some ⟨m, 0, none⟩), .int .i64 lo, .int .i64 hi, fv] w (ToldPr w (pairsL z P lo (hi + 1 - lo))) := by
  have H := Lib.hid h
  have HL := Lib.hid hl
  have HF := Lib.hid hf
  clear h hl hf
  go_enter Try.func57, Try.ntmps57
  go_wp2
  go_loopw [9, 10, 11] (fun a q _ wr => ∃ n : Nat, n ≤ hi + 1 - lo ∧ RPl w z P lo a q wr n) (fun _ q _ _ => hi + 1 - (intOf q).toNat)
  case atStart => exact ⟨0, Nat.zero_le _, rfl, OwnM.nil, (fun g e => by cases e), Keep.refl _ _⟩
  case round =>
    obtain ⟨n, hn, rfl, oo, og, k1⟩ := hrel
    by_cases hle : lo + n ≤ hi
    · obtain ⟨k, ek⟩ : ∃ k, lo + n = k := ⟨_, rfl⟩
      have hk : k < 64 := by omega
      have nx := pairsL_succ z P lo n
      have ll := pairsL_len z P lo n
      have C := find_any (H.out.quiet k1) hk (HL.out k hk) (HF.out.same k1)
      have VV := fun v (hv : (z.k k).find? P = some v) => (H.out.quiet k1).v k v hk (List.mem_of_find?_eq_some hv)
      have d : k ≤ hi := by omega
      have wk : IntKind.i64.wrap ((k : Int) + 1) = (k : Int) + 1 := IntWalk.i64_in _ (by omega)
      rw [ek] at nx ⊢
      obtain ⟨Z, eZ⟩ : ∃ Z, pairsL z P lo n = Z := ⟨_, rfl⟩
      rw [eZ] at nx ll oo
      obtain ⟨q, eq⟩ : ∃ q, (z.k k).find? P = q := ⟨_, rfl⟩
      rw [eq] at nx C
      have VH := Lib.hid VV
      have EQ := Lib.hid eq
      have EK := Lib.hid ek
      have OO := Lib.hid oo
      have OG := Lib.hid og
      clear oo og VV eq eZ ek
      cases q with
      | none =>
        dsimp only [Option.map, ptrO] at C
        rw [List.append_nil] at nx
        have NX := Lib.hid nx
        clear nx
        go_wp2_with fail
        refine C.mono ?_
        rintro e w2 ⟨rfl, k2⟩
        clear C
        go_wp2
        first | exact ⟨⟨n + 1, by omega, by rw [← Nat.add_assoc, EK.out]; go_num, by rw [NX.out]; exact OO.out.keep k2 (fun _ _ => id), OG.out, k1.trans k2⟩, by simp [intOf]; omega⟩ | (refine ⟨?rel2, ?meas2⟩; (case meas2 => (simp [intOf]; omega)); (case rel2 => ((repeat apply Exists.intro); exact ⟨⟨n + 1, by omega, by rw [← Nat.add_assoc, EK.out]; go_num, by rw [NX.out]; exact OO.out.keep k2 (fun _ _ => id), OG.out, k1.trans k2⟩, rfl⟩)))
      | some v =>
        dsimp only [Option.map, ptrO] at C
        have NX := Lib.hid nx
        have c0 := (VH.out v EQ.out).c0
        clear nx
        go_wp2_with fail
        refine C.mono ?_
        rintro e w2 ⟨rfl, k2⟩
        clear C
        have c0 := k2.cell c0 id
        have O2 := Lib.hid (OO.out.keep k2 (fun _ _ => id))
        have KK := Lib.hid (k1.trans k2)
        clear k1 k2 OO
        go_wp2_with (with_reducible refine wp_stop 32 rfl ?_)
        intro _
        refine wp_pushM Try.underlying28 info_pr rfl (by decide) (by decide) prI_len (by intro p u hu; simp only [prI, List.mem_cons, List.not_mem_nil, or_false] at hu; rcases hu with rfl | rfl <;> rfl) rfl (.tmp 24) (.tmp 31) rfl _ Z (by rfl) O2.out ((k : Int), v.val) (by rfl) (by omega) ?_
        rintro g2 c2 w3 o3 k3 hg
        rw [show Z ++ [((k : Int), v.val)] = pairsL z P lo (n + 1) from by rw [NX.out, ← EK.out]] at o3
        have K3 : Keep (fun _ => False) w w3 := KK.out.older (S := fun g => w.heap.size ≤ g) (k3.mono (fun g e => OG.out g e)) (fun _ e => e)
        have hg2 : w.heap.size ≤ g2 := by
          rcases hg with e | e
          · exact OG.out g2 e
          · have := KK.out.size; omega
        have O3 := Lib.hid o3
        clear o3 k3 hg c0
        go_wp2
        first | exact ⟨⟨n + 1, by omega, by rw [← Nat.add_assoc, EK.out]; go_num, O3.out, (fun g e => by cases e; exact hg2), K3⟩, by simp [intOf]; omega⟩ | (refine ⟨?rel2, ?meas2⟩; (case meas2 => (simp [intOf]; omega)); (case rel2 => ((repeat apply Exists.intro); exact ⟨⟨n + 1, by omega, by rw [← Nat.add_assoc, EK.out]; go_num, O3.out, (fun g e => by cases e; exact hg2), K3⟩, rfl⟩)))
    · have d : ¬ lo + n ≤ hi := hle
      have en : n = hi + 1 - lo := by omega
      rw [en] at oo
      obtain ⟨k, ek⟩ : ∃ k, lo + n = k := ⟨_, rfl⟩
      rw [ek] at d ⊢
      have OO := Lib.hid oo
      have OG := Lib.hid og
      clear oo og en ek hle hn
      go_wp2
      go_ret
      exact ⟨_, rfl, OO.out, OG.out, k1⟩
theorem Pairs_any (h : LdAt w m K o z) (hl : ∀ k, k < 64 → (z.k k).length ≤ 100000) (at' : Int) :
  Calls Try.prog 28 #[.pointer (some ⟨m, 0, none⟩), .int .u64 at'] w (ToldPr w (pairsL z (existV z.F at') 0 64)) := by
 have E := existing_any at' w
 have H := Lib.hid h
 have HL := Lib.hid hl
 clear h hl
 go_enter Try.func28, Try.ntmps28
 go_wp2_with fail
 refine E.mono ?_
 rintro e w1 ⟨fv, rfl, hf, ⟨f, p, rfl⟩, k1⟩
 clear E
 have C := pairs_any (H.out.quiet k1) 0 63 (by decide) HL.out (hf z.F)
 have KK := Lib.hid k1
 clear hf k1
 go_wp2_with fail
 refine C.mono ?_
 rintro e w2 ⟨u, rfl, o2, g2, k2⟩
 clear C
 have OO := Lib.hid o2
 have OG := Lib.hid g2
 clear o2 g2
 go_wp2
 go_ret
 exact ⟨_, rfl, OO.out, fun g hg => Nat.le_trans KK.out.size (OG.out g hg), KK.out.trans k2⟩
end
end Go.Proofs.Ytkkjofefjepodaa
