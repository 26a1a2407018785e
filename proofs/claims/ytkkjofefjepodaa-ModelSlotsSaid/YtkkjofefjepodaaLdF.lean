/- Package model as landed, in memory, fourth part: find, relies, Used, oldest. Condition: at most 100,000 versions of a key. -/
import Derived.Test.YtkkjofefjepodaaLdH
import Derived.Deep.CutRange
namespace Go.Proofs.Ytkkjofefjepodaa
open Go.ChangeShapes Go.WideShapes Go.ChangeAt Go.RowKit
set_option linter.unusedVariables false
set_option linter.unusedSimpArgs false
section
variable {w w' : World} {m : Nat} {K : Nat → Value} {o : Nat → Nat} {z : LdI} {T : Nat → Prop} {F : Nat → FtI} {P : VeI → Bool} {t : TtI} {fv : Value} {l : List VeI}
theorem OwnV.shape {v : Value} (ow : OwnV w v l) : ∃ A c, v = .slice A l.length c ∧ (A = none → l = []) ∧ (∀ ad, A = some ad → ∃ g, ad = ⟨g, 0, none⟩) ∧ ∀ j x, l[j]? = some x → ∃ g, A = some ⟨g, 0, none⟩ ∧ w.cell? ⟨g, j, none⟩ = some (.pointer (some ⟨x.b, 0, none⟩)) := by
  rcases ow.form with ⟨h1, h2⟩ | ⟨g, c, h1, _⟩
  · have h2 : l = [] := by simpa using h2
    subst h2
    exact ⟨none, 0, h1, fun _ => rfl, (fun ad h => by cases h), (fun j x h => by simp at h)⟩
  · rw [List.length_map] at h1
    subst h1
    refine ⟨_, c, rfl, (fun h => by cases h), (fun ad h => by cases h; exact ⟨g, rfl⟩), fun j x hx => ⟨g, rfl, ?_⟩⟩
    have hl2 : (l.map VeI.b).length = l.length := List.length_map _
    have hlt := (List.getElem?_eq_some_iff.1 hx).1
    have o2 := ow
    rw [← hl2] at o2
    have := Own.cell o2 j (by rw [hl2]; exact hlt)
    rw [this]
    have e := List.getElem?_eq_some_iff.1 hx
    simp [ptrV, e.2]
set_option maxRecDepth 100000 in
theorem find_any (h : LdAt w m K o z) {k : Nat} (hk : k < 64) (hl : (z.k k).length ≤ 100000) (hf : IsHold fv w z.F P) :
    Calls Try.prog 81 #[.pointer (some ⟨m, 0, none⟩), .int .i64 k, fv] w fun e w' => e = .returned (ptrO (((z.k k).find? P).map VeI.b)) ∧ Keep (fun _ => False) w w' := by
  have C := index_any (h.r k hk) hl (fun x hx => h.ver hk hx) hf
  have ck := h.a.ck k hk
  obtain ⟨A, c, eK, hA0, hA1, hA2⟩ := (h.r k hk).shape
  rw [eK] at C ck
  obtain ⟨n, en⟩ : ∃ n, (z.k k).length = n := ⟨_, rfl⟩
  rw [en] at C ck
  have HA := Lib.hid hA2
  have HN := Lib.hid en
  obtain ⟨q, eq⟩ : ∃ q, (z.k k).find? P = q := ⟨_, rfl⟩
  have HQ := Lib.hid eq
  rw [eq]
  clear hA0 hA1 hA2 eK en hf hl eq
  go_enter Try.func81, Try.ntmps81
  go_wp2_with fail
  refine C.mono ?_
  rintro e w1 ⟨r, rfl, hr, k1⟩
  clear C
  rcases hr with ⟨rfl, hn⟩ | ⟨j, x, rfl, hx, hn, _⟩
  · obtain rfl : q = none := HQ.out.symm.trans hn
    go_wp2
    go_ret
    exact ⟨rfl, k1⟩
  · obtain rfl : q = some x := HQ.out.symm.trans hn
    obtain ⟨g, rfl, hc⟩ := HA.out j x hx
    have hc := k1.cell hc id
    have hlt : j < n := by rw [← HN.out]; exact (List.getElem?_eq_some_iff.1 hx).1
    clear hx
    go_wp2
    go_ret
    exact ⟨rfl, k1⟩
/-- A transaction that relies on some keys more. -/
def relyT (t : TtI) (lvl : Int) (lo hi : Int) : TtI := { t with again := fun k => t.again k || (decide (lvl ≤ t.level) && decide (lo ≤ (k : Int)) && decide ((k : Int) ≤ hi)) }
theorem putT_put (s : Nat → Option TtI) (i : Nat) (a b : Option TtI) : putT (putT s i a) i b = putT s i b := by
  funext j
  unfold putT
  by_cases e : j = i
  · rw [if_pos e, if_pos e]
  · rw [if_neg e, if_neg e, if_neg e]
theorem putT_same {s : Nat → Option TtI} {i : Nat} {a : Option TtI} (h : s i = a) : putT s i a = s := by
  funext j
  unfold putT
  by_cases e : j = i
  · rw [if_pos e, e, h]
  · rw [if_neg e]
set_option maxRecDepth 100000 in
theorem relies_any (h : LdAt w m K o z) {i : Nat} (hi : i < 8) (ht : z.s i = some t) (lvl : Int) (lo hi' : Nat) (h0 : lo ≤ hi') (h1 : hi' < 64) :
    Calls Try.prog 76 #[.pointer (some ⟨t.b, 0, none⟩), .int .i64 lvl, .int .i64 lo, .int .i64 hi'] w fun e w' => e = .returned (.tuple #[]) ∧ LdAt w' m K o { z with s := putT z.s i (some (relyT t lvl lo hi')) } ∧ Keep (fun g => g = t.b) w w' := by
  have c1 := (h.t i t hi ht).c1
  by_cases hlv : t.level < lvl
  · have d : decide (t.level < lvl) = true := decide_eq_true hlv
    have e : { z with s := putT z.s i (some (relyT t lvl lo hi')) } = z := by
      have : relyT t lvl lo hi' = t := by
        unfold relyT
        have : decide (lvl ≤ t.level) = false := by rw [decide_eq_false_iff_not]; omega
        rw [this]
        simp
      rw [this, putT_same ht]
    rw [e]
    obtain ⟨lv, elv⟩ : ∃ lv, t.level = lv := ⟨_, rfl⟩
    rw [elv] at d c1
    clear e hlv elv
    go_enter Try.func76, Try.ntmps76
    go_wp2
    refine bodyPost_ret (results_none rfl _ _ _) rfl ?_
    exact ⟨rfl, h, Keep.refl _ _⟩
  · have d : decide (t.level < lvl) = false := decide_eq_false hlv
    have H := Lib.hid h
    have HT := Lib.hid ht
    have HL := Lib.hid hlv
    obtain ⟨lv, elv⟩ : ∃ lv, t.level = lv := ⟨_, rfl⟩
    obtain ⟨b, eb⟩ : ∃ b, t.b = b := ⟨_, rfl⟩
    rw [elv] at d c1
    rw [eb] at c1 ⊢
    have EB := Lib.hid eb
    clear h ht hlv elv eb
    go_enter Try.func76, Try.ntmps76
    go_wp2
    go_loopw [8] (fun q wr => ∃ j : Nat, lo ≤ j ∧ j ≤ hi' + 1 ∧ q = .int .i64 j ∧ Keep (fun g => g = b) w wr ∧ LdAt wr m K o { z with s := putT z.s i (some (relyT t lvl lo ((j : Int) - 1))) }) (fun q _ => hi' + 1 - (intOf q).toNat)
    case atStart =>
      refine ⟨lo, Nat.le_refl _, by omega, rfl, Keep.refl _ _, ?_⟩
      have : relyT t lvl lo ((lo : Int) - 1) = t := by
        unfold relyT
        have : ∀ k : Nat, (decide (lvl ≤ t.level) && decide ((lo : Int) ≤ (k : Int)) && decide ((k : Int) ≤ (lo : Int) - 1)) = false := fun k => by
          rw [Bool.and_eq_false_iff, Bool.and_eq_false_iff, decide_eq_false_iff_not, decide_eq_false_iff_not, decide_eq_false_iff_not]; omega
        simp only [this, Bool.or_false]
      rw [this, putT_same HT.out]
      exact H.out
    case round =>
      obtain ⟨j, hj0, hj1, rfl, kr, hr⟩ := hrel
      have HR := Lib.hid hr
      have tt := hr.t i _ hi (putT_self _ _ _)
      have hj64 : j < 65 := by omega
      clear hr
      by_cases hle : j ≤ hi'
      · have wk : IntKind.i64.wrap ((j : Int) + 1) = (j : Int) + 1 := IntWalk.i64_in _ (by omega)
        have ca := tt.ca j (by omega)
        have fz := tt.fz (4 + j)
        have eb2 : (relyT t lvl lo ((j : Int) - 1)).b = b := EB.out
        rw [eb2] at ca fz
        have HTT := Lib.hid tt
        clear tt
        go_wp2
        go_roundw
        case rel =>
          refine ⟨j + 1, by omega, by omega, by go_num, kr.setCell (p := ⟨b, 4 + j, none⟩) rfl (Value.bool true), ?_⟩
          have T2 := TtAt.again' HTT.out (k := j) (by omega) (relyT t lvl lo (((j + 1 : Nat) : Int) - 1)).again (by
            have : decide (lvl ≤ t.level) = true := by have := HL.out; rw [decide_eq_true_iff]; omega
            show (t.again j || (decide (lvl ≤ t.level) && decide ((lo : Int) ≤ (j : Int)) && decide ((j : Int) ≤ ((j + 1 : Nat) : Int) - 1))) = true
            rw [this, decide_eq_true (show (lo : Int) ≤ (j : Int) by omega), decide_eq_true (show (j : Int) ≤ ((j + 1 : Nat) : Int) - 1 by omega)]; simp) (fun a ha => by
            show (t.again a || (decide (lvl ≤ t.level) && decide ((lo : Int) ≤ (a : Int)) && decide ((a : Int) ≤ ((j + 1 : Nat) : Int) - 1))) = (t.again a || (decide (lvl ≤ t.level) && decide ((lo : Int) ≤ (a : Int)) && decide ((a : Int) ≤ (j : Int) - 1)))
            have : decide ((a : Int) ≤ ((j + 1 : Nat) : Int) - 1) = decide ((a : Int) ≤ (j : Int) - 1) := by rw [Bool.eq_iff_iff, decide_eq_true_iff, decide_eq_true_iff]; omega
            rw [this])
          have := HR.out.txn hi (putT_self _ _ _) { relyT t lvl lo ((j : Int) - 1) with again := (relyT t lvl lo (((j + 1 : Nat) : Int) - 1)).again } rfl rfl T2
          rw [eb2] at this
          have e3 : ({ relyT t lvl lo ((j : Int) - 1) with again := (relyT t lvl lo (((j + 1 : Nat) : Int) - 1)).again } : TtI) = relyT t lvl lo (((j + 1 : Nat) : Int) - 1) := rfl
          rw [e3] at this
          simpa only [putT_put] using this
        case measure => simp [intOf]; omega
      · obtain rfl : j = hi' + 1 := by omega
        have dj : decide (((hi' + 1 : Nat) : Int) ≤ (hi' : Int)) = false := by rw [decide_eq_false_iff_not]; omega
        clear tt
        go_wp2
        go_end0
        refine ⟨rfl, ?_, kr⟩
        have e : ((hi' + 1 : Nat) : Int) - 1 = hi' := by omega
        rw [← e]; exact HR.out
end
end Go.Proofs.Ytkkjofefjepodaa
