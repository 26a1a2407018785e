/- Package model as landed, in memory, third part: function values that tell something of versions; slices.IndexFunc; find. Condition: at most 100,000 versions of a key. -/
import Derived.Test.YtalkfnblnlcklaaModelBaseDZap
import Derived.Test.YtalkfnblnlcklaaModelBaseDZao
import Derived.Deep.LoopGhost
namespace Go.Proofs.Ytalkfnblnlcklaa
open Go.ChangeShapes Go.WideShapes Go.ChangeAt Go.RowKit
set_option linter.unusedVariables false
set_option linter.unusedSimpArgs false
section
variable {w w' : World} {m : Nat} {K : Nat → Value} {o : Nat → Nat} {z : LdI} {T : Nat → Prop} {F : Nat → FtI} {P : VeI → Bool} {t : TtI} {fv : Value} {l : List VeI}
/-- What a function value does at a version. -/
def TellsV (w : World) (F : Nat → FtI) (P : VeI → Bool) (f : FuncId) (A : Value → Array Value) : Prop := ∀ (v : VeI) (w' : World), Keep (fun _ => False) w w' → VeF w' F v → Calls Try.prog f (A (.pointer (some ⟨v.b, 0, none⟩))) w' fun e w'' => e = .returned (.bool (P v)) ∧ Keep (fun _ => False) w' w''
/-- A function value that tells P of a version, from world w on. -/
structure IsHold (fv : Value) (w : World) (F : Nat → FtI) (P : VeI → Bool) : Prop where
 form : ∃ f p, (∀ (a : Array Value) (w : World), (callFunc f a).run Try.prog w = .ok (.enter f a) w) ∧ ((fv = .func (.func f) #[] #[p] ∧ TellsV w F P f fun x => #[x, p]) ∨ (fv = .func (.func f) #[p] #[] ∧ TellsV w F P f fun x => #[p, x]))
theorem IsHold.same (h : IsHold fv w F P) (k : Keep (fun _ => False) w w') : IsHold fv w' F P := by
 obtain ⟨f, p, e, hh⟩ := h.form
 refine ⟨f, p, e, ?_⟩
 rcases hh with ⟨q, hh⟩ | ⟨q, hh⟩
 ·exact .inl ⟨q, fun v w2 k2 hv => hh v w2 (k.trans k2) hv⟩
 ·exact .inr ⟨q, fun v w2 k2 hv => hh v w2 (k.trans k2) hv⟩
theorem ent77 (a : Array Value) (w : World) : (callFunc 54 a).run Try.prog w = .ok (.enter 54 a) w := by kernel_rfl
theorem ent95 (a : Array Value) (w : World) : (callFunc 62 a).run Try.prog w = .ok (.enter 62 a) w := by kernel_rfl
theorem ent104 (a : Array Value) (w : World) : (callFunc 67 a).run Try.prog w = .ok (.enter 67 a) w := by kernel_rfl
theorem ent82 (a : Array Value) (w : World) : (callFunc 44 a).run Try.prog w = .ok (.enter 44 a) w := by kernel_rfl
theorem ent53 (a : Array Value) (w : World) : (callFunc 34 a).run Try.prog w = .ok (.enter 34 a) w := by kernel_rfl
theorem lconf_any {v : VeI} (ht : TtAt w t) (hv : VeF w F v) (hg : FtAt w t.f (F t.f)) : Calls Try.prog 62 #[.pointer (some ⟨t.b, 0, none⟩), .pointer (some ⟨v.b, 0, none⟩)] w fun e w' => e = .returned (.bool (confV F t v)) ∧ Keep (fun _ => False) w w' := by
 cases e : v.en with
 | none => exact conf_none e ht hv hg
 | some d => exact conf_some d e ht hv hg
theorem hold_sees (ht : TtAt w t) (hg : FtAt w t.f (F t.f)) : IsHold (.func (.func 54) #[.pointer (some ⟨t.b, 0, none⟩)] #[]) w F (seesV F t) :=
 ⟨_, _, ent77, .inr ⟨rfl, fun v w' k hv => (sees_any (ht.keep k id) hv (hg.keep k id)).mono fun e w'' q => ⟨q.1, by rw [q.2]; exact Keep.refl _ _⟩⟩⟩
theorem hold_conf (ht : TtAt w t) (hg : FtAt w t.f (F t.f)) : IsHold (.func (.func 62) #[.pointer (some ⟨t.b, 0, none⟩)] #[]) w F (confV F t) :=
 ⟨_, _, ent95, .inr ⟨rfl, fun v w' k hv => lconf_any (ht.keep k id) hv (hg.keep k id)⟩⟩
theorem hold_made (ht : TtAt w t) (hg : FtAt w t.f (F t.f)) : IsHold (.func (.func 67) #[.pointer (some ⟨t.b, 0, none⟩)] #[]) w F (madeV t) :=
 ⟨_, _, ent104, .inr ⟨rfl, fun v w' k hv => made_any (ht.keep k id) hv (hg.keep k id)⟩⟩
theorem collect1_any {v : VeI} {p : Nat} {low : Int} (hv : VeF w F v) (hp : w.cell? ⟨p, 0, none⟩ = some (.int .u64 low)) : Calls Try.prog 34 #[.pointer (some ⟨v.b, 0, none⟩), .pointer (some ⟨p, 0, none⟩)] w fun e w' => e = .returned (.bool (garbV F low v)) ∧ w' = w := by
 have B := garb_any hv low
 obtain ⟨r, er⟩ : ∃ r, garbV F low v = r := ⟨_, rfl⟩
 rw [er] at B ⊢
 clear er hv
 go_enter Try.func34, Try.ntmps34
 go_wp2_with fail
 refine B.mono ?_
 rintro e w1 ⟨rfl, rfl⟩
 go_wp2
 go_ret
 exact ⟨rfl, rfl⟩
theorem hold_garb {p : Nat} {low : Int} (hp : w.cell? ⟨p, 0, none⟩ = some (.int .u64 low)) : IsHold (.func (.func 34) #[] #[.pointer (some ⟨p, 0, none⟩)]) w F (garbV F low) :=
 ⟨_, _, ent53, .inl ⟨rfl, fun v w' k hv => (collect1_any hv (k.cell hp id)).mono fun e w'' q => ⟨q.1, by rw [q.2]; exact Keep.refl _ _⟩⟩⟩
set_option maxRecDepth 100000 in
theorem exist1_any {v : VeI} {p : Nat} {at' : Int} (hv : VeF w F v) (hp : w.cell? ⟨p, 0, none⟩ = some (.int .u64 at')) : Calls Try.prog 44 #[.pointer (some ⟨v.b, 0, none⟩), .pointer (some ⟨p, 0, none⟩)] w fun e w' => e = .returned (.bool (existV F at' v)) ∧ Keep (fun _ => False) w w' := by
  have S1 := fun d => by_any (hv.same (drewN_keep (fun _ => False) w d)).mo at'
  have S2 := fun d => by_any (hv.same (drewN_keep (fun _ => False) w d)).e at'
  obtain ⟨_, c1, c2, _⟩ := hv.a
  unfold existV
  obtain ⟨q, eq⟩ : ∃ q, byF F (some v.mr) at' = q := ⟨_, rfl⟩
  obtain ⟨r, er⟩ : ∃ r, byF F v.en at' = r := ⟨_, rfl⟩
  simp only [eq] at S1
  simp only [er] at S2
  rw [eq, er]
  clear eq er hv
  obtain ⟨b, val, mr, en⟩ := v
  cases en with
  | none =>
    dsimp only [ptrO] at *
    cases q
    · go_enter Try.func44, Try.ntmps44; go_wp2; go_quiet ((go_at_call 45; first | with_reducible exact Calls.quiet_of_same (S1 _) | with_reducible exact Calls.quiet_of_same (S2 _))); go_wp2; go_ret; exact ⟨by simp, drewN_keep _ _ _⟩
    · go_enter Try.func44, Try.ntmps44; go_wp2; go_quiet ((go_at_call 45; first | with_reducible exact Calls.quiet_of_same (S1 _) | with_reducible exact Calls.quiet_of_same (S2 _))); go_wp2; go_ret; exact ⟨by simp, drewN_keep _ _ _⟩
  | some d =>
    dsimp only [ptrO] at *
    cases q
    · go_enter Try.func44, Try.ntmps44; go_wp2; go_quiet ((go_at_call 45; first | with_reducible exact Calls.quiet_of_same (S1 _) | with_reducible exact Calls.quiet_of_same (S2 _))); go_wp2; go_ret; exact ⟨by simp, drewN_keep _ _ _⟩
    · go_enter Try.func44, Try.ntmps44; go_wp2; go_quiet ((go_at_call 45; first | with_reducible exact Calls.quiet_of_same (S1 _) | with_reducible exact Calls.quiet_of_same (S2 _))); go_wp2; go_ret; exact ⟨by simp, drewN_keep _ _ _⟩
theorem hold_exist {p : Nat} {at' : Int} (hp : w.cell? ⟨p, 0, none⟩ = some (.int .u64 at')) : IsHold (.func (.func 44) #[] #[.pointer (some ⟨p, 0, none⟩)]) w F (existV F at') :=
 ⟨_, _, ent82, .inl ⟨rfl, fun v w' k hv => exist1_any hv (k.cell hp id)⟩⟩
theorem existing_any (at' : Int) (w : World) : Calls Try.prog 26 #[.int .u64 at'] w fun e w' => ∃ fv, e = .returned fv ∧ (∀ F, IsHold fv w' F (existV F at')) ∧ (∃ f p, fv = .func (.func f) #[] #[p]) ∧ Keep (fun _ => False) w w' := by
 go_enter Try.func26, Try.ntmps26
 go_wp2
 go_ret
 exact ⟨_, rfl, fun F => hold_exist (by simp), ⟨_, _, rfl⟩, (Keep.refl _ _).alloc _⟩
theorem first_at {j : Nat} {x : VeI} (hx : l[j]? = some x) (hp : P x = true) (hn : ∀ i y, i < j → l[i]? = some y → P y = false) : l.find? P = some x := by
  induction l generalizing j with
  | nil => cases hx
  | cons y l ih =>
    rw [List.find?_cons]
    cases j with
    | zero =>
      obtain rfl : y = x := by simpa using hx
      rw [hp]
    | succ j =>
      rw [hn 0 y (Nat.succ_pos j) rfl]
      exact ih (by simpa using hx) fun i u hi hu => hn (i + 1) u (by omega) (by simpa using hu)
/-- The first version that is so, and where it stands. -/
def FirstV (l : List VeI) (P : VeI → Bool) (r : Int) : Prop := (r = -1 ∧ l.find? P = none) ∨ ∃ (i : Nat) (v : VeI), r = i ∧ l[i]? = some v ∧ l.find? P = some v ∧ ∀ (j : Nat) (y : VeI), j < i → l[j]? = some y → P y = false
set_option maxHeartbeats 1000000 in
theorem index_any {v : Value} (ow : OwnV w v l) (hl : l.length ≤ 100000) (hv : ∀ x ∈ l, VeF w F x) (hf : IsHold fv w F P) :
    Calls Try.prog 47 #[v, fv] w fun e w' => ∃ r, e = .returned (.int .i64 r) ∧ FirstV l P r ∧ Keep (fun _ => False) w w' := by
  obtain ⟨A, c, rfl, hA0, hA1⟩ : ∃ A c, v = .slice A l.length c ∧ (A = none → l = []) ∧ ∀ ad, A = some ad → ∃ g, ad = ⟨g, 0, none⟩ := by
    rcases ow.form with ⟨h1, h2⟩ | ⟨g, c, h1, _⟩
    · have h2 : l = [] := by simpa using h2
      exact ⟨none, 0, by rw [h1, h2]; rfl, fun _ => h2, fun ad h => by cases h⟩
    · rw [List.length_map] at h1
      exact ⟨_, c, h1, fun h => (by cases h), fun ad h => by cases h; exact ⟨g, rfl⟩⟩
  have HV := Lib.hid hv
  have HF := Lib.hid hf
  clear hv hf
  obtain ⟨f, p, hent, hh⟩ := HF.out.form
  have HH := Lib.hid hh
  clear hh HF
  go_enter Try.func47, Try.ntmps47
  go_wp2
  go_loopw [5, 8] (fun _ q wr => ∃ j : Nat, j ≤ l.length ∧ q = .int .i64 j ∧ Keep (fun _ => False) w wr ∧ ∀ i x, i < j → l[i]? = some x → P x = false) (fun _ q _ => l.length - (intOf q).toNat)
  case atStart => exact ⟨0, Nat.zero_le _, rfl, Keep.refl _ w, fun i x hm => absurd hm (Nat.not_lt_zero i)⟩
  case round =>
    obtain ⟨j, hj, rfl, kr, hno⟩ := hrel
    have HN := Lib.hid hno
    clear hno
    by_cases hlt : j < l.length
    · cases A with
      | none => rw [hA0 rfl] at hlt; exact absurd hlt (Nat.not_lt_zero j)
      | some ad =>
        obtain ⟨g, rfl⟩ := hA1 _ rfl
        obtain ⟨x, hx⟩ : ∃ x, l[j]? = some x := ⟨_, List.getElem?_eq_getElem hlt⟩
        have cj : wr.cell? ⟨g, j, none⟩ = some (.pointer (some ⟨x.b, 0, none⟩)) := by
          have o2 := ow.keep kr (fun _ _ => id)
          have hl2 : (l.map VeI.b).length = l.length := List.length_map _
          rw [← hl2] at o2
          have := Own.cell o2 j (by rw [hl2]; exact hlt)
          rw [this]
          have e := List.getElem?_eq_some_iff.1 hx
          simp [ptrV, e.2]
        have hxv := (HV.out x (List.mem_of_getElem? hx)).same kr
        have wk : IntKind.i64.wrap ((j : Int) + 1) = (j : Int) + 1 := IntWalk.i64_in _ (by omega)
        have HX := Lib.hid hx
        obtain ⟨r, er⟩ : ∃ r, P x = r := ⟨_, rfl⟩
        rcases HH.out with ⟨rfl, hc⟩ | ⟨rfl, hc⟩
        · have C := hc x wr kr hxv
          rw [er] at C
          clear hxv hx hc ow hA0 hA1; have ER := Lib.hid er; clear er; cases r; (go_wp2_with fail; refine C.mono ?_; rintro e w1 ⟨rfl, k1⟩; clear C; go_wp2; go_roundw; (case rel => exact ⟨j + 1, by omega, by go_num, kr.trans k1, fun i y hi hy => by rcases Nat.lt_succ_iff_lt_or_eq.1 hi with q | q; exact HN.out i y q hy; rw [q, HX.out] at hy; cases hy; exact ER.out⟩); (case measure => simp [intOf]; omega)); (go_wp2_with fail; refine C.mono ?_; rintro e w1 ⟨rfl, k1⟩; clear C; go_wp2; go_ret; exact ⟨_, rfl, .inr ⟨j, x, rfl, HX.out, first_at HX.out ER.out HN.out, HN.out⟩, kr.trans k1⟩)
        · have C := hc x wr kr hxv
          rw [er] at C
          clear hxv hx hc ow hA0 hA1; have ER := Lib.hid er; clear er; cases r; (go_wp2_with fail; refine C.mono ?_; rintro e w1 ⟨rfl, k1⟩; clear C; go_wp2; go_roundw; (case rel => exact ⟨j + 1, by omega, by go_num, kr.trans k1, fun i y hi hy => by rcases Nat.lt_succ_iff_lt_or_eq.1 hi with q | q; exact HN.out i y q hy; rw [q, HX.out] at hy; cases hy; exact ER.out⟩); (case measure => simp [intOf]; omega)); (go_wp2_with fail; refine C.mono ?_; rintro e w1 ⟨rfl, k1⟩; clear C; go_wp2; go_ret; exact ⟨_, rfl, .inr ⟨j, x, rfl, HX.out, first_at HX.out ER.out HN.out, HN.out⟩, kr.trans k1⟩)
    · obtain rfl : j = l.length := by omega
      clear hA0 hA1 ow HH
      go_wp2
      go_ret
      exact ⟨_, rfl, .inl ⟨rfl, List.find?_eq_none.2 fun x hx => by
        obtain ⟨i, hi⟩ := List.mem_iff_getElem?.1 hx
        have := HN.out i x (List.getElem?_eq_some_iff.1 hi).1 hi
        simp [this]⟩, kr⟩
end
end Go.Proofs.Ytalkfnblnlcklaa
