/- Several texts, one behind the other: AxS, AxD. -/
import Derived.Test.YtalkfnblnlcklaaModelBaseDZab
import Derived.Test.YtalkfnblnlcklaaModelBaseDZac
import Derived.Test.YtalkfnblnlcklaaModelBaseDZad
import Derived.ChangeOld
import Derived.Deep.LoopGhost
import Derived.Deep.CutRange
import Derived.Deep.CutBlock
/- vinculumref20's set, laid, find: Pairs with a key's value, or without it; with a call laid over; a key's value. Condition: at most 50,000 Pairs. -/
namespace Go.Proofs.Ytalkfnblnlcklaa
open Go.ChangeShapes Go.WideShapes Go.ChangeAt Go.RowKit
set_option linter.unusedVariables false
set_option linter.unusedSimpArgs false
section
variable {w w' : World} {v : Value} {l : List (Int × Int)}
abbrev LPr (w : World) (v : Value) (l : List (Int × Int)) : Prop := Lies 2 prI w v l
abbrev OPr (B : Nat) (w : World) (v : Value) (l : List (Int × Int)) : Prop := OwnB 2 prI 73 B w v l
theorem LPr.cells {A : Option Addr} {n c : Nat} (h : LPr w (.slice A n c) l) (h0 : 0 < l.length) : ∃ b off, A = some ⟨b, off, none⟩ ∧ b < w.heap.size ∧ ∀ (j : Nat) (p : Int × Int), l[j]? = some p → w.cell? ⟨b, off + j * 2, none⟩ = some (.int .i64 p.1) ∧ w.cell? ⟨b, off + j * 2 + 1, none⟩ = some (.int .i64 p.2) := by
 obtain ⟨A2, c2, e, h1, _, h3, h4⟩ := h
 cases e
 obtain ⟨b, off, rfl, hb, hc⟩ := h4 h0
 exact ⟨b, off, rfl, hb, fun j p hp => ⟨hc j p hp 0 _ rfl, hc j p hp 1 _ rfl⟩⟩
theorem LPr.form (h : LPr w v l) : ∃ A c, v = .slice A l.length c ∧ l.length ≤ c ∧ c ≤ maxLen := by
 obtain ⟨A2, c2, e, h1, h2, _⟩ := h
 exact ⟨A2, c2, e, h1, h2⟩
theorem pr_one : ∀ p : Int × Int, ∀ u ∈ prI p, u.oneCell' = true := by
 intro p q hq
 simp only [prI, List.mem_cons, List.not_mem_nil, or_false] at hq
 rcases hq with rfl | rfl <;> rfl
def AtK (K : Nat) (w : World) (i : Value) (wr : World) : Prop := ∃ k : Nat, k ≤ K ∧ i = .int .i64 k ∧ w = wr
set_option maxRecDepth 100000 in
set_option maxHeartbeats 2000000 in
theorem set_any (h : LPr w v l) (hlen : l.length ≤ 50000) (key val : Int) (gone : Bool) :
    Calls Try.prog 57 #[v, .int .i64 key, .int .i64 val, .bool gone] w fun e w' => ∃ u, e = .returned u ∧ OPr w.heap.size w' u (setP l key val gone) ∧ Keep (fun _ => False) w w' := by
  obtain ⟨A, c, rfl, hc, hm⟩ := h.form
  obtain ⟨n, hn⟩ : ∃ n, l.length = n := ⟨_, rfl⟩
  have cells := h.cells
  have cl := cut_le l key
  obtain ⟨K, hK⟩ : ∃ K, cutK l key = K := ⟨_, rfl⟩
  have clt : ∀ k, k < K → ∃ p, l[k]? = some p ∧ p.1 < key := fun k hk => cut_lt (by rw [hK]; exact hk)
  have cat : K < n → ∃ p, l[K]? = some p ∧ ¬ p.1 < key := fun hk => by have := cut_at (l := l) (key := key) (by rw [hK, hn]; exact hk); rwa [hK] at this
  rw [hK, hn] at cl
  rw [hn] at hc hlen cells h ⊢
  have HH := Lib.hid h
  have CE := Lib.hid cells
  have CL := Lib.hid clt
  have CA := Lib.hid cat
  have HK := Lib.hid hK
  have HN := Lib.hid hn
  clear h cells clt cat hK hn
  go_enter Try.func57, Try.ntmps57
  go_wp2
  go_loopw [9] (AtK K w) (fun i _ => n - (intOf i).toNat)
  case atStart => exact ⟨0, Nat.zero_le _, rfl, rfl⟩
  case round =>
    obtain ⟨k, hk, rfl, rfl⟩ := hrel
    by_cases hlt : k < K
    · obtain ⟨p, hp, hpk⟩ := CL.out k hlt
      obtain ⟨b, off, rfl, hb, hcc⟩ := CE.out (by omega)
      obtain ⟨c0, c1⟩ := hcc k p hp
      obtain ⟨pk, pv⟩ := p
      have dk : decide (pk < key) = true := decide_eq_true hpk
      have wk : IntKind.i64.wrap ((k : Int) + 1) = (k : Int) + 1 := IntWalk.i64_in _ (by unfold maxLen at hm; omega)
      clear hp hcc
      go_wp2
      first | exact ⟨⟨k + 1, by omega, by go_num, rfl⟩, by simp [intOf]; omega⟩ | (refine ⟨?rel2, ?meas2⟩; (case meas2 => (simp [intOf]; omega)); (case rel2 => ((repeat apply Exists.intro); exact ⟨⟨k + 1, by omega, by go_num, rfl⟩, rfl⟩)))
    · obtain rfl : k = K := by omega
      have q : ∃ is, isK l key = is ∧ (k < n → ∃ p, l[k]? = some p ∧ ¬ p.1 < key ∧ decide (p.1 = key) = is) ∧ (¬ k < n → is = false) := by
        refine ⟨_, rfl, fun h => ?_, fun h => ?_⟩
        · obtain ⟨p, hp, hq⟩ := CA.out h
          exact ⟨p, hp, by omega, by unfold isK; rw [HK.out, hp]⟩
        · unfold isK
          rw [HK.out, List.getElem?_eq_none (by rw [HN.out]; omega)]
      obtain ⟨is, his, hyes, hno⟩ := q
      have HI := Lib.hid his
      clear his hlt
      have LT := (HH.out.take k cl).keep ((Keep.refl (fun _ => False) w).alloc (.cells #[] 73))
      have lt1 : (l.take k).length ≤ 50000 := by rw [List.length_take]; omega
      have hkz : (k : Int) ≤ c := by omega
      rcases (by omega : k < n ∨ k = n) with hkn | rfl
      · obtain ⟨p, hp, hpk, hpe⟩ := hyes hkn; obtain ⟨b, off, rfl, hb, hcc⟩ := CE.out (by omega); obtain ⟨c0, c1⟩ := hcc k p hp; obtain ⟨pk, pv⟩ := p; dsimp only at hpk hpe c0 c1; have dk : decide (pk < key) = false := decide_eq_false hpk; have dz : decide ((k : Int) < n) = true := decide_eq_true (by omega); have hkn' := hkn; have de : (pk == key) = is := (by rw [← hpe]; rw [Bool.eq_iff_iff]; simp); clear hp hcc hyes hno hpe hpk
        go_upto_region 5 with fail
        obtain ⟨A, eA⟩ : ∃ A : Option Addr, some (⟨b, off, none⟩ : Addr) = A := ⟨_, rfl⟩; rw [eA] at HH LT ⊢; clear eA c0 c1 CE
        go_wp2_with (with_reducible refine wp_stop 44 rfl ?_)
        intro _
        refine wp_appM Try.underlying44 info_pr rfl (by decide) (by decide) prI_len (fun x _ => pr_one x) rfl (.tmp 40) (.tmp 43) rfl (B := w.heap.size) (by simp) rfl (OwnB.empty (Nat.le_refl _)) rfl LT (by simp; omega) ?_
        intro v1 w1 o1 k1
        have o1 : OPr w.heap.size w1 v1 (l.take k) := o1
        have kw1 : Keep (fun _ => False) w w1 := ((Keep.refl (fun _ => False) w).alloc (.cells #[] 73)).older k1 (fun j hj => by cases hj; exact Nat.le_refl _)
        have O1 := Lib.hid o1
        clear o1 k1 LT
        cases gone with
        | true =>
          rcases Bool.eq_false_or_eq_true is with his | his
          · subst his; have wk : IntKind.i64.wrap ((k : Int) + 1) = (k : Int) + 1 := IntWalk.i64_in _ (by unfold maxLen at hm; omega)
            obtain ⟨Ad, eAd⟩ : ∃ Ad, (if c = (k + 1) then A else Option.map (fun x => x.add ((k + 1) * 2)) A) = Ad := ⟨_, rfl⟩; have LD := (HH.out.drop (k + 1) (by omega) eAd.symm).keep kw1; go_wp2_with (with_reducible refine wp_stop 60 rfl ?_); intro _; refine wp_appM Try.underlying44 info_pr rfl (by decide) (by decide) prI_len (fun x _ => pr_one x) rfl (.tmp 56) (.tmp 59) rfl (B := w.heap.size) kw1.size rfl O1.out rfl LD (by simp [HN.out]; omega) ?_; intro u9 w9 o9 k9; have kw9 : Keep (fun _ => False) w w9 := Keep.older kw1 k9 (fun j hj => (OwnB.lt O1.out hj).1); have K9 := Lib.hid kw9; have O9 := Lib.hid o9; clear o9 k9 kw9 LD; go_wp2; go_ret
            refine ⟨u9, rfl, ?_, K9.out⟩; have e : setP l key val true = (l.take k) ++ l.drop (k + 1) := (by unfold setP; rw [HI.out, HK.out]; simp); rw [e]; exact O9.out
          · subst his; have wk : IntKind.i64.wrap ((k : Int) + 1) = (k : Int) + 1 := IntWalk.i64_in _ (by unfold maxLen at hm; omega)
            obtain ⟨Ad, eAd⟩ : ∃ Ad, Option.map (fun x => x.add (k * 2)) A = Ad := ⟨_, rfl⟩; have LD := (HH.out.drop (A' := Ad) k (by omega) (by rw [if_neg (by omega)]; exact eAd.symm)).keep kw1; go_wp2_with (with_reducible refine wp_stop 60 rfl ?_); intro _; refine wp_appM Try.underlying44 info_pr rfl (by decide) (by decide) prI_len (fun x _ => pr_one x) rfl (.tmp 56) (.tmp 59) rfl (B := w.heap.size) kw1.size rfl O1.out rfl LD (by simp [HN.out]; omega) ?_; intro u9 w9 o9 k9; have kw9 : Keep (fun _ => False) w w9 := Keep.older kw1 k9 (fun j hj => (OwnB.lt O1.out hj).1); have K9 := Lib.hid kw9; have O9 := Lib.hid o9; clear o9 k9 kw9 LD; go_wp2; go_ret
            refine ⟨u9, rfl, ?_, K9.out⟩; have e : setP l key val true = (l.take k) ++ l.drop k := (by unfold setP; rw [HI.out, HK.out]; simp); rw [e]; exact O9.out
        | false =>
          go_wp2_with (with_reducible refine wp_stop 52 rfl ?_)
          intro _
          refine wp_appM Try.underlying44 info_pr rfl (by decide) (by decide) prI_len (fun x _ => pr_one x) rfl (.tmp 47) (.tmp 51) rfl (B := w.heap.size) (by have := kw1.size; simp; omega) rfl (OwnB.keep O1.out ((Keep.refl (fun _ => False) w1).alloc _) (fun _ _ => id)) rfl (Lies.one prI_len (by decide) w1 (key, val) _) (by simp; omega) ?_
          intro v2 w2 o2 k2
          have o2 : OPr w.heap.size w2 v2 (l.take k ++ [(key, val)]) := o2
          have kw2 : Keep (fun _ => False) w w2 := (kw1.trans ((Keep.refl (fun _ => False) w1).alloc (.cells (prI (key, val)).toArray 73))).older k2 (fun j hj => (OwnB.lt O1.out hj).1)
          have O2 := Lib.hid o2
          clear o2 k2 kw1 O1
          rcases Bool.eq_false_or_eq_true is with his | his
          · subst his; have wk : IntKind.i64.wrap ((k : Int) + 1) = (k : Int) + 1 := IntWalk.i64_in _ (by unfold maxLen at hm; omega)
            obtain ⟨Ad, eAd⟩ : ∃ Ad, (if c = (k + 1) then A else Option.map (fun x => x.add ((k + 1) * 2)) A) = Ad := ⟨_, rfl⟩; have LD := (HH.out.drop (k + 1) (by omega) eAd.symm).keep kw2; go_wp2_with (with_reducible refine wp_stop 60 rfl ?_); intro _; refine wp_appM Try.underlying44 info_pr rfl (by decide) (by decide) prI_len (fun x _ => pr_one x) rfl (.tmp 56) (.tmp 59) rfl (B := w.heap.size) kw2.size rfl O2.out rfl LD (by simp [HN.out]; omega) ?_; intro u9 w9 o9 k9; have kw9 : Keep (fun _ => False) w w9 := Keep.older kw2 k9 (fun j hj => (OwnB.lt O2.out hj).1); have K9 := Lib.hid kw9; have O9 := Lib.hid o9; clear o9 k9 kw9 LD; go_wp2; go_ret
            refine ⟨u9, rfl, ?_, K9.out⟩; have e : setP l key val false = (l.take k ++ [(key, val)]) ++ l.drop (k + 1) := (by unfold setP; rw [HI.out, HK.out]; simp); rw [e]; exact O9.out
          · subst his; have wk : IntKind.i64.wrap ((k : Int) + 1) = (k : Int) + 1 := IntWalk.i64_in _ (by unfold maxLen at hm; omega)
            obtain ⟨Ad, eAd⟩ : ∃ Ad, Option.map (fun x => x.add (k * 2)) A = Ad := ⟨_, rfl⟩; have LD := (HH.out.drop (A' := Ad) k (by omega) (by rw [if_neg (by omega)]; exact eAd.symm)).keep kw2; go_wp2_with (with_reducible refine wp_stop 60 rfl ?_); intro _; refine wp_appM Try.underlying44 info_pr rfl (by decide) (by decide) prI_len (fun x _ => pr_one x) rfl (.tmp 56) (.tmp 59) rfl (B := w.heap.size) kw2.size rfl O2.out rfl LD (by simp [HN.out]; omega) ?_; intro u9 w9 o9 k9; have kw9 : Keep (fun _ => False) w w9 := Keep.older kw2 k9 (fun j hj => (OwnB.lt O2.out hj).1); have K9 := Lib.hid kw9; have O9 := Lib.hid o9; clear o9 k9 kw9 LD; go_wp2; go_ret
            refine ⟨u9, rfl, ?_, K9.out⟩; have e : setP l key val false = (l.take k ++ [(key, val)]) ++ l.drop k := (by unfold setP; rw [HI.out, HK.out]; simp); rw [e]; exact O9.out
      · obtain rfl : is = false := hno (Nat.lt_irrefl _); clear hyes hno
        go_upto_region 5 with fail
        clear CE
        go_wp2_with (with_reducible refine wp_stop 44 rfl ?_)
        intro _
        refine wp_appM Try.underlying44 info_pr rfl (by decide) (by decide) prI_len (fun x _ => pr_one x) rfl (.tmp 40) (.tmp 43) rfl (B := w.heap.size) (by simp) rfl (OwnB.empty (Nat.le_refl _)) rfl LT (by simp; omega) ?_
        intro v1 w1 o1 k1
        have o1 : OPr w.heap.size w1 v1 (l.take k) := o1
        have kw1 : Keep (fun _ => False) w w1 := ((Keep.refl (fun _ => False) w).alloc (.cells #[] 73)).older k1 (fun j hj => by cases hj; exact Nat.le_refl _)
        have O1 := Lib.hid o1
        clear o1 k1 LT
        cases gone with
        | true =>
          obtain ⟨Ad, eAd⟩ : ∃ Ad, (if c = k then A else Option.map (fun x => x.add (k * 2)) A) = Ad := ⟨_, rfl⟩; have LD := (HH.out.drop k (by omega) eAd.symm).keep kw1; rw [Nat.sub_self] at LD; go_wp2_with (with_reducible refine wp_stop 60 rfl ?_); intro _; refine wp_appM Try.underlying44 info_pr rfl (by decide) (by decide) prI_len (fun x _ => pr_one x) rfl (.tmp 56) (.tmp 59) rfl (B := w.heap.size) kw1.size rfl O1.out rfl LD (by simp [HN.out]; omega) ?_; intro u9 w9 o9 k9; have kw9 : Keep (fun _ => False) w w9 := Keep.older kw1 k9 (fun j hj => (OwnB.lt O1.out hj).1); have K9 := Lib.hid kw9; have O9 := Lib.hid o9; clear o9 k9 kw9 LD; go_wp2; go_ret
          refine ⟨u9, rfl, ?_, K9.out⟩; have e : setP l key val true = (l.take k) ++ l.drop k := (by unfold setP; rw [HI.out, HK.out]; simp); rw [e]; exact O9.out
        | false =>
          go_wp2_with (with_reducible refine wp_stop 52 rfl ?_)
          intro _
          refine wp_appM Try.underlying44 info_pr rfl (by decide) (by decide) prI_len (fun x _ => pr_one x) rfl (.tmp 47) (.tmp 51) rfl (B := w.heap.size) (by have := kw1.size; simp; omega) rfl (OwnB.keep O1.out ((Keep.refl (fun _ => False) w1).alloc _) (fun _ _ => id)) rfl (Lies.one prI_len (by decide) w1 (key, val) _) (by simp; omega) ?_
          intro v2 w2 o2 k2
          have o2 : OPr w.heap.size w2 v2 (l.take k ++ [(key, val)]) := o2
          have kw2 : Keep (fun _ => False) w w2 := (kw1.trans ((Keep.refl (fun _ => False) w1).alloc (.cells (prI (key, val)).toArray 73))).older k2 (fun j hj => (OwnB.lt O1.out hj).1)
          have O2 := Lib.hid o2
          clear o2 k2 kw1 O1
          obtain ⟨Ad, eAd⟩ : ∃ Ad, (if c = k then A else Option.map (fun x => x.add (k * 2)) A) = Ad := ⟨_, rfl⟩; have LD := (HH.out.drop k (by omega) eAd.symm).keep kw2; rw [Nat.sub_self] at LD; go_wp2_with (with_reducible refine wp_stop 60 rfl ?_); intro _; refine wp_appM Try.underlying44 info_pr rfl (by decide) (by decide) prI_len (fun x _ => pr_one x) rfl (.tmp 56) (.tmp 59) rfl (B := w.heap.size) kw2.size rfl O2.out rfl LD (by simp [HN.out]; omega) ?_; intro u9 w9 o9 k9; have kw9 : Keep (fun _ => False) w w9 := Keep.older kw2 k9 (fun j hj => (OwnB.lt O2.out hj).1); have K9 := Lib.hid kw9; have O9 := Lib.hid o9; clear o9 k9 kw9 LD; go_wp2; go_ret
          refine ⟨u9, rfl, ?_, K9.out⟩; have e : setP l key val false = (l.take k ++ [(key, val)]) ++ l.drop k := (by unfold setP; rw [HI.out, HK.out]; simp); rw [e]; exact O9.out
/-- A call with its answer as a value; u tells its Pairs. -/
def clV (c : OpI × ReI) (u : Value) : Value := .agg #[.int .i64 c.1.kind, .int .i64 c.1.key, .int .i64 c.1.hi, .int .i64 c.1.val, .int .i64 c.2.e, .int .i64 c.2.val, u, .int .i64 c.2.over, .int .i64 c.2.reason]
/-- What one is told that reads as a list of Pairs, and is the call's own if v is. -/
def SeenO (w : World) (v : Value) (l0 l : List (Int × Int)) (e : Ending) (w' : World) : Prop := ∃ u, e = .returned u ∧ LPr w' u l ∧ (∀ B, B ≤ w.heap.size → OPr B w v l0 → OPr B w' u l) ∧ Keep (fun _ => False) w w'
def SeenPr (w : World) (l : List (Int × Int)) (e : Ending) (w' : World) : Prop := ∃ u, e = .returned u ∧ LPr w' u l ∧ Keep (fun _ => False) w w'
set_option maxRecDepth 100000 in
set_option maxHeartbeats 2000000 in
theorem laid_any (h : LPr w v l) (hlen : l.length ≤ 50000) (c : OpI × ReI) {A : Option Addr} {q q' : Nat} :
  Calls Try.prog 46 #[v, clV c (.slice A q q')] w (SeenO w v l (laidP l c)) := by
 have HS := fun w1 (k : Keep (fun _ => False) w w1) => set_any (h.keep k) hlen
 obtain ⟨⟨kind, key, hi, val⟩, ⟨e, va, ps, ov, re⟩⟩ := c
 obtain ⟨Av, cv, rfl, _, _⟩ := h.form
 have kw : Keep (fun _ => False) w (w.alloc (.cells #[.int .i64 kind, .int .i64 key, .int .i64 hi, .int .i64 val, .int .i64 e, .int .i64 va, .slice A q q', .int .i64 ov, .int .i64 re] 70)) := (Keep.refl _ _).alloc _
 have H := h.keep kw
 have HH := Lib.hid H
 have KW := Lib.hid kw
 have HS := Lib.hid (HS _ kw)
 clear h H
 unfold clV SeenO
 have sz := Lib.hid kw.size
 have OK := Lib.hid (fun B (h : OPr B w (.slice Av l.length cv) l) => OwnB.keep h kw (fun _ _ => id))
 clear kw
 by_cases he : e = 0
 ·subst he
  by_cases h2 : kind = 2
  ·subst h2
   go_enter Try.func46, Try.ntmps46
   go_wp2_with fail
   refine (HS.out key val false).mono ?_
   rintro e w1 ⟨u, rfl, L1, k1⟩
   go_wp2
   go_ret
   exact ⟨u, rfl, OwnB.lies prI_len L1, fun B hB _ => OwnB.low L1 (Nat.le_trans hB sz.out), KW.out.trans k1⟩
  ·by_cases h3 : kind = 3
   ·subst h3
    go_enter Try.func46, Try.ntmps46
    go_wp2_with fail
    refine (HS.out key val false).mono ?_
    rintro e w1 ⟨u, rfl, L1, k1⟩
    go_wp2
    go_ret
    exact ⟨u, rfl, OwnB.lies prI_len L1, fun B hB _ => OwnB.low L1 (Nat.le_trans hB sz.out), KW.out.trans k1⟩
   ·have e2 : (kind == 2) = false := by simpa using h2
    have e3 : (kind == 3) = false := by simpa using h3
    have el : laidP l (⟨kind, key, hi, val⟩, ⟨0, va, ps, ov, re⟩) = if kind = 4 then setP l key 0 true else l := by
     unfold laidP
     rw [if_neg (by simp), if_neg (by simp only; omega)]
    rw [el]
    by_cases h4 : kind = 4
    ·subst h4
     go_enter Try.func46, Try.ntmps46
     go_wp2_with fail
     refine (HS.out key 0 true).mono ?_
     rintro e w1 ⟨u, rfl, L1, k1⟩
     go_wp2
     go_ret
     exact ⟨u, rfl, OwnB.lies prI_len L1, fun B hB _ => OwnB.low L1 (Nat.le_trans hB sz.out), KW.out.trans k1⟩
    ·have e4 : (kind == 4) = false := by simpa using h4
     rw [if_neg h4]
     go_enter Try.func46, Try.ntmps46
     go_wp2
     go_ret
     exact ⟨_, rfl, HH.out, fun B _ h => OK.out B h, KW.out⟩
 ·have ne : (e != 0) = true := by simpa using he
  have el : laidP l (⟨kind, key, hi, val⟩, ⟨e, va, ps, ov, re⟩) = l := by unfold laidP; rw [if_pos he]
  rw [el]
  go_enter Try.func46, Try.ntmps46
  go_wp2
  go_ret
  exact ⟨_, rfl, HH.out, fun B _ h => OK.out B h, KW.out⟩
def MisK (l : List (Int × Int)) (key : Int) (n : Nat) (w : World) (i : Value) (wr : World) : Prop := ∃ k : Nat, k ≤ n ∧ i = .int .i64 k ∧ w = wr ∧ ∀ j q, j < k → l[j]? = some q → q.1 ≠ key
set_option maxRecDepth 100000 in
theorem rfindP_any (h : LPr w v l) (hlen : l.length ≤ 100000) (key : Int) (r : Option Int) (hr : findP l key = r) :
  Calls Try.prog 42 #[v, .int .i64 key] w fun e w' => e = .returned (.tuple #[.int .i64 (r.getD 0), .bool r.isSome]) ∧ w' = w := by
 obtain ⟨A, c, rfl, hc, hm⟩ := h.form
 obtain ⟨n, hn⟩ : ∃ n, l.length = n := ⟨_, rfl⟩
 have cells := h.cells
 rw [hn] at hc hlen cells h ⊢
 have CE := Lib.hid cells
 have HN := Lib.hid hn
 have HR := Lib.hid hr
 clear h cells hn hr
 go_enter Try.func42, Try.ntmps42
 go_wp2
 go_loopw [6] (MisK l key n w) (fun i _ => n - (intOf i).toNat)
 case atStart => exact ⟨0, Nat.zero_le _, rfl, rfl, fun j q hj => absurd hj (Nat.not_lt_zero _)⟩
 case round =>
  obtain ⟨k, hk, rfl, rfl, hb⟩ := hrel
  by_cases hlt : k < n
  ·obtain ⟨p, hp⟩ : ∃ p, l[k]? = some p := ⟨_, List.getElem?_eq_getElem (by rw [HN.out]; exact hlt)⟩
   obtain ⟨b, off, rfl, hbb, hcc⟩ := CE.out (by omega)
   obtain ⟨c0, c1⟩ := hcc k p hp
   have wk : IntKind.i64.wrap ((k : Int) + 1) = (k : Int) + 1 := IntWalk.i64_in _ (by omega)
   by_cases hpk : p.1 = key
   ·have e := find_hit hp hpk hb
    rw [HR.out] at e
    subst e
    obtain ⟨pk, pv⟩ := p
    dsimp only at hpk c0 c1
    subst hpk
    have dk : (pk == pk) = true := by simp
    clear hp hcc hb
    go_wp2
    refine bodyPost_ret (v := .tuple #[.int .i64 pv, .bool true]) (by simp [results, Try.results42, go_sem]) rfl ?_
    exact ⟨rfl, rfl⟩
   ·have hb' : ∀ j q, j < k + 1 → l[j]? = some q → q.1 ≠ key := fun j q hj hq => by
     by_cases c : j = k
     ·subst c; rw [hp] at hq; cases hq; exact hpk
     ·exact hb j q (by omega) hq
    have HB := Lib.hid hb'
    obtain ⟨pk, pv⟩ := p
    dsimp only at hpk c0 c1
    have dk : (pk == key) = false := by simpa using hpk
    clear hp hcc hb hb' hpk
    go_wp2
    first | exact ⟨⟨k + 1, by omega, by go_num, rfl, HB.out⟩, by simp [intOf]; omega⟩ | (refine ⟨?rel2, ?meas2⟩; (case meas2 => (simp [intOf]; omega)); (case rel2 => ((repeat apply Exists.intro); exact ⟨⟨k + 1, by omega, by go_num, rfl, HB.out⟩, rfl⟩)))
  ·obtain rfl : k = n := by omega
   have e := find_miss (l := l) (key := key) fun i q hq => hb i q (by have := (List.getElem?_eq_some_iff.1 hq).1; rw [HN.out] at this; exact this) hq
   rw [HR.out] at e
   subst e
   clear hb
   go_wp2
   refine bodyPost_ret (v := .tuple #[.int .i64 0, .bool false]) (by simp [results, Try.results42, go_sem]) rfl ?_
   exact ⟨rfl, rfl⟩
end
end Go.Proofs.Ytalkfnblnlcklaa
/- Deals in memory, to be read: calls with their answers, transactions as they are told. No condition. -/
namespace Go.Proofs.Ytalkfnblnlcklaa
open Go.ChangeShapes Go.WideShapes Go.ChangeAt Go.RowKit
set_option linter.unusedVariables false
set_option linter.unusedSimpArgs false
def callF (z : (OpI × ReI) × Value) : List Value := [.int .i64 z.1.1.kind, .int .i64 z.1.1.key, .int .i64 z.1.1.hi, .int .i64 z.1.1.val, .int .i64 z.1.2.e, .int .i64 z.1.2.val, z.2, .int .i64 z.1.2.over, .int .i64 z.1.2.reason]
def dealF (z : DlI × Value) : List Value := [.int .i64 z.1.id, .int .i64 z.1.level, .int .i64 z.1.state, .int .u64 z.1.start, .int .u64 z.1.stop, z.2]
theorem callF_len (z : (OpI × ReI) × Value) : (callF z).length = 9 := rfl
theorem dealF_len (z : DlI × Value) : (dealF z).length = 6 := rfl
/-- The slice value v reads as these calls. -/
def CallsIn (w : World) (v : Value) (cs : List (OpI × ReI)) : Prop := ∃ zs : List ((OpI × ReI) × Value), zs.map Prod.fst = cs ∧ Lies 9 callF w v zs ∧ ∀ z ∈ zs, LPr w z.2 z.1.2.pairs
/-- The slice value v reads as these transactions. -/
def DealsIn (w : World) (v : Value) (ds : List DlI) : Prop := ∃ zs : List (DlI × Value), zs.map Prod.fst = ds ∧ Lies 6 dealF w v zs ∧ ∀ z ∈ zs, CallsIn w z.2 z.1.ops
/-- Not too many. -/
structure DlB (ds : List DlI) : Prop where
 n : ds.length ≤ 20000
 o : (ds.map fun d => d.ops.length).sum ≤ 24000
 p : ∀ d ∈ ds, ∀ c ∈ d.ops, c.2.pairs.length ≤ 50000
section
variable {w w' : World} {v : Value} {cs : List (OpI × ReI)} {ds : List DlI}
theorem CallsIn.keep (h : CallsIn w v cs) (k : Keep (fun _ => False) w w') : CallsIn w' v cs := by
 obtain ⟨zs, e, l, q⟩ := h
 exact ⟨zs, e, l.keep k, fun z hz => (q z hz).keep k⟩
theorem DealsIn.keep (h : DealsIn w v ds) (k : Keep (fun _ => False) w w') : DealsIn w' v ds := by
 obtain ⟨zs, e, l, q⟩ := h
 exact ⟨zs, e, l.keep k, fun z hz => (q z hz).keep k⟩
theorem CallsIn.form (h : CallsIn w v cs) : ∃ A c, v = .slice A cs.length c ∧ cs.length ≤ c ∧ c ≤ maxLen ∧ (0 < cs.length → ∃ b off, A = some ⟨b, off, none⟩ ∧ ∀ (j : Nat) (x : OpI × ReI), cs[j]? = some x → ∃ A2 c2, LPr w (.slice A2 x.2.pairs.length c2) x.2.pairs ∧
  w.cell? ⟨b, off + j * 9, none⟩ = some (.int .i64 x.1.kind) ∧ w.cell? ⟨b, off + j * 9 + 1, none⟩ = some (.int .i64 x.1.key) ∧ w.cell? ⟨b, off + j * 9 + 2, none⟩ = some (.int .i64 x.1.hi) ∧ w.cell? ⟨b, off + j * 9 + 3, none⟩ = some (.int .i64 x.1.val) ∧
  w.cell? ⟨b, off + j * 9 + 4, none⟩ = some (.int .i64 x.2.e) ∧ w.cell? ⟨b, off + j * 9 + 5, none⟩ = some (.int .i64 x.2.val) ∧ w.cell? ⟨b, off + j * 9 + 6, none⟩ = some (.slice A2 x.2.pairs.length c2) ∧ w.cell? ⟨b, off + j * 9 + 7, none⟩ = some (.int .i64 x.2.over) ∧ w.cell? ⟨b, off + j * 9 + 8, none⟩ = some (.int .i64 x.2.reason)) := by
 obtain ⟨zs, rfl, ⟨A, c, rfl, h1, h2, h3, h4⟩, q⟩ := h
 rw [List.length_map]
 refine ⟨A, c, rfl, h1, h2, fun h0 => ?_⟩
 obtain ⟨b, off, rfl, hb, hc⟩ := h4 h0
 refine ⟨b, off, rfl, fun j x hx => ?_⟩
 rw [List.getElem?_map, Option.map_eq_some_iff] at hx
 obtain ⟨z, hz, rfl⟩ := hx
 have L := q z (List.mem_of_getElem? hz)
 obtain ⟨A2, c2, e, _⟩ := L.form
 have g := hc j z hz
 rw [e] at L
 refine ⟨A2, c2, L, g 0 _ rfl, g 1 _ rfl, g 2 _ rfl, g 3 _ rfl, g 4 _ rfl, g 5 _ rfl, ?_, g 7 _ rfl, g 8 _ rfl⟩
 rw [← e]; exact g 6 _ rfl
theorem DealsIn.form (h : DealsIn w v ds) : ∃ A c, v = .slice A ds.length c ∧ ds.length ≤ c ∧ c ≤ maxLen ∧ (0 < ds.length → ∃ b off, A = some ⟨b, off, none⟩ ∧ ∀ (j : Nat) (x : DlI), ds[j]? = some x → ∃ A2 c2, CallsIn w (.slice A2 x.ops.length c2) x.ops ∧
  w.cell? ⟨b, off + j * 6, none⟩ = some (.int .i64 x.id) ∧ w.cell? ⟨b, off + j * 6 + 1, none⟩ = some (.int .i64 x.level) ∧ w.cell? ⟨b, off + j * 6 + 2, none⟩ = some (.int .i64 x.state) ∧ w.cell? ⟨b, off + j * 6 + 3, none⟩ = some (.int .u64 x.start) ∧
  w.cell? ⟨b, off + j * 6 + 4, none⟩ = some (.int .u64 x.stop) ∧ w.cell? ⟨b, off + j * 6 + 5, none⟩ = some (.slice A2 x.ops.length c2)) := by
 obtain ⟨zs, rfl, ⟨A, c, rfl, h1, h2, h3, h4⟩, q⟩ := h
 rw [List.length_map]
 refine ⟨A, c, rfl, h1, h2, fun h0 => ?_⟩
 obtain ⟨b, off, rfl, hb, hc⟩ := h4 h0
 refine ⟨b, off, rfl, fun j x hx => ?_⟩
 rw [List.getElem?_map, Option.map_eq_some_iff] at hx
 obtain ⟨z, hz, rfl⟩ := hx
 have L := q z (List.mem_of_getElem? hz)
 obtain ⟨A2, c2, e, _⟩ := L.form
 have g := hc j z hz
 rw [e] at L
 refine ⟨A2, c2, L, g 0 _ rfl, g 1 _ rfl, g 2 _ rfl, g 3 _ rfl, g 4 _ rfl, ?_⟩
 rw [← e]; exact g 5 _ rfl
/-- How many Pairs there can be. -/
theorem fold_len (cs : List (OpI × ReI)) (l : List (Int × Int)) : (cs.foldl laidP l).length ≤ l.length + cs.length := by
  induction cs generalizing l with
  | nil => exact Nat.le_refl _
  | cons c cs ih =>
    rw [List.foldl_cons, List.length_cons]
    have := ih (laidP l c)
    have := laidP_len l c
    omega
end
end Go.Proofs.Ytalkfnblnlcklaa
