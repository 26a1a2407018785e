/- A Model of whole calls in plain lists, for ModelSlots: one key updated again and again by transactions one behind the other. No dump; no condition. -/
import Derived.Test.YtkkjofefjepodaaMoT
namespace Go.Proofs.Ytkkjofefjepodaa
set_option linter.unusedVariables false
set_option linter.unusedSimpArgs false
def oldS (i : Nat) : List VrI := (List.range i).map fun j : Nat => ⟨1, j, 0, 0, 2 * j + 2, 2 * j + 4, false⟩
def lastS (i : Nat) : VrI := ⟨1, i, 0, 0, 2 * i + 2, 0, false⟩
def vsS (i : Nat) : List VrI := match i with | 0 => [] | j + 1 => oldS j ++ [lastS j]
def stS (n : Int) (i : Nat) : MoI := ⟨n, 1000, vsS i, fun _ => tx0, 2 * i, i⟩
theorem old_succ (j : Nat) : oldS (j + 1) = oldS j ++ [⟨1, j, 0, 0, 2 * j + 2, 2 * j + 4, false⟩] := by
  unfold oldS
  rw [List.range_succ, List.map_append]
  rfl
theorem old_len (j : Nat) : (oldS j).length = j := by unfold oldS; rw [List.length_map, List.length_range]
theorem vs_len (i : Nat) : (vsS i).length = i := by
  cases i with
  | zero => rfl
  | succ j => show (oldS j ++ [lastS j]).length = j + 1; rw [List.length_append, old_len]; rfl
theorem old_mem {j : Nat} {y : VrI} (h : y ∈ oldS j) : ∃ a : Nat, a < j ∧ y = ⟨1, a, 0, 0, 2 * a + 2, 2 * a + 4, false⟩ := by
  obtain ⟨a, ha, e⟩ := List.mem_map.1 h
  exact ⟨a, List.mem_range.1 ha, e.symm⟩
theorem vs_mem {i : Nat} {y : VrI} (h : y ∈ vsS i) : y.key = 1 ∧ y.bY = 0 ∧ y.ended = 0 ∧ y.dead = false ∧ 2 ≤ y.start ∧ y.start ≤ 2 * i ∧ 0 ≤ y.stop ∧ y.stop ≤ 2 * i := by
  cases i with
  | zero => cases h
  | succ j =>
    rcases List.mem_append.1 h with q | q
    · obtain ⟨a, ha, rfl⟩ := old_mem q
      exact ⟨rfl, rfl, rfl, rfl, by show (2 : Int) ≤ 2 * a + 2; omega, by show 2 * (a : Int) + 2 ≤ 2 * ((j + 1 : Nat) : Int); omega, by show (0 : Int) ≤ 2 * a + 4; omega, by show 2 * (a : Int) + 4 ≤ 2 * ((j + 1 : Nat) : Int); omega⟩
    · rw [List.mem_singleton] at q
      subst q
      exact ⟨rfl, rfl, rfl, rfl, by show (2 : Int) ≤ 2 * j + 2; omega, by show 2 * (j : Int) + 2 ≤ 2 * ((j + 1 : Nat) : Int); omega, Int.le_refl _, by show (0 : Int) ≤ 2 * ((j + 1 : Nat) : Int); omega⟩
/-- A transaction that has just begun, and one operation counted. -/
def begS (n : Int) (i : Nat) : MoI := ⟨n, 1000, vsS i, putS (fun _ => tx0) 0 ⟨i + 1, 1, 0, 2 * i + 1, [], []⟩, 2 * i + 1, i + 1⟩
def cntS (n : Int) (i : Nat) : MoI := ⟨n, 1000, vsS i, putS (fun _ => tx0) 0 ⟨i + 1, 1, 1, 2 * i + 1, [], []⟩, 2 * i + 1, i + 1⟩
theorem beg_st (n : Int) (i : Nat) (h : i ≤ 40) : (stS n i).begE 0 1 = 0 ∧ (stS n i).begN 0 1 = i + 1 ∧ (stS n i).beg 0 1 = begS n i :=
  beg_in (x := stS n i) (k := 0) (by decide) rfl 1 (by decide) (by show (i : Int) < 2000; omega) (by show 2 * (i : Int) < 1000; omega)
theorem count_st (n : Int) (i : Nat) : (begS n i).count 0 = cntS n i := by
  unfold MoI.count begS cntS
  simp only [putS_self, putS_put]
  rfl
section
variable {n : Int} {i : Nat} {o : OpI}
theorem cnt_s : (cntS n i).s 0 = ⟨i + 1, 1, 1, 2 * i + 1, [], []⟩ := by rfl
theorem doE_st (ho : okI o = true) : (begS n i).doE 0 o = 0 := by
  have e : (begS n i).s 0 = ⟨i + 1, 1, 0, 2 * i + 1, [], []⟩ := by rfl
  unfold MoI.doE
  rw [if_neg (by decide)]
  show (if ((begS n i).s 0).id = 0 ∨ okI o = false then (9 : Int) else _) = 0
  rw [e, if_neg (by rw [ho]; simp; omega)]
  split
  · rfl
  · exact if_neg (by show ¬ (12 : Int) ≤ 0; decide)
theorem run_st (hk : o.kind = 2 ∨ o.kind = 3) (ho : okI o = true) : (begS n i).doR 0 o = ((cntS n i).write 0 o).1 ∧ (begS n i).doM 0 o = ((cntS n i).write 0 o).2 := by
  have r : (begS n i).run 0 o = (cntS n i).write 0 o := by unfold MoI.run; rw [if_neg (by omega), if_neg (by omega), if_neg (by omega), if_neg (by omega), count_st]
  have e := doE_st (n := n) (i := i) ho
  exact ⟨by unfold MoI.doR; rw [if_pos e]; exact congrArg Prod.fst r, by unfold MoI.doM; rw [if_pos e]; exact congrArg Prod.snd r⟩
theorem cnt_mine (k : Int) : (vsS i).findIdx? (mineV (i + 1) k) = none := List.findIdx?_eq_none_iff.2 fun y hy => by
  have := vs_mem hy
  cases q : mineV (i + 1) k y with
  | false => rfl
  | true => have := (mine_iff.1 q).2.2.2; omega
theorem cnt_own (k : Int) : (vsS i).findIdx? (ownV (i + 1) k) = none := List.findIdx?_eq_none_iff.2 fun y hy => by
  have := vs_mem hy
  cases q : ownV (i + 1) k y with
  | false => rfl
  | true => have := (own_iff.1 q).2.1; omega
theorem cnt_taken (k : Int) : (cntS n i).taken (i + 1) (2 * i + 1) k = false := by
  unfold MoI.taken
  rw [Bool.or_eq_false_iff]
  refine ⟨List.any_eq_false.2 fun a ha => ?_, List.any_eq_false.2 fun y hy => ?_⟩
  · have q : ((cntS n i).s a).wrote = [] := by
      show (putS (fun _ => tx0) 0 (⟨i + 1, 1, 1, 2 * i + 1, [], []⟩ : TxI) a).wrote = []
      by_cases c : a = 0
      · rw [c, putS_self]
      · rw [putS_ne _ _ c]; rfl
    simp [q]
  · have := vs_mem hy
    intro c
    have := (later_iff.1 c).2.2
    omega
theorem sees_st (j : Nat) : seesI (vsS (j + 1)) ((j + 1 : Nat) + 1) (2 * (j + 1 : Nat) + 1) 1 = some j := by
  unfold seesI
  rw [cnt_mine]
  show (oldS j ++ [lastS j]).findIdx? _ = some j
  have h1 : (oldS j).findIdx? (elderV ((j + 1 : Nat) + 1) 1 (2 * (j + 1 : Nat) + 1)) = none := List.findIdx?_eq_none_iff.2 fun y hy => by
    obtain ⟨a, ha, rfl⟩ := old_mem hy
    cases q : elderV ((j + 1 : Nat) + 1) 1 (2 * (j + 1 : Nat) + 1) (⟨1, a, 0, 0, 2 * a + 2, 2 * a + 4, false⟩ : VrI) with
    | false => rfl
    | true =>
      have := (elder_iff.1 q).2.2.2.2.2
      simp only at this
      omega
  have h2 : elderV ((j + 1 : Nat) + 1) 1 (2 * (j + 1 : Nat) + 1) (lastS j) = true := elder_iff.2 ⟨rfl, rfl, by show (0 : Int) ≠ _; omega, rfl, by show 2 * (j : Int) + 2 ≤ _; omega, .inr (.inl rfl)⟩
  rw [List.findIdx?_append, h1, List.findIdx?_cons, h2, old_len]
  simp
theorem sees_no (k : Int) (h : k ≠ 1 ∨ i = 0) : seesI (vsS i) (i + 1) (2 * i + 1) k = none := by
  unfold seesI
  rw [cnt_mine]
  refine List.findIdx?_eq_none_iff.2 fun y hy => ?_
  have q := vs_mem hy
  cases c : elderV (i + 1) k (2 * i + 1) y with
  | false => rfl
  | true =>
    exfalso
    have e := (elder_iff.1 c).1
    rcases h with h | h
    · exact h (by omega)
    · subst h; cases hy
/-- A round's state behind its write. -/
def midS (i : Nat) : List VrI := match i with | 0 => [] | j + 1 => oldS j ++ [{ lastS j with ended := ((j + 1 : Nat) : Int) + 1 }]
def wroS (n : Int) (i : Nat) : MoI := ⟨n, 1000, midS i ++ [newV 1 i (i + 1)], putS (fun _ => tx0) 0 ⟨i + 1, 1, 1, 2 * i + 1, [1], []⟩, 2 * i + 1, i + 1⟩
theorem modify_last (l : List VrI) (a : VrI) (f : VrI → VrI) : (l ++ [a]).modify l.length f = l ++ [f a] := by
  apply List.ext_getElem?
  intro j
  rw [List.getElem?_modify]
  by_cases c : l.length = j
  · subst c; simp
  · by_cases c2 : j < l.length
    · rw [List.getElem?_append_left c2, List.getElem?_append_left c2]; simp [c]
    · rw [List.getElem?_eq_none (by simp; omega), List.getElem?_eq_none (by simp; omega)]; rfl
theorem keep_st (v : List VrI) : ({ (cntS n i).keepW 0 1 with v := v } : MoI) = ⟨n, 1000, v, putS (fun _ => tx0) 0 ⟨i + 1, 1, 1, 2 * i + 1, [1], []⟩, 2 * i + 1, i + 1⟩ := by
  unfold MoI.keepW cntS
  simp only [putS_self, putS_put]
  rfl
theorem ins_st (hn : 1 ≤ n) : (cntS n 0).write 0 ⟨2, 1, 0, 0⟩ = (re0, wroS n 0) := by
  have e : (cntS n 0).s 0 = ⟨0 + 1, 1, 1, 2 * 0 + 1, [], []⟩ := cnt_s
  rw [wr_ok 0 ⟨2, 1, 0, 0⟩ (by rw [e]; simp; exact sees_no (i := 0) 1 (.inr rfl)) (.inr (by rw [e]; exact cnt_taken (i := 0) 1)) (fun c => by have := c.2.2; have q : n ≤ 0 := this; omega)]
  rw [e, if_neg (by simp), keep_st]
  have e1 : seesI (cntS n 0).v (0 + 1) (2 * 0 + 1) (⟨2, 1, 0, 0⟩ : OpI).key = none := sees_no (i := 0) 1 (.inr rfl)
  have e2 : (cntS n 0).v.findIdx? (ownV (0 + 1) (⟨2, 1, 0, 0⟩ : OpI).key) = none := cnt_own (i := 0) 1
  simp only at e1 e2 ⊢
  rw [e1, e2]
  rfl
theorem upd_st (j : Nat) (hj : j + 1 ≤ 40) (hn : (j : Int) + 1 < n) : (cntS n (j + 1)).write 0 ⟨3, 1, 0, (j + 1 : Nat)⟩ = (re0, wroS n (j + 1)) := by
  have e : (cntS n (j + 1)).s 0 = ⟨(j + 1 : Nat) + 1, 1, 1, 2 * (j + 1 : Nat) + 1, [], []⟩ := cnt_s
  have e1 : seesI (cntS n (j + 1)).v ((j + 1 : Nat) + 1) (2 * (j + 1 : Nat) + 1) 1 = some j := sees_st j
  have e2 : (cntS n (j + 1)).v.findIdx? (ownV ((j + 1 : Nat) + 1) 1) = none := cnt_own (i := j + 1) 1
  have e3 : ((cntS n (j + 1)).v.length : Int) = j + 1 := by show ((vsS (j + 1)).length : Int) = _; rw [vs_len]; omega
  rw [wr_ok 0 ⟨3, 1, 0, (j + 1 : Nat)⟩ (by rw [e]; simp only; rw [e1]; simp) (.inr (by rw [e]; exact cnt_taken (i := j + 1) 1)) (fun c => by have := c.2.2; have q : n ≤ ((cntS n (j + 1)).v.length : Int) := this; omega)]
  rw [e, if_neg (by simp), keep_st]
  simp only
  rw [e1, e2, wroteV_end, if_neg (show ¬ (3 : Int) = 4 by decide)]
  have e4 : setV (cntS n (j + 1)).v j (fun y => { y with ended := ((j + 1 : Nat) : Int) + 1 }) = oldS j ++ [{ lastS j with ended := ((j + 1 : Nat) : Int) + 1 }] := by
    have := modify_last (oldS j) (lastS j) (fun y => { y with ended := ((j + 1 : Nat) : Int) + 1 })
    rw [old_len] at this
    exact this
  rw [e4]
  rfl
theorem old_done (j : Nat) (a t : Int) (ha : a ≠ 0) : (oldS j).map (doneV a t) = oldS j := by
  have : ∀ y ∈ oldS j, doneV a t y = y := fun y hy => by
    obtain ⟨b, _, rfl⟩ := old_mem hy
    unfold doneV
    simp only
    rw [if_neg (fun c => ha c.symm), if_neg (fun c => ha c.symm), if_neg (fun c => ha c.symm)]
  rw [List.map_congr_left this, List.map_id']
theorem com_st (h : i ≤ 40) : (wroS n i).doE 0 ⟨6, 0, 0, 0⟩ = 0 ∧ (wroS n i).doR 0 ⟨6, 0, 0, 0⟩ = ⟨0, 0, [], 3, 0⟩ ∧ (wroS n i).doM 0 ⟨6, 0, 0, 0⟩ = stS n (i + 1) := by
  have e : (wroS n i).s 0 = ⟨i + 1, 1, 1, 2 * i + 1, [1], []⟩ := by rfl
  obtain ⟨d1, d2, d3⟩ := do_commit (x := wroS n i) (k := 0) (by decide) (by rw [e]; show (i : Int) + 1 ≠ 0; omega)
  have c : (wroS n i).commit 0 = (⟨0, 0, [], 3, 0⟩, stS n (i + 1)) := by
    unfold MoI.commit
    rw [if_neg (by show ¬ (1000 : Int) ≤ 2 * i + 1; omega)]
    simp only
    rw [if_neg (fun c => c.1 (by rw [e])), e]
    refine congrArg _ (MoI.ext rfl rfl ?_ ?_ ?_ ?_)
    · show (midS i ++ [newV 1 i (i + 1)]).map (doneV (i + 1) (2 * i + 1 + 1)) = oldS i ++ [lastS i]
      have nw : doneV ((i : Int) + 1) (2 * i + 1 + 1) (newV 1 i (i + 1)) = lastS i := by
        unfold doneV newV lastS
        simp only
        have c1 : ¬ (0 : Int) = i + 1 := by omega
        simp [c1]
        omega
      rw [List.map_append, List.map_cons, nw, List.map_nil]
      cases i with
      | zero => rfl
      | succ j =>
        show (oldS j ++ [{ lastS j with ended := ((j + 1 : Nat) : Int) + 1 }]).map _ ++ _ = _
        rw [List.map_append, old_done j _ _ (by omega), old_succ]
        congr 2
        show [doneV _ _ _] = _
        unfold doneV lastS
        simp only
        have c1 : ¬ (0 : Int) = ((j + 1 : Nat) : Int) + 1 := by omega
        simp only [if_neg c1, if_true]
        congr 2
    · show putS (putS (fun _ => tx0) 0 _) 0 tx0 = fun _ => tx0
      rw [putS_put]
      funext a
      unfold putS
      split <;> rfl
    · show 2 * (i : Int) + 1 + 1 = 2 * ((i + 1 : Nat) : Int); omega
    · show (i : Int) + 1 = ((i + 1 : Nat) : Int); omega
  rw [c] at d2 d3
  exact ⟨d1, d2, d3⟩
/-- The last write finds no room. -/
def endS (n : Int) (i : Nat) : MoI := ⟨n, 1000, vsS i, fun _ => tx0, 2 * i + 1, i + 1⟩
theorem full_st (hn : n = i) : (cntS n i).write 0 ⟨2, 2, 0, 1⟩ = (MoI.bad 5, endS n i) := by
  have e : (cntS n i).s 0 = ⟨i + 1, 1, 1, 2 * i + 1, [], []⟩ := cnt_s
  have e1 : seesI (cntS n i).v (i + 1) (2 * i + 1) 2 = none := sees_no 2 (.inl (by decide))
  have e2 : (cntS n i).v.findIdx? (ownV (i + 1) 2) = none := cnt_own 2
  rw [wr_full 0 ⟨2, 2, 0, 1⟩ (by rw [e]; simp only; rw [e1]; simp) (.inr (by rw [e]; exact cnt_taken 2)) (show ¬ (2 : Int) = 4 by decide) (by rw [e]; exact e2) (by show n ≤ ((vsS i).length : Int); rw [vs_len]; omega)]
  refine congrArg _ (MoI.ext rfl rfl ?_ ?_ rfl rfl)
  · show (vsS i).map (goneV ((cntS n i).s 0).id) = vsS i
    rw [e]
    have : ∀ y ∈ vsS i, goneV ((i : Int) + 1) y = y := fun y hy => by
      have q := vs_mem hy
      obtain ⟨k, v, b, en, st, sp, d⟩ := y
      simp only at q
      have c1 : ¬ b = (i : Int) + 1 := by omega
      have c2 : ¬ en = (i : Int) + 1 := by omega
      unfold goneV
      simp only [if_neg c1, if_neg c2]
    show (vsS i).map (goneV ((i : Int) + 1)) = vsS i
    rw [List.map_congr_left this, List.map_id']
  · show putS (putS (fun _ => tx0) 0 _) 0 tx0 = fun _ => tx0
    rw [putS_put]
    funext a
    unfold putS
    split <;> rfl
theorem keep_old (j : Nat) : (oldS j).filter (MoI.keepV (2 * ((j + 1 : Nat) : Int) + 1)) = [] := by
  refine List.filter_eq_nil_iff.2 fun y hy => ?_
  obtain ⟨a, ha, rfl⟩ := old_mem hy
  unfold MoI.keepV
  have : decide ((2 * (a : Int) + 4 ≠ 0) ∧ 2 * (a : Int) + 4 ≤ 2 * ((j + 1 : Nat) : Int) + 1) = true := decide_eq_true (by omega)
  simp only [this]
  decide
def colS (n : Int) (j : Nat) : MoI := ⟨n, 1000, [lastS j], fun _ => tx0, 2 * ((j + 1 : Nat) : Int) + 1, ((j + 1 : Nat) : Int) + 1⟩
theorem keep_vs (j : Nat) : (vsS (j + 1)).filter (MoI.keepV (2 * ((j + 1 : Nat) : Int) + 1)) = [lastS j] := by
  show (oldS j ++ [lastS j]).filter _ = _
  rw [List.filter_append, keep_old]
  rfl
theorem col_st (j : Nat) : (endS n (j + 1)).collected = j ∧ (endS n (j + 1)).collect = colS n j ∧ (endS n (j + 1)).live = [] ∧ ((endS n (j + 1)).v.length : Int) = j + 1 := by
  have lw : (endS n (j + 1)).low = 2 * ((j + 1 : Nat) : Int) + 1 := rfl
  refine ⟨?_, ?_, rfl, ?_⟩
  · unfold MoI.collected
    rw [lw]
    show ((vsS (j + 1)).length : Int) - (((vsS (j + 1)).filter _).length : Int) = j
    rw [keep_vs, vs_len]
    show ((j + 1 : Nat) : Int) - 1 = j
    omega
  · unfold MoI.collect
    rw [lw]
    exact MoI.ext rfl rfl (keep_vs j) rfl rfl rfl
  · show ((vsS (j + 1)).length : Int) = _
    rw [vs_len]
    omega
theorem pairs_st (j : Nat) : (colS n j).pairs (2 * ((j + 1 : Nat) : Int) + 1) = [(1, (j : Int))] := by
  have q : ∀ k : Int, thereV k (2 * ((j + 1 : Nat) : Int) + 1) (lastS j) = decide (1 = k) := fun k => by
    rw [Bool.eq_iff_iff, there_iff, decide_eq_true_iff]
    unfold lastS
    simp only
    constructor
    · exact fun h => h.1
    · exact fun h => ⟨h, trivial, trivial, by omega, .inl trivial⟩
  have r : ∀ k : Int, MoI.pairsOf [lastS j] (2 * ((j + 1 : Nat) : Int) + 1) k = if 1 = k then [(k, (j : Int))] else [] := fun k => by
    unfold MoI.pairsOf
    rw [List.filter_cons, q k]
    by_cases c : 1 = k
    · simp [c, lastS]
    · simp [c]
  unfold MoI.pairs
  show (keysI 0 64).flatMap (MoI.pairsOf [lastS j] _) = _
  rw [show MoI.pairsOf [lastS j] (2 * ((j + 1 : Nat) : Int) + 1) = fun k => if 1 = k then [(k, (j : Int))] else [] from funext r]
  rfl
/-- A round, whole. -/
theorem round_st (h : i ≤ 40) (hn : (i : Int) < n) : ∃ y1 y2 y3 : MoI, (stS n i).begE 0 1 = 0 ∧ (stS n i).begN 0 1 = i + 1 ∧ (stS n i).beg 0 1 = y1 ∧ y1.doE 0 ⟨if i = 0 then 2 else 3, 1, 0, i⟩ = 0 ∧ y1.doR 0 ⟨if i = 0 then 2 else 3, 1, 0, i⟩ = ⟨0, 0, [], 0, 0⟩ ∧ y1.doM 0 ⟨if i = 0 then 2 else 3, 1, 0, i⟩ = y2 ∧ y2.doE 0 ⟨6, 0, 0, 0⟩ = 0 ∧ y2.doR 0 ⟨6, 0, 0, 0⟩ = ⟨0, 0, [], 3, 0⟩ ∧ y2.doM 0 ⟨6, 0, 0, 0⟩ = y3 ∧ y3 = stS n (i + 1) ∧ (y3.v.length : Int) = i + 1 := by
  obtain ⟨b1, b2, b3⟩ := beg_st n i h
  obtain ⟨c1, c2, c3⟩ := com_st (n := n) h
  have hv : (0 : Int) ≤ i ∧ (i : Int) ≤ 65535 := by omega
  have l3 : (((stS n (i + 1)).v.length : Nat) : Int) = i + 1 := by show ((vsS (i + 1)).length : Int) = _; rw [vs_len]; omega
  cases i with
  | zero =>
    have ok : okI ⟨2, 1, 0, 0⟩ = true := rfl
    obtain ⟨r1, r2⟩ := run_st (n := n) (i := 0) (o := ⟨2, 1, 0, 0⟩) (.inl rfl) ok
    rw [ins_st (by omega)] at r1 r2
    exact ⟨_, _, _, b1, b2, b3, doE_st ok, r1, r2, c1, c2, c3, rfl, l3⟩
  | succ j =>
    have ok : okI ⟨3, 1, 0, (j + 1 : Nat)⟩ = true := okv (.inr rfl) (by decide) hv
    obtain ⟨r1, r2⟩ := run_st (n := n) (i := j + 1) (o := ⟨3, 1, 0, (j + 1 : Nat)⟩) (.inr rfl) ok
    rw [upd_st j h (by omega)] at r1 r2
    exact ⟨_, _, _, b1, b2, b3, doE_st ok, r1, r2, c1, c2, c3, rfl, l3⟩
/-- The end, whole. -/
theorem end_st (j : Nat) (h : j + 1 ≤ 40) (hn : n = ((j + 1 : Nat) : Int)) : ∃ y1 y2 y3 : MoI, (stS n (j + 1)).begE 0 1 = 0 ∧ (stS n (j + 1)).begN 0 1 = ((j + 1 : Nat) : Int) + 1 ∧ (stS n (j + 1)).beg 0 1 = y1 ∧ y1.doE 0 ⟨2, 2, 0, 1⟩ = 0 ∧ y1.doR 0 ⟨2, 2, 0, 1⟩ = ⟨14, 0, [], 4, 5⟩ ∧ y1.doM 0 ⟨2, 2, 0, 1⟩ = y2 ∧ y2.live = [] ∧ (y2.v.length : Int) = j + 1 ∧ y2.collected = j ∧ y2.collect = y3 ∧ (y3.v.length : Int) = 1 ∧ y3.time = 2 * ((j + 1 : Nat) : Int) + 1 ∧ y3.pairs (2 * ((j + 1 : Nat) : Int) + 1) = [(1, (j : Int))] := by
  obtain ⟨b1, b2, b3⟩ := beg_st n (j + 1) h
  obtain ⟨k1, k2, k3, k4⟩ := col_st (n := n) j
  have ok : okI ⟨2, 2, 0, 1⟩ = true := rfl
  obtain ⟨r1, r2⟩ := run_st (n := n) (i := j + 1) (o := ⟨2, 2, 0, 1⟩) (.inl rfl) ok
  rw [full_st hn] at r1 r2
  exact ⟨_, _, _, b1, b2, b3, doE_st ok, r1, r2, k3, k4, k1, k2, rfl, rfl, pairs_st j⟩
end
end Go.Proofs.Ytkkjofefjepodaa
