/- Package tale: Deals. Condition: events whose numbers are numbers, with at most 50,000 Pairs each. -/
import Derived.Test.YtalkfnblnlcklaaDoorTlD
import Derived.Deep.RegionHeld3
namespace Go.Proofs.YtalkfnblnlcklaaDoor
open Go.ChangeShapes Go.WideShapes Go.ChangeAt Go.RowKit
set_option linter.unusedVariables false
set_option linter.unusedSimpArgs false
section
variable {z z' : HsI} {es : List EvI} {x : EvI} {k j : Nat}
def dl0 (z : HsI) (i : Nat) : DlI := ⟨(i : Int) + 1, (z.at' i).level, (z.at' i).state, (z.at' i).start, (z.at' i).stop, []⟩
/-- The transactions, without their calls. -/
def row0 (z : HsI) (k : Nat) : List (DlI × Value) := (List.range k).map fun i => (dl0 z i, .slice none 0 0)
theorem row0_len : (row0 z k).length = k := by unfold row0; simp
theorem row0_succ : row0 z (k + 1) = row0 z k ++ [(dl0 z k, .slice none 0 0)] := by unfold row0; rw [List.range_succ, List.map_append]; rfl
theorem row0_fst : (row0 z z.tx.length).map Prod.fst = dealsOf z (es.take 0) := by
  unfold row0 dealsOf
  rw [List.map_map]
  refine List.map_congr_left fun i _ => ?_
  rfl
theorem opsOf_more (hx : es[k]? = some x) (t : Int) : opsOf (es.take (k + 1)) t = opsOf (es.take k) t ++ if x.kind = 2 ∧ x.t = t then [(x.o, x.r)] else [] := by
  have : es.take (k + 1) = es.take k ++ [x] := by rw [List.take_add_one, hx]; rfl
  unfold opsOf
  rw [this, List.filter_append, List.map_append]
  congr 1
  by_cases c : x.kind = 2 ∧ x.t = t
  · rw [if_pos c, List.filter_cons, if_pos (decide_eq_true c)]; rfl
  · rw [if_neg c, List.filter_cons, if_neg (by simpa using c)]; rfl
theorem opsOf_len (l : List EvI) (t : Int) : (opsOf l t).length ≤ l.length := by
  unfold opsOf
  rw [List.length_map]
  exact List.length_filter_le _ _
theorem deals_other (hx : es[k]? = some x) (h2 : x.kind ≠ 2) : dealsOf z (es.take (k + 1)) = dealsOf z (es.take k) := by
  unfold dealsOf
  refine List.map_congr_left fun i _ => ?_
  rw [opsOf_more hx, if_neg (fun c => h2 c.1), List.append_nil]
theorem deals_len (l : List EvI) : (dealsOf z l).length = z.tx.length := by unfold dealsOf; simp
theorem deals_step (hx : es[k]? = some x) (h2 : x.kind = 2) (hj : x.t = (j : Int) + 1) {zs : List (DlI × Value)} (hz : zs.map Prod.fst = dealsOf z (es.take k)) {d : DlI} {v v' : Value} (hd : zs[j]? = some (d, v)) :
    (zs.set j ({ d with ops := d.ops ++ [(x.o, x.r)] }, v')).map Prod.fst = dealsOf z (es.take (k + 1)) := by
  have e1 : (zs.map Prod.fst)[j]? = some d := by rw [List.getElem?_map, hd]; rfl
  rw [hz] at e1
  rw [List.map_set, hz]
  refine List.ext_getElem? fun i => ?_
  rw [List.getElem?_set]
  by_cases e : j = i
  · subst e
    obtain ⟨hl, _⟩ := List.getElem?_eq_some_iff.1 e1
    rw [if_pos rfl, if_pos hl]
    unfold dealsOf at e1 ⊢
    rw [List.getElem?_map, Option.map_eq_some_iff] at e1
    rw [List.getElem?_map]
    obtain ⟨i, hi, e1⟩ := e1
    rw [hi, Option.map_some, ← e1]
    obtain ⟨hi2, hi3⟩ := List.getElem?_eq_some_iff.1 hi
    rw [List.getElem_range] at hi3
    subst hi3
    rw [opsOf_more hx, if_pos ⟨h2, hj⟩]
  · rw [if_neg e]
    unfold dealsOf
    rw [List.getElem?_map, List.getElem?_map]
    cases hi : (List.range z.tx.length)[i]? with
    | none => rfl
    | some i' =>
      obtain ⟨hi2, hi3⟩ := List.getElem?_eq_some_iff.1 hi
      rw [List.getElem_range] at hi3
      subst hi3
      rw [Option.map_some, Option.map_some, opsOf_more hx, if_neg (fun c => e (by omega)), List.append_nil]
/-- A call is a begun transaction's. -/
theorem op_tx (hg : hs0.go es = some z) (hx : es[k]? = some x) (h2 : x.kind = 2) : 1 ≤ x.t ∧ x.t ≤ z.tx.length := by
  obtain ⟨h1, e1⟩ := go_take hg k
  obtain ⟨hl, ex⟩ := List.getElem?_eq_some_iff.1 hx
  have e2 : es = es.take k ++ x :: es.drop (k + 1) := by
    rw [← ex]
    simp
  rw [e2, go_append, e1] at hg
  have hg : h1.go (x :: es.drop (k + 1)) = some z := hg
  have hlen := go_len hg
  rw [go_cons] at hg
  split at hg
  · next c =>
    unfold HsI.addE at c
    rw [if_neg (by omega)] at c
    split at c
    · cases c
    · omega
  · cases hg
end
def D1 (w1 : World) (z : HsI) (u i : Value) (wr : World) : Prop := ∃ (k : Nat) (o : Nat → Nat), k ≤ z.tx.length ∧ i = .int .i64 k ∧ DO w1.heap.size wr (fun _ => False) o u (row0 z k) ∧ Keep (fun _ => False) w1 wr
def D2 (w1 : World) (z : HsI) (es : List EvI) (u i : Value) (wr : World) : Prop := ∃ (k : Nat) (o : Nat → Nat) (zs : List (DlI × Value)), k ≤ es.length ∧ i = .int .i64 k ∧ zs.map Prod.fst = dealsOf z (es.take k) ∧ DO w1.heap.size wr (fun _ => False) o u zs ∧ Keep (fun _ => False) w1 wr
section
variable {w1 w5 w w' wr : World} {z : HsI} {es : List EvI} {x : EvI} {k j g L c : Nat} {o : Nat → Nat} {u v0 up : Value} {zs : List (DlI × Value)} {ys : List ((OpI × ReI) × Value)} {d0 : DlI}
theorem deal_push {t : TnI} (ht : z.at' k = t) (hk : k < z.tx.length) (Q : DO w1.heap.size wr (fun _ => False) o u (row0 z k)) (kr : Keep (fun _ => False) w1 wr) (g4 c4 : Nat) (y4 : World)
    (o4 : OwnM 6 dealF 73 y4 (.slice (some ⟨g4, 0, none⟩) ((row0 z k).length + 1) c4) (row0 z k ++ [(⟨(k : Int) + 1, t.level, t.state, t.start, t.stop, []⟩, .slice none 0 0)])) (k4 : Keep (fun j => u.ownBlock = some j) wr y4) (hg4 : u.ownBlock = some g4 ∨ wr.heap.size ≤ g4) :
    D1 w1 z (.slice (some ⟨g4, 0, none⟩) ((row0 z k).length + 1) c4) (.int .i64 ((k : Int) + 1)) y4 := by
  refine ⟨k + 1, fun j => if j = g4 then 1 else o j, hk, by go_num, ?_, kr.older k4 fun g hg => Q.low g (by rw [Q.lab g hg]; decide)⟩
  rw [row0_succ]
  have e : dl0 z k = ⟨(k : Int) + 1, t.level, t.state, t.start, t.stop, []⟩ := by unfold dl0; rw [ht]
  rw [e]
  exact Q.push kr.size (fun _ e => e.elim) rfl o4 k4 hg4
theorem deal_call (Q : DO w1.heap.size w5 (fun _ => False) o (.slice (some ⟨g, 0, none⟩) L c) zs) (k5 : Keep (fun _ => False) w1 w5) (hz : zs[j]? = some (d0, v0)) (q : OpsOut w5 o j v0 d0.ops ys) (hp : OwnPr w5 up x.r.pairs) (hf : ∀ b, up.ownBlock = some b → o b = 0 ∧ ¬ False ∧ w1.heap.size ≤ b)
    (he : zs.map Prod.fst = dealsOf z (es.take k)) (hx : es[k]? = some x) (h2 : x.kind = 2) (hj : x.t = (j : Int) + 1) (g2 c2 : Nat) (w' : World) (ho : OwnM 9 callF 76 w' (.slice (some ⟨g2, 0, none⟩) (ys.length + 1) c2) (ys ++ [((x.o, x.r), up)])) (kk : Keep (fun j => v0.ownBlock = some j) w5 w') (hg : v0.ownBlock = some g2 ∨ w5.heap.size ≤ g2) :
    (∃ u, w'.cell? ⟨g, j * 6 + 5, none⟩ = some u) ∧ w'.frozen? ⟨g, j * 6 + 5, none⟩ = false ∧ ∃ W, w'.setCell ⟨g, j * 6 + 5, none⟩ (.slice (some ⟨g2, 0, none⟩) (ys.length + 1) c2) = W ∧ D2 w1 z es (.slice (some ⟨g, 0, none⟩) L c) (.int .i64 ((k : Int) + 1)) W := by
  obtain ⟨f1, f2, o', Q2⟩ := Q.call (fun _ e => e.elim) hz q hp k5.size hf ho kk hg (d := { d0 with ops := d0.ops ++ [(x.o, x.r)] }) rfl
  have og := Q.lab g rfl
  refine ⟨f1, f2, _, rfl, k + 1, o', _, ?_, by go_num, deals_step hx h2 hj he hz, Q2, ?_⟩
  · exact (List.getElem?_eq_some_iff.1 hx).1
  · have k1 := k5.older kk fun b hb => Q.low b (by rw [q.lab b hb]; omega)
    exact k1.older (keep_one w' ⟨g, j * 6 + 5, none⟩ _) fun b hb => by
      have hb : b = g := hb
      rw [hb]
      exact Q.low g (by rw [og]; decide)
set_option maxRecDepth 100000 in
set_option maxHeartbeats 8000000 in
theorem deals_tale {v : Value} (hv : EvsIn w v es) (hN : EvN es) (hP : ∀ e ∈ es, e.r.pairs.length ≤ 50000) (a : Int) (ha : okAt es = a) : Calls Tryd.prog 11 #[v] w fun e w' => ∃ u, e = .returned u ∧ Keep (fun _ => False) w w' ∧ (a = -1 → ∃ z, hs0.go es = some z ∧ DealsIn w' u (dealsOf z es)) ∧ (a ≠ -1 → u = .slice none 0 0) := by
  have F := follow_any hv hN
  unfold FoP at F
  rw [ha] at F
  have LT := ok_lt es
  rw [ha] at LT
  have HV := Lib.hid hv
  obtain ⟨A, cA, rfl, hc, hm, hf⟩ := hv.form
  obtain ⟨n, hn⟩ : ∃ n, es.length = n := ⟨_, rfl⟩
  rw [hn] at hc hf F HV ⊢
  have EN := Lib.hid hn
  have HF := Lib.hid hf
  have HP := Lib.hid hP
  clear hv hf hN hP ha hn
  by_cases h1 : a = -1
  · subst h1
    have d1 : decide ((-1 : Int) < 0) = true := rfl
    clear LT
    go_enter Tryd.func11, Tryd.ntmps11
    go_wp2_with fail
    refine F.mono ?_
    rintro e w1 ⟨h, rfl, k1, hh⟩
    obtain ⟨hbig, o, B, va, z, hg, H, lo⟩ := hh (by trivial)
    have h0 := H.c0
    obtain ⟨A8, c8, rfl, hA⟩ := H.row
    have hl := H.nb.1
    obtain ⟨L, eL⟩ : ∃ L, z.tx.length = L := ⟨_, rfl⟩
    have R0 : D1 w1 z (.slice none 0 0) (.int .i64 (0 : Nat)) w1 := ⟨0, _, Nat.zero_le _, rfl, DO.nil, Keep.refl _ _⟩
    have HH := Lib.hid H
    have EL := Lib.hid eL
    have HG := Lib.hid hg
    have HA := Lib.hid hA
    have K1 := Lib.hid k1
    rw [eL] at h0 hl HH HA
    clear F hh H hA lo hg k1 eL
    go_wp2
    go_loopw [5, 23] (D1 w1 z) (fun _ i _ => L - (intOf i).toNat)
    case atStart => exact R0
    case round =>
      obtain ⟨k, o2, hk, rfl, Q, kr⟩ := hrel
      rw [EL.out] at hk
      clear R0
      by_cases hlt : k < L
      · obtain ⟨b, hb⟩ := HH.out.at_b (show k < z.tx.length by rw [EL.out]; exact hlt)
        obtain ⟨g, rfl⟩ := HA.out (by omega)
        have cb := kr.cell (HH.out.cell_b hb) id
        unfold ptrV at cb
        obtain ⟨u9, q⟩ := HH.out.tx k b hb
        obtain ⟨⟨lv, st, sp, bo, sta⟩, ht⟩ : ∃ t, z.at' k = t := ⟨_, rfl⟩
        rw [ht] at q
        have b0 := kr.cell q.ce.c0 id
        have b1 := kr.cell q.ce.c1 id
        have b2 := kr.cell q.ce.c2 id
        have b7 := kr.cell q.ce.c7 id
        dsimp only at b0 b1 b2 b7
        have wk : IntKind.i64.wrap ((k : Int) + 1) = (k : Int) + 1 := IntWalk.i64_in _ (by omega)
        have kd : Keep (fun _ => False) wr wr.drew := (Keep.refl _ _).drew
        have OWN := Lib.hid (OwnM.keep Q.own kd (fun _ _ => id))
        have ZL := Lib.hid (show (row0 z k).length ≤ 100000 by rw [row0_len]; omega)
        have AFT := Lib.hid (deal_push ht (by rw [EL.out]; exact hlt) (Q.quiet kd) (kr.trans kd))
        have NB := Lib.hid (show ¬ u5.ownBlock = some b from fun e => by
          have h1 := Q.low b (by rw [Q.lab b e]; decide)
          have h2 : b < w1.heap.size := lt_of_cell (a := ⟨b, 0, none⟩) q.ce.c0
          omega)
        have SD := Lib.hid (show wr.drew.cell? ⟨b, 0, none⟩ = some (.int .i64 lv) ∧ wr.drew.cell? ⟨b, 7, none⟩ = some (.int .i64 sta) ∧ wr.drew.cell? ⟨b, 1, none⟩ = some (.int .u64 st) ∧ wr.drew.cell? ⟨b, 2, none⟩ = some (.int .u64 sp) from ⟨b0, b7, b1, b2⟩)
        clear q ht kd Q kr hb
        go_wp2_with fail
        refine wp_region_held_drew (S := fun w' => w'.cell? ⟨b, 0, none⟩ = some (.int .i64 lv) ∧ w'.cell? ⟨b, 7, none⟩ = some (.int .i64 sta) ∧ w'.cell? ⟨b, 1, none⟩ = some (.int .u64 st) ∧ w'.cell? ⟨b, 2, none⟩ = some (.int .u64 sp)) (by kernel_rfl) ⟨b0, b7, b1, b2⟩ (fun hHeld => ?_)
        refine wpAnyH_take (i := 0) (v := ?qvu0) rfl (by kernel_rfl) (by kernel_rfl) (by kernel_rfl) (fun _ _ _ h => h) (Or.inl ⟨by rfl, ?qyu0⟩) (by assumption) ?qru0; case qyu0 => ((intro w hSw; (try dsimp only at hSw); go_simp); try (with_reducible rfl))
        (try simp only [tA, tS, tZ, Act.put, uA, uS, uZ])
        refine wpAnyH_take (i := 1) (v := ?qvu1) rfl (by kernel_rfl) (by kernel_rfl) (by kernel_rfl) (fun _ _ _ h => h) (Or.inl ⟨by rfl, ?qyu1⟩) (by assumption) ?qru1; case qyu1 => ((intro w hSw; (try dsimp only at hSw); go_simp); try (with_reducible rfl))
        (try simp only [tA, tS, tZ, Act.put, uA, uS, uZ])
        refine wpAnyH_take (i := 2) (v := ?qvu2) rfl (by kernel_rfl) (by kernel_rfl) (by kernel_rfl) (fun _ _ _ h => h) (Or.inl ⟨by rfl, ?qyu2⟩) (by assumption) ?qru2; case qyu2 => ((intro w hSw; (try dsimp only at hSw); go_simp); try (with_reducible rfl))
        (try simp only [tA, tS, tZ, Act.put, uA, uS, uZ])
        refine wpAnyH_take (i := 3) (v := ?qvu3) rfl (by kernel_rfl) (by kernel_rfl) (by kernel_rfl) (fun _ _ _ h => h) (Or.inl ⟨by rfl, ?qyu3⟩) (by assumption) ?qru3; case qyu3 => ((intro w hSw; (try dsimp only at hSw); go_simp); try (with_reducible rfl))
        (try simp only [tA, tS, tZ, Act.put, uA, uS, uZ])
        refine wpAnyH_take (i := 4) (v := ?qvu4) rfl (by kernel_rfl) (by kernel_rfl) (by kernel_rfl) (fun _ _ _ h => h) (Or.inl ⟨by rfl, ?qyu4⟩) (by assumption) ?qru4; case qyu4 => ((intro w hSw; (try dsimp only at hSw); go_simp); try (with_reducible rfl))
        (try simp only [tA, tS, tZ, Act.put, uA, uS, uZ])
        refine wpAnyH_take (i := 5) (v := ?qvu5) rfl (by kernel_rfl) (by kernel_rfl) (by kernel_rfl) (fun _ _ _ h => h) (Or.inl ⟨by rfl, ?qyu5⟩) (by assumption) ?qru5; case qyu5 => ((intro w hSw; (try dsimp only at hSw); go_simp); try (with_reducible rfl))
        (try simp only [tA, tS, tZ, Act.put, uA, uS, uZ])
        refine wpAnyH_take (i := 6) (v := ?qvu6) rfl (by kernel_rfl) (by kernel_rfl) (by kernel_rfl) (fun _ _ _ h => h) (Or.inl ⟨by rfl, ?qyu6⟩) (by assumption) ?qru6; case qyu6 => ((intro w hSw; (try dsimp only at hSw); go_simp); try (with_reducible rfl))
        (try simp only [tA, tS, tZ, Act.put, uA, uS, uZ])
        refine wpAnyH_take (i := 7) (v := ?qvu7) rfl (by kernel_rfl) (by kernel_rfl) (by kernel_rfl) (fun _ _ _ h => h) (Or.inl ⟨by rfl, ?qyu7⟩) (by assumption) ?qru7; case qyu7 => ((intro w hSw; (try dsimp only at hSw); go_simp); try (with_reducible rfl))
        (try simp only [tA, tS, tZ, Act.put, uA, uS, uZ])
        refine wpAnyH_take (i := 8) (v := ?qvu8) rfl (by kernel_rfl) (by kernel_rfl) (by kernel_rfl) (fun _ _ _ h => h) (Or.inl ⟨by rfl, ?qyu8⟩) (by assumption) ?qru8; case qyu8 => ((intro w hSw; (try dsimp only at hSw); go_simp); try (with_reducible rfl))
        (try simp only [tA, tS, tZ, Act.put, uA, uS, uZ])
        refine wpAnyH_take (i := 9) (v := ?qvu9) rfl (by kernel_rfl) (by kernel_rfl) (by kernel_rfl) (fun _ _ _ h => h) (Or.inl ⟨by rfl, ?qyu9⟩) (by assumption) ?qru9; case qyu9 => ((intro w hSw; (try dsimp only at hSw); go_simp); try (with_reducible rfl))
        (try simp only [tA, tS, tZ, Act.put, uA, uS, uZ])
        refine wpAnyH_take (i := 10) (v := ?qvu10) rfl (by kernel_rfl) (by kernel_rfl) (by kernel_rfl) (fun _ _ _ h => h) (Or.inl ⟨by rfl, ?qyu10⟩) (by assumption) ?qru10; case qyu10 => ((intro w hSw; (try dsimp only at hSw); go_simp); try (with_reducible rfl))
        (try simp only [tA, tS, tZ, Act.put, uA, uS, uZ])
        refine wpAnyH_take (i := 11) (v := ?qvu11) rfl (by kernel_rfl) (by kernel_rfl) (by kernel_rfl) (fun _ _ _ h => h) (Or.inl ⟨by rfl, ?qyu11⟩) (by assumption) ?qru11; case qyu11 => ((intro w hSw; (try dsimp only at hSw); go_simp); try (with_reducible rfl))
        (try simp only [tA, tS, tZ, Act.put, uA, uS, uZ])
        refine wpAnyH_take (i := 12) (v := ?qvu12) rfl (by kernel_rfl) (by kernel_rfl) (by kernel_rfl) (fun _ _ _ h => h) (Or.inl ⟨by rfl, ?qyu12⟩) (by assumption) ?qru12; case qyu12 => ((intro w hSw; (try dsimp only at hSw); go_simp); try (with_reducible rfl))
        (try simp only [tA, tS, tZ, Act.put, uA, uS, uZ])
        refine wpAnyH_take (i := 13) (v := ?qvu13) rfl (by kernel_rfl) (by kernel_rfl) (by kernel_rfl) (fun _ _ _ h => h) (Or.inl ⟨by rfl, ?qyu13⟩) (by assumption) ?qru13; case qyu13 => ((intro w hSw; (try dsimp only at hSw); go_simp); try (with_reducible rfl))
        (try simp only [tA, tS, tZ, Act.put, uA, uS, uZ])
        refine wpAnyH_take (i := 14) (v := ?qvu14) rfl (by kernel_rfl) (by kernel_rfl) (by kernel_rfl) (fun _ _ _ h => h) (Or.inl ⟨by rfl, ?qyu14⟩) (by assumption) ?qru14; case qyu14 => ((intro w hSw; (try dsimp only at hSw); go_simp); try (with_reducible rfl))
        (try simp only [tA, tS, tZ, Act.put, uA, uS, uZ])
        refine wpAnyH_take (i := 15) (v := ?qvu15) rfl (by kernel_rfl) (by kernel_rfl) (by kernel_rfl) (fun _ _ _ h => h) (Or.inl ⟨by rfl, ?qyu15⟩) (by assumption) ?qru15; case qyu15 => ((intro w hSw; (try dsimp only at hSw); go_simp); try (with_reducible rfl))
        (try simp only [tA, tS, tZ, Act.put, uA, uS, uZ])
        refine wpAnyH_take (i := 16) (v := ?qvu16) rfl (by kernel_rfl) (by kernel_rfl) (by kernel_rfl) (fun _ _ _ h => h) (Or.inl ⟨by rfl, ?qyu16⟩) (by assumption) ?qru16; case qyu16 => ((intro w hSw; (try dsimp only at hSw); go_simp); try (with_reducible rfl))
        (try simp only [tA, tS, tZ, Act.put, uA, uS, uZ])
        refine wpAnyH_take (i := 17) (v := ?qvu17) rfl (by kernel_rfl) (by kernel_rfl) (by kernel_rfl) (fun _ _ _ h => h) (Or.inl ⟨by rfl, ?qyu17⟩) (by assumption) ?qru17; case qyu17 => ((intro w hSw; (try dsimp only at hSw); go_simp); try (with_reducible rfl))
        (try simp only [tA, tS, tZ, Act.put, uA, uS, uZ])
        refine wpAnyH_take (i := 18) (v := ?qvu18) rfl (by kernel_rfl) (by kernel_rfl) (by kernel_rfl) (fun _ _ _ h => h) (Or.inl ⟨by rfl, ?qyu18⟩) (by assumption) ?qru18; case qyu18 => ((intro w hSw; (try dsimp only at hSw); go_simp); try (with_reducible rfl))
        (try simp only [tA, tS, tZ, Act.put, uA, uS, uZ])
        refine wpAnyH_take (i := 19) (v := ?qvu19) rfl (by kernel_rfl) (by kernel_rfl) (by kernel_rfl) (fun _ _ _ h => h) (Or.inl ⟨by rfl, ?qyu19⟩) (by assumption) ?qru19; case qyu19 => ((intro w hSw; (try dsimp only at hSw); go_simp); try (with_reducible rfl))
        (try simp only [tA, tS, tZ, Act.put, uA, uS, uZ])
        refine wpAnyH_ready (rs := [20]) (by kernel_rfl) (by simp) ?_
        refine AllReadyH.cons rfl (fun K hK => ?_) AllReadyH.nil
        go_simp
        refine hK.out _ _ ⟨(Keep.alloc (Keep.refl (fun _ => False) _) _).cell hHeld.1 id, (Keep.alloc (Keep.refl (fun _ => False) _) _).cell hHeld.2.1 id, (Keep.alloc (Keep.refl (fun _ => False) _) _).cell hHeld.2.2.1 id, (Keep.alloc (Keep.refl (fun _ => False) _) _).cell hHeld.2.2.2 id⟩ (fun hHeld => ?_)
        clear hK K
        (try simp only [tA, tS, tZ, Act.put, uA, uS, uZ])
        refine wpAnyH_ready (rs := [21]) (by kernel_rfl) (by simp) ?_
        refine AllReadyH.cons rfl (fun K hK => ?_) AllReadyH.nil
        refine step_pushM1 Tryd.underlying40 info_dl rfl (by decide) (by decide) dealF_len rfl (.tmp 28) (.tmp 48) rfl _ (row0 z k) (by rfl) OWN.out (⟨(k : Int) + 1, lv, sta, st, sp, []⟩, .slice none 0 0) (dealF_one none 0 0 _) (by rfl) ZL.out ?_
        intro g4 c4 y4 o4 k4 hg4
        have NEW := Lib.hid (AFT.out g4 c4 y4 o4 k4 hg4)
        rw [row0_len] at NEW
        have SY := Lib.hid (show y4.cell? ⟨b, 0, none⟩ = some (.int .i64 lv) ∧ y4.cell? ⟨b, 7, none⟩ = some (.int .i64 sta) ∧ y4.cell? ⟨b, 1, none⟩ = some (.int .u64 st) ∧ y4.cell? ⟨b, 2, none⟩ = some (.int .u64 sp) from ⟨k4.cell SD.out.1 NB.out, k4.cell SD.out.2.1 NB.out, k4.cell SD.out.2.2.1 NB.out, k4.cell SD.out.2.2.2 NB.out⟩)
        clear o4 k4 hg4
        refine hK.out _ _ SY.out (fun hHeld => ?_)
        clear hK K
        (try simp only [tA, tS, tZ, Act.put, uA, uS, uZ])
        refine wpAnyH_take (i := 22) (v := ?qvu20) rfl (by kernel_rfl) (by kernel_rfl) (by kernel_rfl) (fun _ _ _ h => h) (Or.inl ⟨by rfl, ?qyu20⟩) (by assumption) ?qru20; case qyu20 => ((intro w hSw; (try dsimp only at hSw); go_simp); try (with_reducible rfl))
        (try simp only [tA, tS, tZ, Act.put, uA, uS, uZ])
        refine wpAnyH_done (by kernel_rfl) ?_ _
        rw [row0_len]; go_wp2_with fail; go_roundw; (case rel => exact NEW.out); (case measure => (simp [intOf]; omega))
      · obtain rfl : k = L := by omega
        have R2 : D2 w1 z es u5 (.int .i64 (0 : Nat)) wr := ⟨0, o2, row0 z k, Nat.zero_le _, rfl, by rw [← EL.out]; exact row0_fst, Q, kr⟩
        clear Q kr hk hlt
        go_wp2
        go_loopw [53] (D2 w1 z es u5) (fun i _ => n - (intOf i).toNat)
        case atStart => exact R2
        case round =>
          obtain ⟨i, o3, zs, hi, rfl, ez, Q, kr⟩ := hrel
          rw [EN.out] at hi
          clear R2
          by_cases hlt : i < n
          · obtain ⟨x, hx⟩ : ∃ x, es[i]? = some x := ⟨_, List.getElem?_eq_getElem (by rw [EN.out]; exact hlt)⟩
            obtain ⟨bb, off, rfl, hbl, hcc⟩ := HF.out (by omega)
            obtain ⟨A2, c2, L2, E⟩ := hcc i x hx
            have k1 := K1.out.trans kr
            have E := E.keep k1 id
            have PL := HP.out x (List.mem_of_getElem? hx)
            obtain ⟨V, eV, X, kV⟩ := ev_box wr x (.slice A2 x.r.pairs.length c2)
            have kr2 := kr.trans kV
            have CL := call_any x (L2.keep ((k1.trans kV).trans ((Keep.refl (fun _ => False) V).drew))) PL
            have Q2 := Q.quiet kV
            have TX := op_tx HG.out hx
            have zl : zs.length = k := by
              have := congrArg List.length ez
              rw [List.length_map, deals_len, EL.out] at this
              exact this
            have wk : IntKind.i64.wrap ((i : Int) + 1) = (i : Int) + 1 := IntWalk.i64_in _ (by omega)
            obtain ⟨c0, c1, c2', c3, c4, c5, c6, c7, c8, c9, c10, c11⟩ := E
            obtain ⟨x0, x1, x2, x3, x4, x5, x6, x7, x8, x9, x10, x11⟩ := X
            simp only [Nat.zero_add] at x0 x1 x2 x3 x4 x5 x6 x7 x8 x9 x10 x11
            obtain ⟨N, eN⟩ : ∃ N, wr.heap.size = N := ⟨_, rfl⟩
            rw [eN] at x0 x1 x2 x3 x4 x5 x6 x7 x8 x9 x10 x11
            have oN : o3 N = 0 := Decidable.byContradiction fun c => by have := (Q.free N c).1; omega
            have lV : N < V.heap.size := lt_of_cell (a := ⟨N, 0, none⟩) x0
            have EX := Lib.hid hx
            obtain ⟨pl, hpl⟩ : ∃ pl, x.r.pairs.length = pl := ⟨_, rfl⟩
            unfold evV clV at CL
            rw [hpl] at CL c9 x9 eV
            clear hcc L2 hbl Q kr k1 kV hpl hx PL
            obtain ⟨kd, tt, nn, ⟨ok, oy, oh, ov⟩, ⟨re, rv, ps, ro, rr⟩⟩ := x
            dsimp only at CL TX c0 c1 c2' c3 c4 c5 c6 c7 c8 c9 c10 c11 x0 x1 x2 x3 x4 x5 x6 x7 x8 x9 x10 x11 eV
            by_cases h2 : kd = 2
            · subst h2
              obtain ⟨t1, t2⟩ := TX (by trivial)
              rw [EL.out] at t2
              obtain ⟨j, hj⟩ : ∃ j : Nat, tt = (j : Int) + 1 := ⟨(tt - 1).toNat, by omega⟩
              have jl : j < zs.length := by omega
              obtain ⟨⟨d0, v0⟩, hzj⟩ : ∃ y, zs[j]? = some y := ⟨_, List.getElem?_eq_getElem jl⟩
              obtain ⟨A9, c9', rfl, hA9⟩ := Q2.form
              obtain ⟨g8, rfl⟩ := hA9 (by omega)
              obtain ⟨ys, q⟩ := Q2.ops j _ hzj
              obtain ⟨A0, q0, cc0, e0⟩ := q.sl
              have e0 : v0 = .slice A0 q0 cc0 := e0
              subst e0
              have q3 : IntKind.i64.wrap (tt - 1) = (j : Int) := by rw [hj, Int.add_sub_cancel]; exact IntWalk.i64_in _ (by omega)
              have q4 : (j : Int) < zs.length := by omega
              have e5 := Q2.cell hzj (j := 5) (by decide) rfl
              have e5 : V.cell? ⟨g8, j * 6 + 5, none⟩ = some (.slice A0 q0 cc0) := e5
              have f5 := Q2.fz (j * 6 + 5)
              have og := Q2.lab g8 rfl
              have lg8 : g8 < V.heap.size := (Q2.free g8 (by rw [og]; decide)).1
              have NG := Lib.hid (show g8 ≠ N from fun e => by rw [e, oN] at og; cases og)
              have NQ := Lib.hid (show ¬ (Value.slice A0 q0 cc0).ownBlock = some N from fun e => by have := q.lab N e; omega)
              have DV : d0 = ⟨d0.id, d0.level, d0.state, d0.start, d0.stop, d0.ops⟩ := rfl
              have LY := Lib.hid (show ys.length ≤ 100000 by
                have h1 : d0 ∈ dealsOf z (es.take i) := by rw [← ez]; exact List.mem_map.2 ⟨_, List.mem_of_getElem? hzj, rfl⟩
                unfold dealsOf at h1
                obtain ⟨i2, _, h1⟩ := List.mem_map.1 h1
                have h3 := opsOf_len (es.take i) ((i2 : Int) + 1)
                rw [List.length_take] at h3
                have h4 := congrArg List.length q.eq
                rw [List.length_map] at h4
                have h4 : ys.length = d0.ops.length := h4
                rw [← h1] at h4
                have h4 : ys.length = (opsOf (es.take i) ((i2 : Int) + 1)).length := h4
                omega)
              have kd : Keep (fun _ => False) V V.drew := (Keep.refl _ _).drew
              have QD := Lib.hid (Q2.quiet kd)
              have KD := Lib.hid (kr2.trans kd)
              have QO := Lib.hid (show OpsOut V.drew o3 j (.slice A0 q0 cc0) d0.ops ys from q.keep kd fun _ _ _ => id)
              have CC := Lib.hid CL
              have EZ := Lib.hid ez
              have HZ := Lib.hid hzj
              have HJ := Lib.hid hj
              have OG := Lib.hid og
              have ZK := Lib.hid zl
              have SB : V.cell? ⟨N, 0, none⟩ = some (.int .i64 2) ∧ V.cell? ⟨N, 1, none⟩ = some (.int .i64 tt) ∧ V.cell? ⟨N, 2, none⟩ = some (.int .u64 nn) ∧ V.cell? ⟨N, 3, none⟩ = some (.int .i64 ok) ∧ V.cell? ⟨N, 4, none⟩ = some (.int .i64 oy) ∧ V.cell? ⟨N, 5, none⟩ = some (.int .i64 oh) ∧ V.cell? ⟨N, 6, none⟩ = some (.int .i64 ov) ∧ V.cell? ⟨N, 7, none⟩ = some (.int .i64 re) ∧ V.cell? ⟨N, 8, none⟩ = some (.int .i64 rv) ∧ V.cell? ⟨N, 9, none⟩ = some (.slice A2 pl c2) ∧ V.cell? ⟨N, 10, none⟩ = some (.int .i64 ro) ∧ V.cell? ⟨N, 11, none⟩ = some (.int .i64 rr) := ⟨x0, x1, x2, x3, x4, x5, x6, x7, x8, x9, x10, x11⟩
              have SD := Lib.hid (show V.drew.cell? ⟨N, 0, none⟩ = some (.int .i64 2) ∧ V.drew.cell? ⟨N, 1, none⟩ = some (.int .i64 tt) ∧ V.drew.cell? ⟨N, 2, none⟩ = some (.int .u64 nn) ∧ V.drew.cell? ⟨N, 3, none⟩ = some (.int .i64 ok) ∧ V.drew.cell? ⟨N, 4, none⟩ = some (.int .i64 oy) ∧ V.drew.cell? ⟨N, 5, none⟩ = some (.int .i64 oh) ∧ V.drew.cell? ⟨N, 6, none⟩ = some (.int .i64 ov) ∧ V.drew.cell? ⟨N, 7, none⟩ = some (.int .i64 re) ∧ V.drew.cell? ⟨N, 8, none⟩ = some (.int .i64 rv) ∧ V.drew.cell? ⟨N, 9, none⟩ = some (.slice A2 pl c2) ∧ V.drew.cell? ⟨N, 10, none⟩ = some (.int .i64 ro) ∧ V.drew.cell? ⟨N, 11, none⟩ = some (.int .i64 rr) from SB)
              clear Q2 q kd kr2 CL ez hzj hj og oN hA9 DV TX
              go_wp2_with fail
              refine wp_region_held_drew (S := fun w' => w'.cell? ⟨N, 0, none⟩ = some (.int .i64 2) ∧ w'.cell? ⟨N, 1, none⟩ = some (.int .i64 tt) ∧ w'.cell? ⟨N, 2, none⟩ = some (.int .u64 nn) ∧ w'.cell? ⟨N, 3, none⟩ = some (.int .i64 ok) ∧ w'.cell? ⟨N, 4, none⟩ = some (.int .i64 oy) ∧ w'.cell? ⟨N, 5, none⟩ = some (.int .i64 oh) ∧ w'.cell? ⟨N, 6, none⟩ = some (.int .i64 ov) ∧ w'.cell? ⟨N, 7, none⟩ = some (.int .i64 re) ∧ w'.cell? ⟨N, 8, none⟩ = some (.int .i64 rv) ∧ w'.cell? ⟨N, 9, none⟩ = some (.slice A2 pl c2) ∧ w'.cell? ⟨N, 10, none⟩ = some (.int .i64 ro) ∧ w'.cell? ⟨N, 11, none⟩ = some (.int .i64 rr)) (by kernel_rfl) SB (fun hHeld => ?_)
              clear SB x0 x1 x2 x3 x4 x5 x6 x7 x8 x9 x10 x11
              refine wpAnyH_take (i := 0) (v := ?qvu21) rfl (by kernel_rfl) (by kernel_rfl) (by kernel_rfl) (fun _ _ _ h => h) (Or.inl ⟨by rfl, ?qyu21⟩) (by assumption) ?qru21; case qyu21 => ((intro w hSw; (try dsimp only at hSw); go_simp); try (with_reducible rfl))
              (try simp only [tA, tS, tZ, Act.put, uA, uS, uZ])
              refine wpAnyH_take (i := 1) (v := ?qvu22) rfl (by kernel_rfl) (by kernel_rfl) (by kernel_rfl) (fun _ _ _ h => h) (Or.inl ⟨by rfl, ?qyu22⟩) (by assumption) ?qru22; case qyu22 => ((intro w hSw; (try dsimp only at hSw); go_simp); try (with_reducible rfl))
              (try simp only [tA, tS, tZ, Act.put, uA, uS, uZ])
              refine wpAnyH_take (i := 2) (v := ?qvu23) rfl (by kernel_rfl) (by kernel_rfl) (by kernel_rfl) (fun _ _ _ h => h) (Or.inl ⟨by rfl, ?qyu23⟩) (by assumption) ?qru23; case qyu23 => ((intro w hSw; (try dsimp only at hSw); go_simp); try (with_reducible rfl))
              (try simp only [tA, tS, tZ, Act.put, uA, uS, uZ])
              refine wpAnyH_take (i := 3) (v := ?qvu24) rfl (by kernel_rfl) (by kernel_rfl) (by kernel_rfl) (fun _ _ _ h => h) (Or.inl ⟨by rfl, ?qyu24⟩) (by assumption) ?qru24; case qyu24 => ((intro w hSw; (try dsimp only at hSw); go_simp); try (with_reducible rfl))
              (try simp only [tA, tS, tZ, Act.put, uA, uS, uZ])
              refine wpAnyH_take (i := 5) (v := ?qvu25) rfl (by kernel_rfl) (by kernel_rfl) (by kernel_rfl) (fun _ _ _ h => h) (Or.inl ⟨by rfl, ?qyu25⟩) (by assumption) ?qru25; case qyu25 => ((intro w hSw; (try dsimp only at hSw); go_simp); try (with_reducible rfl))
              (try simp only [tA, tS, tZ, Act.put, uA, uS, uZ])
              refine wpAnyH_ready (rs := [4, 6]) (by kernel_rfl) (by simp) ?_
              refine AllReadyH.cons rfl (fun K hK => ?_) (AllReadyH.cons rfl (fun K hK => ?_) AllReadyH.nil)
              · go_simp
                refine hK.out _ _ hHeld (fun hHeld => ?_)
                clear hK K
                (try simp only [tA, tS, tZ, Act.put, uA, uS, uZ])
                refine wpAnyH_ready (rs := [6]) (by kernel_rfl) (by simp) ?_
                refine AllReadyH.cons rfl (fun K hK => ?_) AllReadyH.nil
                go_simp
                refine CC.out.mono ?_
                rintro e w5 ⟨A3, c3', rfl, o5, k5⟩
                have AFT := Lib.hid (deal_call (QD.out.quiet k5) (KD.out.trans k5) HZ.out (QO.out.keep k5 fun _ _ _ => id) (OwnB.ownM o5) (fun b hb => ⟨Decidable.byContradiction fun c => by have := (QD.out.free b c).1; have := (OwnB.lt o5 hb).1; omega, id, Nat.le_trans KD.out.size (OwnB.lt o5 hb).1⟩) EZ.out EX.out rfl HJ.out)
                have OWN := Lib.hid (QO.out.keep k5 fun _ _ _ => id).own
                have S5 := Lib.hid (show w5.cell? ⟨N, 0, none⟩ = some (.int .i64 2) ∧ w5.cell? ⟨N, 1, none⟩ = some (.int .i64 tt) ∧ w5.cell? ⟨N, 2, none⟩ = some (.int .u64 nn) ∧ w5.cell? ⟨N, 3, none⟩ = some (.int .i64 ok) ∧ w5.cell? ⟨N, 4, none⟩ = some (.int .i64 oy) ∧ w5.cell? ⟨N, 5, none⟩ = some (.int .i64 oh) ∧ w5.cell? ⟨N, 6, none⟩ = some (.int .i64 ov) ∧ w5.cell? ⟨N, 7, none⟩ = some (.int .i64 re) ∧ w5.cell? ⟨N, 8, none⟩ = some (.int .i64 rv) ∧ w5.cell? ⟨N, 9, none⟩ = some (.slice A2 pl c2) ∧ w5.cell? ⟨N, 10, none⟩ = some (.int .i64 ro) ∧ w5.cell? ⟨N, 11, none⟩ = some (.int .i64 rr) from (by have Z := SD.out; exact ⟨k5.cell Z.1 id, k5.cell Z.2.1 id, k5.cell Z.2.2.1 id, k5.cell Z.2.2.2.1 id, k5.cell Z.2.2.2.2.1 id, k5.cell Z.2.2.2.2.2.1 id, k5.cell Z.2.2.2.2.2.2.1 id, k5.cell Z.2.2.2.2.2.2.2.1 id, k5.cell Z.2.2.2.2.2.2.2.2.1 id, k5.cell Z.2.2.2.2.2.2.2.2.2.1 id, k5.cell Z.2.2.2.2.2.2.2.2.2.2.1 id, k5.cell Z.2.2.2.2.2.2.2.2.2.2.2 id⟩))
                have e6 : w5.cell? ⟨g8, j * 6 + 5, none⟩ = some (.slice A0 q0 cc0) := k5.cell (show V.drew.cell? ⟨g8, j * 6 + 5, none⟩ = _ from e5) id
                have lg9 : g8 < w5.heap.size := lt_of_cell (a := ⟨g8, j * 6 + 5, none⟩) e6
                clear o5 k5
                refine hK.out _ _ S5.out (fun hHeld => ?_)
                clear hK K
                (try simp only [tA, tS, tZ, Act.put, uA, uS, uZ])
                refine wpAnyH_ready (rs := [7]) (by kernel_rfl) (by simp) ?_
                refine AllReadyH.cons rfl (fun K hK => ?_) AllReadyH.nil
                go_simp
                refine hK.out _ _ (by have Z := S5.out; exact ⟨(Keep.alloc (Keep.refl (fun _ => False) _) _).cell Z.1 id, (Keep.alloc (Keep.refl (fun _ => False) _) _).cell Z.2.1 id, (Keep.alloc (Keep.refl (fun _ => False) _) _).cell Z.2.2.1 id, (Keep.alloc (Keep.refl (fun _ => False) _) _).cell Z.2.2.2.1 id, (Keep.alloc (Keep.refl (fun _ => False) _) _).cell Z.2.2.2.2.1 id, (Keep.alloc (Keep.refl (fun _ => False) _) _).cell Z.2.2.2.2.2.1 id, (Keep.alloc (Keep.refl (fun _ => False) _) _).cell Z.2.2.2.2.2.2.1 id, (Keep.alloc (Keep.refl (fun _ => False) _) _).cell Z.2.2.2.2.2.2.2.1 id, (Keep.alloc (Keep.refl (fun _ => False) _) _).cell Z.2.2.2.2.2.2.2.2.1 id, (Keep.alloc (Keep.refl (fun _ => False) _) _).cell Z.2.2.2.2.2.2.2.2.2.1 id, (Keep.alloc (Keep.refl (fun _ => False) _) _).cell Z.2.2.2.2.2.2.2.2.2.2.1 id, (Keep.alloc (Keep.refl (fun _ => False) _) _).cell Z.2.2.2.2.2.2.2.2.2.2.2 id⟩) (fun hHeld => ?_)
                clear hK K
                (try simp only [tA, tS, tZ, Act.put, uA, uS, uZ])
                refine wpAnyH_ready (rs := [8]) (by kernel_rfl) (by simp) ?_
                refine AllReadyH.cons rfl (fun K hK => ?_) AllReadyH.nil
                refine step_pushM1 Tryd.underlying71 info_cl rfl (by decide) (by decide) callF_len rfl (.tmp 69) (.tmp 72) rfl _ ys (by rfl) OWN.out ((⟨ok, oy, oh, ov⟩, ⟨re, rv, ps, ro, rr⟩), .slice A3 pl c3') (callF_one A3 pl c3' _) (by rfl) LY.out ?_
                intro g4 cc4 y4 o4 k4 hg4
                obtain ⟨⟨uu, cu⟩, fu, _, rfl, FD⟩ := AFT.out g4 cc4 y4 o4 k4 hg4
                have NEW := Lib.hid FD
                rw [ZK.out] at NEW
                have SY := Lib.hid (show y4.cell? ⟨N, 0, none⟩ = some (.int .i64 2) ∧ y4.cell? ⟨N, 1, none⟩ = some (.int .i64 tt) ∧ y4.cell? ⟨N, 2, none⟩ = some (.int .u64 nn) ∧ y4.cell? ⟨N, 3, none⟩ = some (.int .i64 ok) ∧ y4.cell? ⟨N, 4, none⟩ = some (.int .i64 oy) ∧ y4.cell? ⟨N, 5, none⟩ = some (.int .i64 oh) ∧ y4.cell? ⟨N, 6, none⟩ = some (.int .i64 ov) ∧ y4.cell? ⟨N, 7, none⟩ = some (.int .i64 re) ∧ y4.cell? ⟨N, 8, none⟩ = some (.int .i64 rv) ∧ y4.cell? ⟨N, 9, none⟩ = some (.slice A2 pl c2) ∧ y4.cell? ⟨N, 10, none⟩ = some (.int .i64 ro) ∧ y4.cell? ⟨N, 11, none⟩ = some (.int .i64 rr) from (by have Z := S5.out; exact ⟨k4.cell Z.1 NQ.out, k4.cell Z.2.1 NQ.out, k4.cell Z.2.2.1 NQ.out, k4.cell Z.2.2.2.1 NQ.out, k4.cell Z.2.2.2.2.1 NQ.out, k4.cell Z.2.2.2.2.2.1 NQ.out, k4.cell Z.2.2.2.2.2.2.1 NQ.out, k4.cell Z.2.2.2.2.2.2.2.1 NQ.out, k4.cell Z.2.2.2.2.2.2.2.2.1 NQ.out, k4.cell Z.2.2.2.2.2.2.2.2.2.1 NQ.out, k4.cell Z.2.2.2.2.2.2.2.2.2.2.1 NQ.out, k4.cell Z.2.2.2.2.2.2.2.2.2.2.2 NQ.out⟩))
                clear o4 k4 hg4 FD
                refine hK.out _ _ SY.out (fun hHeld => ?_)
                clear hK K
                (try simp only [tA, tS, tZ, Act.put, uA, uS, uZ])
                refine wpAnyH_take (i := 9) (v := ?qvu26) rfl (by kernel_rfl) (by kernel_rfl) (by kernel_rfl) (fun _ _ _ h => h) (Or.inl ⟨by rfl, ?qyu26⟩) (by assumption) ?qru26; case qyu26 => ((intro w hSw; (try dsimp only at hSw); go_simp); try (with_reducible rfl))
                (try simp only [tA, tS, tZ, Act.put, uA, uS, uZ])
                refine wpAnyH_take (i := 10) (v := ?qvu27) rfl (by kernel_rfl) (by kernel_rfl) (by kernel_rfl) (fun _ _ _ h => h) (Or.inl ⟨by rfl, ?qyu27⟩) (by assumption) ?qru27; case qyu27 => ((intro w hSw; (try dsimp only at hSw); go_simp); try (with_reducible rfl))
                (try simp only [tA, tS, tZ, Act.put, uA, uS, uZ])
                refine wpAnyH_ready (rs := [11]) (by kernel_rfl) (by simp) ?_
                refine AllReadyH.cons rfl (fun K hK => ?_) AllReadyH.nil
                go_simp
                go_simp
                refine hK.out _ _ (show (y4.setCell ⟨g8, j * 6 + 5, none⟩ _).cell? ⟨N, 0, none⟩ = some (.int .i64 2) ∧ (y4.setCell ⟨g8, j * 6 + 5, none⟩ _).cell? ⟨N, 1, none⟩ = some (.int .i64 tt) ∧ (y4.setCell ⟨g8, j * 6 + 5, none⟩ _).cell? ⟨N, 2, none⟩ = some (.int .u64 nn) ∧ (y4.setCell ⟨g8, j * 6 + 5, none⟩ _).cell? ⟨N, 3, none⟩ = some (.int .i64 ok) ∧ (y4.setCell ⟨g8, j * 6 + 5, none⟩ _).cell? ⟨N, 4, none⟩ = some (.int .i64 oy) ∧ (y4.setCell ⟨g8, j * 6 + 5, none⟩ _).cell? ⟨N, 5, none⟩ = some (.int .i64 oh) ∧ (y4.setCell ⟨g8, j * 6 + 5, none⟩ _).cell? ⟨N, 6, none⟩ = some (.int .i64 ov) ∧ (y4.setCell ⟨g8, j * 6 + 5, none⟩ _).cell? ⟨N, 7, none⟩ = some (.int .i64 re) ∧ (y4.setCell ⟨g8, j * 6 + 5, none⟩ _).cell? ⟨N, 8, none⟩ = some (.int .i64 rv) ∧ (y4.setCell ⟨g8, j * 6 + 5, none⟩ _).cell? ⟨N, 9, none⟩ = some (.slice A2 pl c2) ∧ (y4.setCell ⟨g8, j * 6 + 5, none⟩ _).cell? ⟨N, 10, none⟩ = some (.int .i64 ro) ∧ (y4.setCell ⟨g8, j * 6 + 5, none⟩ _).cell? ⟨N, 11, none⟩ = some (.int .i64 rr) from (by have Z := SY.out; exact ⟨(keep_one y4 ⟨g8, j * 6 + 5, none⟩ _).cell Z.1 (fun e => NG.out (Eq.symm e)), (keep_one y4 ⟨g8, j * 6 + 5, none⟩ _).cell Z.2.1 (fun e => NG.out (Eq.symm e)), (keep_one y4 ⟨g8, j * 6 + 5, none⟩ _).cell Z.2.2.1 (fun e => NG.out (Eq.symm e)), (keep_one y4 ⟨g8, j * 6 + 5, none⟩ _).cell Z.2.2.2.1 (fun e => NG.out (Eq.symm e)), (keep_one y4 ⟨g8, j * 6 + 5, none⟩ _).cell Z.2.2.2.2.1 (fun e => NG.out (Eq.symm e)), (keep_one y4 ⟨g8, j * 6 + 5, none⟩ _).cell Z.2.2.2.2.2.1 (fun e => NG.out (Eq.symm e)), (keep_one y4 ⟨g8, j * 6 + 5, none⟩ _).cell Z.2.2.2.2.2.2.1 (fun e => NG.out (Eq.symm e)), (keep_one y4 ⟨g8, j * 6 + 5, none⟩ _).cell Z.2.2.2.2.2.2.2.1 (fun e => NG.out (Eq.symm e)), (keep_one y4 ⟨g8, j * 6 + 5, none⟩ _).cell Z.2.2.2.2.2.2.2.2.1 (fun e => NG.out (Eq.symm e)), (keep_one y4 ⟨g8, j * 6 + 5, none⟩ _).cell Z.2.2.2.2.2.2.2.2.2.1 (fun e => NG.out (Eq.symm e)), (keep_one y4 ⟨g8, j * 6 + 5, none⟩ _).cell Z.2.2.2.2.2.2.2.2.2.2.1 (fun e => NG.out (Eq.symm e)), (keep_one y4 ⟨g8, j * 6 + 5, none⟩ _).cell Z.2.2.2.2.2.2.2.2.2.2.2 (fun e => NG.out (Eq.symm e))⟩)) (fun hHeld => ?_)
                clear hK K
                (try simp only [tA, tS, tZ, Act.put, uA, uS, uZ])
                refine wpAnyH_done (by kernel_rfl) ?_ _
                go_wp2_with fail; go_roundw; (case rel => first | exact NEW.out | exact ⟨_, _, _, NEW.out, rfl, rfl, rfl⟩ | exact ⟨_, _, NEW.out, rfl, rfl⟩); (case measure => (simp [intOf]; omega))
              · go_simp
                refine CC.out.mono ?_; rintro e w5 ⟨A3, c3', rfl, o5, k5⟩; have AFT := Lib.hid (deal_call (QD.out.quiet k5) (KD.out.trans k5) HZ.out (QO.out.keep k5 fun _ _ _ => id) (OwnB.ownM o5) (fun b hb => ⟨Decidable.byContradiction fun c => by have := (QD.out.free b c).1; have := (OwnB.lt o5 hb).1; omega, id, Nat.le_trans KD.out.size (OwnB.lt o5 hb).1⟩) EZ.out EX.out rfl HJ.out); have OWN := Lib.hid (QO.out.keep k5 fun _ _ _ => id).own; have S5 := Lib.hid (show w5.cell? ⟨N, 0, none⟩ = some (.int .i64 2) ∧ w5.cell? ⟨N, 1, none⟩ = some (.int .i64 tt) ∧ w5.cell? ⟨N, 2, none⟩ = some (.int .u64 nn) ∧ w5.cell? ⟨N, 3, none⟩ = some (.int .i64 ok) ∧ w5.cell? ⟨N, 4, none⟩ = some (.int .i64 oy) ∧ w5.cell? ⟨N, 5, none⟩ = some (.int .i64 oh) ∧ w5.cell? ⟨N, 6, none⟩ = some (.int .i64 ov) ∧ w5.cell? ⟨N, 7, none⟩ = some (.int .i64 re) ∧ w5.cell? ⟨N, 8, none⟩ = some (.int .i64 rv) ∧ w5.cell? ⟨N, 9, none⟩ = some (.slice A2 pl c2) ∧ w5.cell? ⟨N, 10, none⟩ = some (.int .i64 ro) ∧ w5.cell? ⟨N, 11, none⟩ = some (.int .i64 rr) from (by have Z := SD.out; exact ⟨k5.cell Z.1 id, k5.cell Z.2.1 id, k5.cell Z.2.2.1 id, k5.cell Z.2.2.2.1 id, k5.cell Z.2.2.2.2.1 id, k5.cell Z.2.2.2.2.2.1 id, k5.cell Z.2.2.2.2.2.2.1 id, k5.cell Z.2.2.2.2.2.2.2.1 id, k5.cell Z.2.2.2.2.2.2.2.2.1 id, k5.cell Z.2.2.2.2.2.2.2.2.2.1 id, k5.cell Z.2.2.2.2.2.2.2.2.2.2.1 id, k5.cell Z.2.2.2.2.2.2.2.2.2.2.2 id⟩)); have e6 : w5.cell? ⟨g8, j * 6 + 5, none⟩ = some (.slice A0 q0 cc0) := k5.cell (show V.drew.cell? ⟨g8, j * 6 + 5, none⟩ = _ from e5) id; have lg9 : g8 < w5.heap.size := lt_of_cell (a := ⟨g8, j * 6 + 5, none⟩) e6; clear o5 k5; refine hK.out _ _ S5.out (fun hHeld => ?_)
                clear hK K
                (try simp only [tA, tS, tZ, Act.put, uA, uS, uZ])
                refine wpAnyH_ready (rs := [4, 7]) (by kernel_rfl) (by simp) ?_
                refine AllReadyH.cons rfl (fun K hK => ?_) (AllReadyH.cons rfl (fun K hK => ?_) AllReadyH.nil)
                · go_simp
                  refine hK.out _ _ hHeld (fun hHeld => ?_)
                  clear hK K
                  (try simp only [tA, tS, tZ, Act.put, uA, uS, uZ])
                  refine wpAnyH_ready (rs := [7]) (by kernel_rfl) (by simp) ?_
                  refine AllReadyH.cons rfl (fun K hK => ?_) AllReadyH.nil
                  go_simp
                  refine hK.out _ _ (by have Z := S5.out; exact ⟨(Keep.alloc (Keep.refl (fun _ => False) _) _).cell Z.1 id, (Keep.alloc (Keep.refl (fun _ => False) _) _).cell Z.2.1 id, (Keep.alloc (Keep.refl (fun _ => False) _) _).cell Z.2.2.1 id, (Keep.alloc (Keep.refl (fun _ => False) _) _).cell Z.2.2.2.1 id, (Keep.alloc (Keep.refl (fun _ => False) _) _).cell Z.2.2.2.2.1 id, (Keep.alloc (Keep.refl (fun _ => False) _) _).cell Z.2.2.2.2.2.1 id, (Keep.alloc (Keep.refl (fun _ => False) _) _).cell Z.2.2.2.2.2.2.1 id, (Keep.alloc (Keep.refl (fun _ => False) _) _).cell Z.2.2.2.2.2.2.2.1 id, (Keep.alloc (Keep.refl (fun _ => False) _) _).cell Z.2.2.2.2.2.2.2.2.1 id, (Keep.alloc (Keep.refl (fun _ => False) _) _).cell Z.2.2.2.2.2.2.2.2.2.1 id, (Keep.alloc (Keep.refl (fun _ => False) _) _).cell Z.2.2.2.2.2.2.2.2.2.2.1 id, (Keep.alloc (Keep.refl (fun _ => False) _) _).cell Z.2.2.2.2.2.2.2.2.2.2.2 id⟩) (fun hHeld => ?_)
                  clear hK K
                  (try simp only [tA, tS, tZ, Act.put, uA, uS, uZ])
                  refine wpAnyH_ready (rs := [8]) (by kernel_rfl) (by simp) ?_
                  refine AllReadyH.cons rfl (fun K hK => ?_) AllReadyH.nil
                  refine step_pushM1 Tryd.underlying71 info_cl rfl (by decide) (by decide) callF_len rfl (.tmp 69) (.tmp 72) rfl _ ys (by rfl) OWN.out ((⟨ok, oy, oh, ov⟩, ⟨re, rv, ps, ro, rr⟩), .slice A3 pl c3') (callF_one A3 pl c3' _) (by rfl) LY.out ?_
                  intro g4 cc4 y4 o4 k4 hg4
                  obtain ⟨⟨uu, cu⟩, fu, _, rfl, FD⟩ := AFT.out g4 cc4 y4 o4 k4 hg4
                  have NEW := Lib.hid FD
                  rw [ZK.out] at NEW
                  have SY := Lib.hid (show y4.cell? ⟨N, 0, none⟩ = some (.int .i64 2) ∧ y4.cell? ⟨N, 1, none⟩ = some (.int .i64 tt) ∧ y4.cell? ⟨N, 2, none⟩ = some (.int .u64 nn) ∧ y4.cell? ⟨N, 3, none⟩ = some (.int .i64 ok) ∧ y4.cell? ⟨N, 4, none⟩ = some (.int .i64 oy) ∧ y4.cell? ⟨N, 5, none⟩ = some (.int .i64 oh) ∧ y4.cell? ⟨N, 6, none⟩ = some (.int .i64 ov) ∧ y4.cell? ⟨N, 7, none⟩ = some (.int .i64 re) ∧ y4.cell? ⟨N, 8, none⟩ = some (.int .i64 rv) ∧ y4.cell? ⟨N, 9, none⟩ = some (.slice A2 pl c2) ∧ y4.cell? ⟨N, 10, none⟩ = some (.int .i64 ro) ∧ y4.cell? ⟨N, 11, none⟩ = some (.int .i64 rr) from (by have Z := S5.out; exact ⟨k4.cell Z.1 NQ.out, k4.cell Z.2.1 NQ.out, k4.cell Z.2.2.1 NQ.out, k4.cell Z.2.2.2.1 NQ.out, k4.cell Z.2.2.2.2.1 NQ.out, k4.cell Z.2.2.2.2.2.1 NQ.out, k4.cell Z.2.2.2.2.2.2.1 NQ.out, k4.cell Z.2.2.2.2.2.2.2.1 NQ.out, k4.cell Z.2.2.2.2.2.2.2.2.1 NQ.out, k4.cell Z.2.2.2.2.2.2.2.2.2.1 NQ.out, k4.cell Z.2.2.2.2.2.2.2.2.2.2.1 NQ.out, k4.cell Z.2.2.2.2.2.2.2.2.2.2.2 NQ.out⟩))
                  clear o4 k4 hg4 FD
                  refine hK.out _ _ SY.out (fun hHeld => ?_)
                  clear hK K
                  (try simp only [tA, tS, tZ, Act.put, uA, uS, uZ])
                  refine wpAnyH_take (i := 9) (v := ?qvu28) rfl (by kernel_rfl) (by kernel_rfl) (by kernel_rfl) (fun _ _ _ h => h) (Or.inl ⟨by rfl, ?qyu28⟩) (by assumption) ?qru28; case qyu28 => ((intro w hSw; (try dsimp only at hSw); go_simp); try (with_reducible rfl))
                  (try simp only [tA, tS, tZ, Act.put, uA, uS, uZ])
                  refine wpAnyH_take (i := 10) (v := ?qvu29) rfl (by kernel_rfl) (by kernel_rfl) (by kernel_rfl) (fun _ _ _ h => h) (Or.inl ⟨by rfl, ?qyu29⟩) (by assumption) ?qru29; case qyu29 => ((intro w hSw; (try dsimp only at hSw); go_simp); try (with_reducible rfl))
                  (try simp only [tA, tS, tZ, Act.put, uA, uS, uZ])
                  refine wpAnyH_ready (rs := [11]) (by kernel_rfl) (by simp) ?_
                  refine AllReadyH.cons rfl (fun K hK => ?_) AllReadyH.nil
                  go_simp
                  go_simp
                  refine hK.out _ _ (show (y4.setCell ⟨g8, j * 6 + 5, none⟩ _).cell? ⟨N, 0, none⟩ = some (.int .i64 2) ∧ (y4.setCell ⟨g8, j * 6 + 5, none⟩ _).cell? ⟨N, 1, none⟩ = some (.int .i64 tt) ∧ (y4.setCell ⟨g8, j * 6 + 5, none⟩ _).cell? ⟨N, 2, none⟩ = some (.int .u64 nn) ∧ (y4.setCell ⟨g8, j * 6 + 5, none⟩ _).cell? ⟨N, 3, none⟩ = some (.int .i64 ok) ∧ (y4.setCell ⟨g8, j * 6 + 5, none⟩ _).cell? ⟨N, 4, none⟩ = some (.int .i64 oy) ∧ (y4.setCell ⟨g8, j * 6 + 5, none⟩ _).cell? ⟨N, 5, none⟩ = some (.int .i64 oh) ∧ (y4.setCell ⟨g8, j * 6 + 5, none⟩ _).cell? ⟨N, 6, none⟩ = some (.int .i64 ov) ∧ (y4.setCell ⟨g8, j * 6 + 5, none⟩ _).cell? ⟨N, 7, none⟩ = some (.int .i64 re) ∧ (y4.setCell ⟨g8, j * 6 + 5, none⟩ _).cell? ⟨N, 8, none⟩ = some (.int .i64 rv) ∧ (y4.setCell ⟨g8, j * 6 + 5, none⟩ _).cell? ⟨N, 9, none⟩ = some (.slice A2 pl c2) ∧ (y4.setCell ⟨g8, j * 6 + 5, none⟩ _).cell? ⟨N, 10, none⟩ = some (.int .i64 ro) ∧ (y4.setCell ⟨g8, j * 6 + 5, none⟩ _).cell? ⟨N, 11, none⟩ = some (.int .i64 rr) from (by have Z := SY.out; exact ⟨(keep_one y4 ⟨g8, j * 6 + 5, none⟩ _).cell Z.1 (fun e => NG.out (Eq.symm e)), (keep_one y4 ⟨g8, j * 6 + 5, none⟩ _).cell Z.2.1 (fun e => NG.out (Eq.symm e)), (keep_one y4 ⟨g8, j * 6 + 5, none⟩ _).cell Z.2.2.1 (fun e => NG.out (Eq.symm e)), (keep_one y4 ⟨g8, j * 6 + 5, none⟩ _).cell Z.2.2.2.1 (fun e => NG.out (Eq.symm e)), (keep_one y4 ⟨g8, j * 6 + 5, none⟩ _).cell Z.2.2.2.2.1 (fun e => NG.out (Eq.symm e)), (keep_one y4 ⟨g8, j * 6 + 5, none⟩ _).cell Z.2.2.2.2.2.1 (fun e => NG.out (Eq.symm e)), (keep_one y4 ⟨g8, j * 6 + 5, none⟩ _).cell Z.2.2.2.2.2.2.1 (fun e => NG.out (Eq.symm e)), (keep_one y4 ⟨g8, j * 6 + 5, none⟩ _).cell Z.2.2.2.2.2.2.2.1 (fun e => NG.out (Eq.symm e)), (keep_one y4 ⟨g8, j * 6 + 5, none⟩ _).cell Z.2.2.2.2.2.2.2.2.1 (fun e => NG.out (Eq.symm e)), (keep_one y4 ⟨g8, j * 6 + 5, none⟩ _).cell Z.2.2.2.2.2.2.2.2.2.1 (fun e => NG.out (Eq.symm e)), (keep_one y4 ⟨g8, j * 6 + 5, none⟩ _).cell Z.2.2.2.2.2.2.2.2.2.2.1 (fun e => NG.out (Eq.symm e)), (keep_one y4 ⟨g8, j * 6 + 5, none⟩ _).cell Z.2.2.2.2.2.2.2.2.2.2.2 (fun e => NG.out (Eq.symm e))⟩)) (fun hHeld => ?_)
                  clear hK K
                  (try simp only [tA, tS, tZ, Act.put, uA, uS, uZ])
                  refine wpAnyH_done (by kernel_rfl) ?_ _
                  go_wp2_with fail; go_roundw; (case rel => first | exact NEW.out | exact ⟨_, _, _, NEW.out, rfl, rfl, rfl⟩ | exact ⟨_, _, NEW.out, rfl, rfl⟩); (case measure => (simp [intOf]; omega))
                · go_simp
                  refine hK.out _ _ (by have Z := S5.out; exact ⟨(Keep.alloc (Keep.refl (fun _ => False) _) _).cell Z.1 id, (Keep.alloc (Keep.refl (fun _ => False) _) _).cell Z.2.1 id, (Keep.alloc (Keep.refl (fun _ => False) _) _).cell Z.2.2.1 id, (Keep.alloc (Keep.refl (fun _ => False) _) _).cell Z.2.2.2.1 id, (Keep.alloc (Keep.refl (fun _ => False) _) _).cell Z.2.2.2.2.1 id, (Keep.alloc (Keep.refl (fun _ => False) _) _).cell Z.2.2.2.2.2.1 id, (Keep.alloc (Keep.refl (fun _ => False) _) _).cell Z.2.2.2.2.2.2.1 id, (Keep.alloc (Keep.refl (fun _ => False) _) _).cell Z.2.2.2.2.2.2.2.1 id, (Keep.alloc (Keep.refl (fun _ => False) _) _).cell Z.2.2.2.2.2.2.2.2.1 id, (Keep.alloc (Keep.refl (fun _ => False) _) _).cell Z.2.2.2.2.2.2.2.2.2.1 id, (Keep.alloc (Keep.refl (fun _ => False) _) _).cell Z.2.2.2.2.2.2.2.2.2.2.1 id, (Keep.alloc (Keep.refl (fun _ => False) _) _).cell Z.2.2.2.2.2.2.2.2.2.2.2 id⟩) (fun hHeld => ?_)
                  clear hK K
                  (try simp only [tA, tS, tZ, Act.put, uA, uS, uZ])
                  refine wpAnyH_ready (rs := [4]) (by kernel_rfl) (by simp) ?_
                  refine AllReadyH.cons rfl (fun K hK => ?_) AllReadyH.nil
                  go_simp
                  refine hK.out _ _ hHeld (fun hHeld => ?_)
                  clear hK K
                  (try simp only [tA, tS, tZ, Act.put, uA, uS, uZ])
                  refine wpAnyH_ready (rs := [8]) (by kernel_rfl) (by simp) ?_
                  refine AllReadyH.cons rfl (fun K hK => ?_) AllReadyH.nil
                  refine step_pushM1 Tryd.underlying71 info_cl rfl (by decide) (by decide) callF_len rfl (.tmp 69) (.tmp 72) rfl _ ys (by rfl) OWN.out ((⟨ok, oy, oh, ov⟩, ⟨re, rv, ps, ro, rr⟩), .slice A3 pl c3') (callF_one A3 pl c3' _) (by rfl) LY.out ?_
                  intro g4 cc4 y4 o4 k4 hg4
                  obtain ⟨⟨uu, cu⟩, fu, _, rfl, FD⟩ := AFT.out g4 cc4 y4 o4 k4 hg4
                  have NEW := Lib.hid FD
                  rw [ZK.out] at NEW
                  have SY := Lib.hid (show y4.cell? ⟨N, 0, none⟩ = some (.int .i64 2) ∧ y4.cell? ⟨N, 1, none⟩ = some (.int .i64 tt) ∧ y4.cell? ⟨N, 2, none⟩ = some (.int .u64 nn) ∧ y4.cell? ⟨N, 3, none⟩ = some (.int .i64 ok) ∧ y4.cell? ⟨N, 4, none⟩ = some (.int .i64 oy) ∧ y4.cell? ⟨N, 5, none⟩ = some (.int .i64 oh) ∧ y4.cell? ⟨N, 6, none⟩ = some (.int .i64 ov) ∧ y4.cell? ⟨N, 7, none⟩ = some (.int .i64 re) ∧ y4.cell? ⟨N, 8, none⟩ = some (.int .i64 rv) ∧ y4.cell? ⟨N, 9, none⟩ = some (.slice A2 pl c2) ∧ y4.cell? ⟨N, 10, none⟩ = some (.int .i64 ro) ∧ y4.cell? ⟨N, 11, none⟩ = some (.int .i64 rr) from (by have Z := S5.out; exact ⟨k4.cell Z.1 NQ.out, k4.cell Z.2.1 NQ.out, k4.cell Z.2.2.1 NQ.out, k4.cell Z.2.2.2.1 NQ.out, k4.cell Z.2.2.2.2.1 NQ.out, k4.cell Z.2.2.2.2.2.1 NQ.out, k4.cell Z.2.2.2.2.2.2.1 NQ.out, k4.cell Z.2.2.2.2.2.2.2.1 NQ.out, k4.cell Z.2.2.2.2.2.2.2.2.1 NQ.out, k4.cell Z.2.2.2.2.2.2.2.2.2.1 NQ.out, k4.cell Z.2.2.2.2.2.2.2.2.2.2.1 NQ.out, k4.cell Z.2.2.2.2.2.2.2.2.2.2.2 NQ.out⟩))
                  clear o4 k4 hg4 FD
                  refine hK.out _ _ SY.out (fun hHeld => ?_)
                  clear hK K
                  (try simp only [tA, tS, tZ, Act.put, uA, uS, uZ])
                  refine wpAnyH_take (i := 9) (v := ?qvu30) rfl (by kernel_rfl) (by kernel_rfl) (by kernel_rfl) (fun _ _ _ h => h) (Or.inl ⟨by rfl, ?qyu30⟩) (by assumption) ?qru30; case qyu30 => ((intro w hSw; (try dsimp only at hSw); go_simp); try (with_reducible rfl))
                  (try simp only [tA, tS, tZ, Act.put, uA, uS, uZ])
                  refine wpAnyH_take (i := 10) (v := ?qvu31) rfl (by kernel_rfl) (by kernel_rfl) (by kernel_rfl) (fun _ _ _ h => h) (Or.inl ⟨by rfl, ?qyu31⟩) (by assumption) ?qru31; case qyu31 => ((intro w hSw; (try dsimp only at hSw); go_simp); try (with_reducible rfl))
                  (try simp only [tA, tS, tZ, Act.put, uA, uS, uZ])
                  refine wpAnyH_ready (rs := [11]) (by kernel_rfl) (by simp) ?_
                  refine AllReadyH.cons rfl (fun K hK => ?_) AllReadyH.nil
                  go_simp
                  go_simp
                  refine hK.out _ _ (show (y4.setCell ⟨g8, j * 6 + 5, none⟩ _).cell? ⟨N, 0, none⟩ = some (.int .i64 2) ∧ (y4.setCell ⟨g8, j * 6 + 5, none⟩ _).cell? ⟨N, 1, none⟩ = some (.int .i64 tt) ∧ (y4.setCell ⟨g8, j * 6 + 5, none⟩ _).cell? ⟨N, 2, none⟩ = some (.int .u64 nn) ∧ (y4.setCell ⟨g8, j * 6 + 5, none⟩ _).cell? ⟨N, 3, none⟩ = some (.int .i64 ok) ∧ (y4.setCell ⟨g8, j * 6 + 5, none⟩ _).cell? ⟨N, 4, none⟩ = some (.int .i64 oy) ∧ (y4.setCell ⟨g8, j * 6 + 5, none⟩ _).cell? ⟨N, 5, none⟩ = some (.int .i64 oh) ∧ (y4.setCell ⟨g8, j * 6 + 5, none⟩ _).cell? ⟨N, 6, none⟩ = some (.int .i64 ov) ∧ (y4.setCell ⟨g8, j * 6 + 5, none⟩ _).cell? ⟨N, 7, none⟩ = some (.int .i64 re) ∧ (y4.setCell ⟨g8, j * 6 + 5, none⟩ _).cell? ⟨N, 8, none⟩ = some (.int .i64 rv) ∧ (y4.setCell ⟨g8, j * 6 + 5, none⟩ _).cell? ⟨N, 9, none⟩ = some (.slice A2 pl c2) ∧ (y4.setCell ⟨g8, j * 6 + 5, none⟩ _).cell? ⟨N, 10, none⟩ = some (.int .i64 ro) ∧ (y4.setCell ⟨g8, j * 6 + 5, none⟩ _).cell? ⟨N, 11, none⟩ = some (.int .i64 rr) from (by have Z := SY.out; exact ⟨(keep_one y4 ⟨g8, j * 6 + 5, none⟩ _).cell Z.1 (fun e => NG.out (Eq.symm e)), (keep_one y4 ⟨g8, j * 6 + 5, none⟩ _).cell Z.2.1 (fun e => NG.out (Eq.symm e)), (keep_one y4 ⟨g8, j * 6 + 5, none⟩ _).cell Z.2.2.1 (fun e => NG.out (Eq.symm e)), (keep_one y4 ⟨g8, j * 6 + 5, none⟩ _).cell Z.2.2.2.1 (fun e => NG.out (Eq.symm e)), (keep_one y4 ⟨g8, j * 6 + 5, none⟩ _).cell Z.2.2.2.2.1 (fun e => NG.out (Eq.symm e)), (keep_one y4 ⟨g8, j * 6 + 5, none⟩ _).cell Z.2.2.2.2.2.1 (fun e => NG.out (Eq.symm e)), (keep_one y4 ⟨g8, j * 6 + 5, none⟩ _).cell Z.2.2.2.2.2.2.1 (fun e => NG.out (Eq.symm e)), (keep_one y4 ⟨g8, j * 6 + 5, none⟩ _).cell Z.2.2.2.2.2.2.2.1 (fun e => NG.out (Eq.symm e)), (keep_one y4 ⟨g8, j * 6 + 5, none⟩ _).cell Z.2.2.2.2.2.2.2.2.1 (fun e => NG.out (Eq.symm e)), (keep_one y4 ⟨g8, j * 6 + 5, none⟩ _).cell Z.2.2.2.2.2.2.2.2.2.1 (fun e => NG.out (Eq.symm e)), (keep_one y4 ⟨g8, j * 6 + 5, none⟩ _).cell Z.2.2.2.2.2.2.2.2.2.2.1 (fun e => NG.out (Eq.symm e)), (keep_one y4 ⟨g8, j * 6 + 5, none⟩ _).cell Z.2.2.2.2.2.2.2.2.2.2.2 (fun e => NG.out (Eq.symm e))⟩)) (fun hHeld => ?_)
                  clear hK K
                  (try simp only [tA, tS, tZ, Act.put, uA, uS, uZ])
                  refine wpAnyH_done (by kernel_rfl) ?_ _
                  go_wp2_with fail; go_roundw; (case rel => first | exact NEW.out | exact ⟨_, _, _, NEW.out, rfl, rfl, rfl⟩ | exact ⟨_, _, NEW.out, rfl, rfl⟩); (case measure => (simp [intOf]; omega))
            · have dk : (kd == 2) = false := by simpa using h2
              have NEW := Lib.hid (show D2 w1 z es u5 (.int .i64 ((i : Int) + 1)) V from ⟨i + 1, o3, zs, by rw [EN.out]; omega, by go_num, by rw [deals_other EX.out h2]; exact ez, Q2, kr2⟩)
              clear CL Q2 kr2 ez oN TX h2
              go_wp2_with fail; go_roundw; (case rel => first | exact NEW.out | exact ⟨_, _, _, NEW.out, rfl, rfl, rfl⟩ | exact ⟨_, _, NEW.out, rfl, rfl⟩); (case measure => (simp [intOf]; omega))
          · obtain rfl : i = n := by omega
            have FIN := Lib.hid (show DealsIn wr u5 (dealsOf z es) from by
              have := Q.deals
              rw [ez, List.take_of_length_le (by rw [EN.out]; exact Nat.le_refl _)] at this
              exact this)
            have KF := Lib.hid (K1.out.trans kr)
            clear Q kr ez hi hlt
            go_wp2
            first | go_ret2 | refine bodyPost_ret (v := u5) (by simp [results, Tryd.results11, go_sem]) rfl ?_
            exact ⟨_, rfl, KF.out, fun _ => ⟨z, HG.out, FIN.out⟩, fun e => absurd rfl e⟩
  · have d1 : decide (a < 0) = false := by rw [LT]; exact decide_eq_false h1
    have d3 : 0 ≤ a := by have := of_decide_eq_false d1; omega
    have d2 : decide (0 ≤ a) = true := decide_eq_true d3
    clear LT
    go_enter Tryd.func11, Tryd.ntmps11
    go_wp2_with fail
    refine F.mono ?_
    rintro e w1 ⟨h, rfl, k1, _⟩
    go_wp2
    first | go_ret2 | refine bodyPost_ret (v := .slice none 0 0) (by simp [results, Tryd.results11, go_sem]) rfl ?_
    exact ⟨_, rfl, k1, fun e => absurd e h1, fun _ => rfl⟩
end
end Go.Proofs.YtalkfnblnlcklaaDoor
