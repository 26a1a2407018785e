/- Package writes as landed, third part: within (the writes of a range, sorted) and Over; conditions: what a Set always keeps; pairs at most 10,000. -/
import Derived.Test.YthojmdjcfkadoaaWrS
import Derived.Laws.AppendOwnNone
import Derived.OwnWalk
namespace Go.Proofs.Ythojmdjcfkadoaa
open Go.ChangeShapes Go.WideShapes Go.ChangeAt Go.RowKit
set_option linter.unusedVariables false

section
variable {w w' : World} {t : Nat} {s : List WrI} {v : Value} {T : Nat → Prop} {l : List PrI}
def inR (lo hi : Int) (x : WrI) : Bool := decide (lo ≤ x.k) && decide (x.k ≤ hi)
def filt (lo hi : Int) (s : List WrI) (j : Nat) : List WrI := (s.take j).filter (inR lo hi)
theorem filt_len (lo hi : Int) (s : List WrI) (j : Nat) : (filt lo hi s j).length ≤ s.length :=
  Nat.le_trans (List.length_filter_le _ _) (by rw [List.length_take]; omega)
theorem filt_next {lo hi : Int} {s : List WrI} {j : Nat} {x : WrI} (hx : s[j]? = some x) : filt lo hi s (j + 1) = if inR lo hi x then filt lo hi s j ++ [x] else filt lo hi s j := by
  unfold filt
  rw [List.take_add_one, hx, List.filter_append]
  cases h : inR lo hi x <;> simp [h]
set_option maxRecDepth 100000 in
set_option maxHeartbeats 1000000 in
theorem within_any (h : WrA w t s v) (lo hi : Int) :
    Calls Try.prog 22 #[.pointer (some ⟨t, 0, none⟩), .int .i64 lo, .int .i64 hi] w fun e w' => ∃ u ws, e = .returned u ∧ LiesW w' u ws ∧ Within s lo hi ws ∧ Keep (fun _ => False) w w' := by
  obtain ⟨A, c, rfl, hA0, hA1⟩ := wr_shape h.r
  have cl := h.cl
  have o := h.r
  have sh := h.short
  have H := Lib.hid h
  obtain ⟨n, en⟩ : ∃ n, s.length = n := ⟨_, rfl⟩
  have EN := Lib.hid en
  rw [en] at cl o sh
  clear h en
  go_enter Try.func22, Try.ntmps22
  go_wp2
  go_loopw [7, 15] (fun u q wr => ∃ j : Nat, j ≤ n ∧ q = .int .i64 j ∧ Keep (fun _ => False) w wr ∧ OwnW w.heap.size wr u (filt lo hi s j)) (fun _ q _ => n - (intOf q).toNat)
  case atStart => exact ⟨0, Nat.zero_le _, rfl, Keep.refl _ w, World.ownsRow_nil _ _ _ _⟩
  case round =>
    obtain ⟨j, hj, rfl, bl, O⟩ := hrel
    by_cases hlt : j < n
    · cases A with
      | none => have := EN.out; rw [hA0 rfl] at this; simp at this; omega
      | some ad =>
        obtain ⟨g, rfl⟩ := hA1 _ rfl
        have hj2 : j < s.length := by rw [EN.out]; exact hlt
        obtain ⟨x, hx⟩ : ∃ x, s[j]? = some x := ⟨_, List.getElem?_eq_getElem hj2⟩
        obtain ⟨c0, c1, c2⟩ := wr_cells (o.keep bl (by simp)) j x hx
        have fn := filt_next (lo := lo) (hi := hi) hx
        have fl := filt_len lo hi s j
        have wk : IntKind.i64.wrap ((j : Int) + 1) = (j : Int) + 1 := IntWalk.i64_in _ (by omega)
        have k2 : Keep (fun _ => False) w (wr.alloc (.cells #[.int .i64 x.k, .int .i64 x.v, .bool x.g] 38)) := bl.alloc _
        have O2 : OwnW w.heap.size (wr.alloc (.cells #[.int .i64 x.k, .int .i64 x.v, .bool x.g] 38)) u7 (filt lo hi s j) := OwnW.keep O ((Keep.refl (fun _ => False) wr).alloc _) (by simp)
        have O2 := Lib.hid O2
        have K2 := Lib.hid k2
        have FN := Lib.hid fn
        have FL := Lib.hid fl
        clear O k2 fn fl hx o hA0 hA1
        by_cases h1 : lo ≤ x.k
        · by_cases h2 : x.k ≤ hi
          · have e1 : filt lo hi s (j + 1) = filt lo hi s j ++ [x] := by rw [FN.out, if_pos (by unfold inR; rw [decide_eq_true h1, decide_eq_true h2]; rfl)]
            go_wp2_with (with_reducible refine wp_stop 32 rfl ?_)
            intro _
            refine wp_pushW rfl (.tmp 29) (.tmp 31) rfl w.heap.size K2.out.size u7 (filt lo hi s j) rfl O2.out x (by rw [World.size_alloc]; rfl) (by have := FL.out; have := EN.out; omega) ?_
            intro g4 c4 y4 o4 k4 hg4
            rw [← e1] at o4
            have K4 := Lib.hid (K2.out.older k4 (fun g hg => (OwnW.lt O2.out hg).1))
            obtain ⟨m4, em4⟩ : ∃ m, (filt lo hi s j).length + 1 = m := ⟨_, rfl⟩
            rw [em4] at o4 ⊢
            have O4 := Lib.hid o4
            clear o4 k4 hg4 e1 em4 c0 c1 c2
            go_wp2
            first | exact ⟨⟨j + 1, by omega, by go_num, K4.out, O4.out⟩, by simp [intOf]; omega⟩ | (refine ⟨?rel2, ?meas2⟩; (case meas2 => (simp [intOf]; omega)); (case rel2 => ((repeat apply Exists.intro); exact ⟨⟨j + 1, by omega, by go_num, K4.out, O4.out⟩, rfl⟩)))
          · have e1 : filt lo hi s (j + 1) = filt lo hi s j := by rw [FN.out, if_neg (by unfold inR; rw [decide_eq_true h1, decide_eq_false h2]; simp)]
            have O3 := O2.out
            rw [← e1] at O3
            have O4 := Lib.hid O3
            clear O3 e1
            go_wp2
            first | exact ⟨⟨j + 1, by omega, by go_num, K2.out, O4.out⟩, by simp [intOf]; omega⟩ | (refine ⟨?rel2, ?meas2⟩; (case meas2 => (simp [intOf]; omega)); (case rel2 => ((repeat apply Exists.intro); exact ⟨⟨j + 1, by omega, by go_num, K2.out, O4.out⟩, rfl⟩)))
        · have e1 : filt lo hi s (j + 1) = filt lo hi s j := by rw [FN.out, if_neg (by unfold inR; rw [decide_eq_false h1]; simp)]
          have O3 := O2.out
          rw [← e1] at O3
          have O4 := Lib.hid O3
          clear O3 e1
          go_wp2
          first | exact ⟨⟨j + 1, by omega, by go_num, K2.out, O4.out⟩, by simp [intOf]; omega⟩ | (refine ⟨?rel2, ?meas2⟩; (case meas2 => (simp [intOf]; omega)); (case rel2 => ((repeat apply Exists.intro); exact ⟨⟨j + 1, by omega, by go_num, K2.out, O4.out⟩, rfl⟩)))
    · obtain rfl : j = n := by omega
      have ef : filt lo hi s j = s.filter (inR lo hi) := by unfold filt; rw [← EN.out, List.take_length]
      rw [ef] at O
      have hs := sort_any O (Nat.le_trans (List.length_filter_le _ _) (by rw [EN.out]; omega))
      have lo' : ∀ g, u7.ownBlock = some g → w.heap.size ≤ g := fun g hg => (OwnW.lt O hg).1
      have FIN : ∀ w1 ws, ws.Perm (s.filter (inR lo hi)) → ws.Pairwise (fun a b => a.k ≤ b.k) → Keep (fun j => u7.ownBlock = some j) wr w1 → Within s lo hi ws ∧ Keep (fun _ => False) w w1 := fun w1 ws h1 h2 h3 =>
        ⟨within_perm H.out.nd (fun x hx => ⟨(H.out.kb x hx).1, (H.out.kb x hx).2.1⟩) h1 (sortW_of h2 ((h1.map WrI.k).nodup_iff.2 (List.Sublist.nodup (List.filter_sublist.map WrI.k) H.out.nd))), bl.older h3 lo'⟩
      have FIN := Lib.hid FIN
      clear hA0 hA1 o O ef lo'
      go_wp2_with fail
      refine hs.mono ?_
      rintro e w1 ⟨rfl, ws, h1, h2, h3, h4⟩
      have F := Lib.hid (FIN.out w1 ws h1 h2 h4)
      have F3 := Lib.hid h3
      clear hs h1 h2 h3 h4
      go_wp2
      go_ret
      exact ⟨u7, ws, rfl, F3.out, F.out.1, F.out.2⟩
theorem LiesP.take {A : Option Addr} {n c : Nat} (h : LiesP w (.slice A n c) l) (i : Nat) (hi : i ≤ n) : LiesP w (.slice A i c) (l.take i) := by
  obtain ⟨A', c', e, hc, hz, hf⟩ := h
  cases e
  have el : (l.take i).length = i := by rw [List.length_take]; omega
  refine ⟨A, c, by rw [el], by omega, hz, fun h0 => ?_⟩
  obtain ⟨b, off, rfl, hb, he⟩ := hf (by omega)
  refine ⟨b, off, rfl, hb, fun j p hp => he j p ?_⟩
  have hj : j < i := by have := (List.getElem?_eq_some_iff.1 hp).1; omega
  rwa [List.getElem?_take_of_lt hj] at hp
/-- 'append(l, x...)' of pairs that lie somewhere to the call's own. -/
theorem wp_appP {w : World} {ops : Array Oper} {rest : List Oper} {o : Oper} {a : Act} {Q : Exit → Act → World → Prop} (hgd : o.guard = none) (s x : Operand)
    (ho : o.op = .call { callee := .builtin .append, args := #[s, x], argTypes := #[32, 32] })
    (B : Nat) (hB : B ≤ w.heap.size) (v : Value) (zs : List PrI) (hs : a.eval s = v) (hown : OwnP B w v zs) (u : Value) (xs : List PrI) (hx : a.eval x = u) (hu : LiesP w u xs) (hl : zs.length + xs.length ≤ 100000)
    (h : ∀ v' w', OwnP B w' v' (zs ++ xs) → Keep (fun j => v.ownBlock = some j) w w' → wpList Try.prog ops Q rest (a.put o.dst v') w') : wpList Try.prog ops Q (o :: rest) a w := by
  obtain ⟨i0, hi0, hz0, hz1, hz2⟩ := info_parts info_pair
  obtain ⟨A, c, rfl, hc, hz, hf⟩ := hu
  cases A with
  | none =>
    obtain rfl : c = 0 := hz rfl
    have e0 : xs = [] := List.length_eq_zero_iff.1 (by omega)
    subst e0
    have := h v w (by rw [List.append_nil]; exact hown) (Keep.refl _ _)
    exact wpList_append_own_none hgd s x 32 ho B 31 i0 2 Try.underlying32 hi0 v zs.length _ hs hown hx this
  | some ad =>
    have fl : (xs.flatMap prC).length = xs.length * 2 := flat_len (f := prC) (m := 2) (fun _ => rfl) xs
    have hn : ∀ j y, (xs.flatMap prC)[j]? = some y → w.cell? (ad.add j) = some y := fun j y hj => by
      have lj := (List.getElem?_eq_some_iff.1 hj).1
      rw [fl] at lj
      obtain ⟨b, off, e, hb, he⟩ := hf (by omega)
      cases e
      have hi : j / 2 < xs.length := by omega
      have ej : j = j / 2 * 2 + j % 2 := by omega
      rw [ej, flat_get (f := prC) (m := 2) (fun _ => rfl) xs (j / 2) (j % 2) hi (by omega)] at hj
      obtain ⟨h0, h1⟩ := he (j / 2) _ (List.getElem?_eq_getElem hi)
      rw [add_plain]
      rcases (by omega : j % 2 = 0 ∨ j % 2 = 1) with r | r
      · rw [r] at hj
        simp only [prC, List.getElem?_cons_zero, Option.some.injEq] at hj
        rw [← hj, show off + j = off + j / 2 * 2 by omega]
        exact h0
      · rw [r] at hj
        simp only [prC, List.getElem?_cons_succ, List.getElem?_cons_zero, Option.some.injEq] at hj
        rw [← hj, show off + j = off + j / 2 * 2 + 1 by omega]
        exact h1
    have one : ∀ y ∈ xs.flatMap prC, y.oneCell' = true := fun y hy => by
      obtain ⟨p, hp, hm⟩ := List.mem_flatMap.1 hy
      simp only [prC, List.mem_cons, List.not_mem_nil, or_false] at hm
      rcases hm with rfl | rfl <;> rfl
    refine wpList_append_own _ hgd s x 32 ho B 31 i0 _ 2 16 Try.underlying32 hi0 hz0 hz1 hz2 rfl (by decide) v zs.length (zs.flatMap prC) hs hown ad xs.length c (xs.flatMap prC) hx fl hn one (by unfold maxLen; omega) (by omega) hB ?_
    intro v' w' o1 gr _
    refine h v' w' ?_ ⟨gr.os, gr.tape, gr.output, gr.size, fun j hj hn => gr.block j hj (fun e => hn e.symm)⟩
    unfold OwnP
    rw [List.length_append, List.flatMap_append]
    exact o1
theorem over_no (hv : LiesP w v l) (hr : ¬ Rising l) (hl : l.length ≤ 100000) (t : Nat) (lo hi : Int) :
    Calls Try.prog 12 #[.pointer (some ⟨t, 0, none⟩), v, .int .i64 lo, .int .i64 hi] w fun e w' => e = .returned (.slice none 0 0) ∧ Keep (fun _ => False) w w' := by
  have ha := asc_any hv false ⟨fun e => (by cases e), fun e => absurd e hr⟩ hl
  obtain ⟨A, c, rfl, _⟩ := hv.cap
  clear hv hr
  go_enter Try.func12, Try.ntmps12
  go_wp2_with fail
  refine ha.mono ?_
  rintro e w1 ⟨rfl, d, rfl⟩
  clear ha
  go_wp2
  go_ret
  exact ⟨rfl, drewN_keep _ _ _⟩
theorem LiesP.drop {A : Option Addr} {n c : Nat} (h : LiesP w (.slice A n c) l) (i : Nat) (hi : i ≤ n) : LiesP w (.slice (if c = i then A else Option.map (fun x => x.add (i * 2)) A) (n - i) (c - i)) (l.drop i) := by
  obtain ⟨A', c', e, hc, hz, hf⟩ := h
  cases e
  refine ⟨_, _, by rw [List.length_drop], by rw [List.length_drop]; omega, fun e => ?_, fun h0 => ?_⟩
  · split at e
    · rename_i q; rw [q]; omega
    · have : A = none := by cases A; rfl; cases e
      have := hz this
      omega
  · rw [List.length_drop] at h0
    obtain ⟨b, off, rfl, hb, he⟩ := hf (by omega)
    rw [if_neg (by omega)]
    refine ⟨b, off + i * 2, by simp [Addr.add], hb, fun j p hp => ?_⟩
    rw [List.getElem?_drop] at hp
    have := he (i + j) p hp
    rw [show off + i * 2 + j * 2 = off + (i + j) * 2 by omega]
    exact this
theorem rising_drop : ∀ {l : List PrI} (i : Nat), Rising l → Rising (l.drop i)
  | [], i, _ => by simp [Rising]
  | p :: l, 0, h => h
  | p :: l, i + 1, h => by simpa using rising_drop i h.2
theorem own_p_low {B B' : Nat} {v : Value} (o : OwnP B' w v l) (hB : B ≤ B') : OwnP B w v l := by
  obtain ⟨h1, h2⟩ := o
  refine ⟨h1, ?_⟩
  rcases h2 with h2 | ⟨g, c, cur, hv, hg, r⟩
  · exact .inl h2
  · exact .inr ⟨g, c, cur, hv, Nat.le_trans hB hg, r⟩
/-- How far Over has come: R is told already, L is left of the pairs. -/
structure OvR (ws : List WrI) (l : List PrI) (j : Nat) (v' u : Value) (w2 wr : World) : Prop where
  le : j ≤ ws.length
  k : Keep (fun _ => False) w2 wr
  ex : ∃ L R, LiesP w2 v' L ∧ Rising L ∧ OwnP w2.heap.size wr u R ∧ R ++ mergeW (ws.drop j) L = mergeW ws l ∧ R.length + L.length ≤ l.length + j
theorem ov_next {ws : List WrI} {j i f q c : Nat} {x : WrI} {b : Bool} {L R : List PrI} {A : Option Addr} {u : Value} {w2 w5 : World} (hx : ws[j]? = some x) (hL : LiesP w2 (.slice A q c) L) (rL : Rising L) (eR : R ++ mergeW (ws.drop j) L = mergeW ws l) (lR : R.length + L.length ≤ l.length + j)
    (F : Found L x.k i b) (k : Keep (fun _ => False) w2 w5) (o : OwnP w2.heap.size w5 u (R ++ L.take i ++ cellW x)) (hf : f = if b then i + 1 else i) :
    OvR ws l (j + 1) (.slice (if c = f then A else Option.map (fun x => x.add (f * 2)) A) (q - f) (c - f)) u w2 w5 := by
  obtain ⟨hj, ex⟩ := List.getElem?_eq_some_iff.1 hx
  have eq : q = L.length := by obtain ⟨_, _, e, _⟩ := hL; cases e; rfl
  have il := F.len
  have fl : f ≤ L.length := by
    rw [hf]
    cases b with
    | true => obtain ⟨p, hp, _⟩ := F.yes rfl; exact (List.getElem?_eq_some_iff.1 hp).1
    | false => exact il
  rw [List.drop_eq_getElem_cons hj, ex] at eR
  refine ⟨hj, k, L.drop f, R ++ L.take i ++ cellW x, hL.drop f (by omega), rising_drop f rL, o, ?_, ?_⟩
  · rw [← eR]
    have mt := merge_take (x := x) (ws := ws.drop (j + 1)) (l := L) (i := i) F.low
    cases b with
    | true => rw [hf, if_pos rfl, mt.1 (F.yes rfl)]; simp [List.append_assoc]
    | false => rw [hf, if_neg (by simp), mt.2 (F.no rfl)]; simp [List.append_assoc]
  · have := cell_len x
    have : i ≤ f := by rw [hf]; split <;> omega
    simp only [List.length_append, List.length_take, List.length_drop]
    omega
set_option maxRecDepth 100000 in
set_option maxHeartbeats 2000000 in
theorem over_ok (h : WrA w t s v) {p : Value} (hv : LiesP w p l) (hr : Rising l) (hl : l.length ≤ 10000) (lo hi : Int) :
    Calls Try.prog 12 #[.pointer (some ⟨t, 0, none⟩), p, .int .i64 lo, .int .i64 hi] w fun e w' => ∃ u r, e = .returned u ∧ OwnP w.heap.size w' u r ∧ IsOver s l lo hi r ∧ Keep (fun _ => False) w w' := by
  have ha := asc_any hv true ⟨fun _ => hr, fun _ => rfl⟩ (by omega)
  obtain ⟨A, c, rfl, _⟩ := hv.cap
  have HR := Lib.hid hr
  have HV := Lib.hid hv
  have H := Lib.hid h
  obtain ⟨n, en⟩ : ∃ n, l.length = n := ⟨_, rfl⟩
  have EN := Lib.hid en
  rw [en] at ha hl ⊢
  clear hv hr h en
  go_enter Try.func12, Try.ntmps12
  go_wp2_with fail
  refine ha.mono ?_
  rintro e w1 ⟨rfl, d, rfl⟩
  clear ha
  have k1 := drewN_keep (fun _ => False) w d
  have hw := within_any (H.out.same k1) lo hi
  go_wp2_with fail
  refine hw.mono ?_
  rintro e w2 ⟨tv, ws, rfl, hws, hin, k2⟩
  have wl := hin.len
  have k12 := k1.trans k2
  have HV2 := Lib.hid (HV.out.same k12)
  have HWS := Lib.hid hws
  have HIN := Lib.hid hin
  obtain ⟨A2, c2, rfl, hc2⟩ : ∃ A c, tv = .slice A ws.length c ∧ ws.length ≤ c := by obtain ⟨A, c, h1, h2, _⟩ := hws; exact ⟨A, c, h1, h2⟩
  obtain ⟨m, em⟩ : ∃ m, ws.length = m := ⟨_, rfl⟩
  have EM := Lib.hid em
  rw [em] at wl hc2 ⊢
  obtain ⟨i0, hi0, hz0, hz1, hz2⟩ := info_parts info_pair
  have wn : IntKind.i64.wrap ((n : Int) + (m : Int)) = ((n + m : Nat) : Int) := (IntWalk.i64_in _ (by omega)).trans (by omega)
  clear hw hws hin em k1 k2
  go_wp2_with (with_reducible refine wp_stop 27 rfl ?_)
  intro _
  refine wpList_make_own _ rfl (.const (.int .i64 0)) (.tmp 26) 32 rfl w2.heap.size 31 i0 _ 2 Try.underlying32 hi0 hz0 hz1 .i64 .i64 _ (n + m) rfl rfl (by omega) (by rw [hz2]; omega) (by unfold maxLen; omega) (Nat.le_refl _) ?_
  intro w3 o3 gr3
  have k3 : Keep (fun _ => False) w2 w3 := ⟨gr3.os, gr3.tape, gr3.output, gr3.size, fun j hj _ => gr3.block j hj (by simp)⟩
  have R0 : OvR ws l 0 (.slice A n c) (.slice (some ⟨w2.heap.size, 0, none⟩) 0 (n + m)) w2 w3 := by
    refine ⟨Nat.zero_le _, k3, l, [], ?_, HR.out, ?_, rfl, by simp⟩
    · have := HV2.out; rwa [EN.out] at this
    · unfold OwnP; simpa using o3
  have R0 := Lib.hid R0
  clear gr3 o3 hi0 hz0 hz1 hz2 wn
  go_wp2
  go_loopw [1, 10, 30] (fun v' u q wr => ∃ j : Nat, q = .int .i64 j ∧ OvR ws l j v' u w2 wr) (fun _ _ q _ => m - (intOf q).toNat)
  case atStart => exact ⟨0, rfl, R0.out⟩
  case round =>
    obtain ⟨j, rfl, RR⟩ := hrel
    have hjm : j ≤ m := by have := RR.le; rw [EM.out] at this; exact this
    obtain ⟨_, kr, L, R, hL, rL, oR, eR, lR⟩ := RR
    have wk : IntKind.i64.wrap ((j : Int) + 1) = (j : Int) + 1 := IntWalk.i64_in _ (by omega)
    have LR := Lib.hid lR
    rw [EN.out] at lR
    obtain ⟨A3, c3, rfl, hc3⟩ := hL.cap
    obtain ⟨q, eq⟩ : ∃ q, L.length = q := ⟨_, rfl⟩
    have EQ := Lib.hid eq
    rw [eq] at lR hc3 hL ⊢
    clear eq
    by_cases hlt : j < m
    · obtain ⟨x, hx⟩ : ∃ x, ws[j]? = some x := ⟨_, List.getElem?_eq_getElem (by rw [EM.out]; exact hlt)⟩
      have HX := Lib.hid hx
      have hws := HWS.out.same kr
      rw [EM.out] at hws
      obtain ⟨bw, ow, rfl, c0, c1, c2'⟩ := LiesW.at' hws j x hx
      have k4 := kr.alloc (.cells #[.int .i64 x.k, .int .i64 x.v, .bool x.g] 38)
      have hf := find_any (hL.same k4) rL (by rw [EQ.out]; omega) x.k
      clear hx
      go_wp2_with fail
      refine hf.mono ?_
      rintro e w4 ⟨i, b, rfl, hF, k5⟩
      have iq : i ≤ q := by have := hF.len; rwa [EQ.out] at this
      have k6 := Lib.hid (k4.trans k5)
      have oR4 := Lib.hid (OwnP.keep (OwnP.keep oR ((Keep.refl (fun _ => False) wr).alloc (.cells #[.int .i64 x.k, .int .i64 x.v, .bool x.g] 38)) (by simp)) k5 (by simp))
      have d0 := k5.cell (a := ⟨wr.heap.size, 0, none⟩) (v := .int .i64 x.k) (by simp) id
      have d1 := k5.cell (a := ⟨wr.heap.size, 1, none⟩) (v := .int .i64 x.v) (by simp) id
      have d2 := k5.cell (a := ⟨wr.heap.size, 2, none⟩) (v := .bool x.g) (by simp) id
      have nb : ¬ u10.ownBlock = some wr.heap.size := fun e => by have := (OwnP.lt oR e).2; omega
      have HF := Lib.hid hF
      have HL := Lib.hid hL
      have RL := Lib.hid rL
      have ER := Lib.hid eR
      have lT : (L.take i).length = i := by rw [List.length_take, EQ.out]; omega
      have lT4 : LiesP w4 (.slice A3 i c3) (L.take i) := (hL.same k6.out).take i iq
      have lA : (R ++ L.take i).length ≤ 100000 := by rw [List.length_append, lT]; omega
      have LA := Lib.hid lA
      clear hf hF k4 k5 kr hL rL oR eR c0 c1 c2' hws lA
      go_wp2_with (with_reducible refine wp_stop 45 rfl ?_)
      intro _
      refine wp_appP rfl (.tmp 41) (.tmp 44) rfl w2.heap.size k6.out.size u10 R rfl oR4.out _ (L.take i) rfl lT4 (by rw [lT]; omega) ?_
      intro u7 w5 o5 k7
      have K7 := Lib.hid (k6.out.older k7 (fun g hg => (OwnP.lt oR4.out hg).1))
      have d0 := k7.cell d0 nb
      have d1 := k7.cell d1 nb
      have d2 := k7.cell d2 nb
      have O5 := Lib.hid o5
      clear o5 k7 lT4 k6 oR4 lT nb
      have wi : IntKind.i64.wrap ((i : Int) + 1) = (i : Int) + 1 := IntWalk.i64_in _ (by omega)
      have iq2 : b = true → i + 1 ≤ q := fun e => by obtain ⟨p, hp, _⟩ := HF.out.yes e; have := (List.getElem?_eq_some_iff.1 hp).1; rw [EQ.out] at this; omega
      cases hg : x.g with
      | true =>
        rw [hg] at d2
        have O6 := Lib.hid (show OwnP w2.heap.size w5 u7 (R ++ L.take i ++ cellW x) by unfold cellW; rw [hg, if_pos rfl, List.append_nil]; exact O5.out)
        clear hg
        cases b with
        | true =>
          have iq3 := iq2 rfl
          have F := Lib.hid (ov_next HX.out HL.out RL.out ER.out LR.out HF.out K7.out O6.out (f := i + 1) rfl)
          clear iq2
          go_wp2
          first | exact ⟨⟨j + 1, by go_num, F.out⟩, by simp [intOf]; omega⟩ | (refine ⟨?rel2, ?meas2⟩; (case meas2 => (simp [intOf]; omega)); (case rel2 => ((repeat apply Exists.intro); exact ⟨⟨j + 1, by go_num, F.out⟩, rfl⟩)))
        | false =>
          have F := Lib.hid (ov_next HX.out HL.out RL.out ER.out LR.out HF.out K7.out O6.out (f := i) rfl)
          clear iq2
          go_wp2
          first | exact ⟨⟨j + 1, by go_num, F.out⟩, by simp [intOf]; omega⟩ | (refine ⟨?rel2, ?meas2⟩; (case meas2 => (simp [intOf]; omega)); (case rel2 => ((repeat apply Exists.intro); exact ⟨⟨j + 1, by go_num, F.out⟩, rfl⟩)))
      | false =>
        rw [hg] at d2
        have HG := Lib.hid hg
        clear hg
        go_wp2_with (with_reducible refine wp_stop 56 rfl ?_)
        intro _
        refine wp_pushP rfl (.tmp 49) (.tmp 55) rfl w2.heap.size K7.out.size u7 (R ++ L.take i) rfl O5.out ⟨x.k, x.v⟩ rfl LA.out ?_
        intro g6 c6 w6 o6 k8 hg6
        obtain ⟨m6, em6⟩ : ∃ m, (R ++ L.take i).length + 1 = m := ⟨_, rfl⟩
        rw [em6] at o6 ⊢
        have K8 := Lib.hid (K7.out.older k8 (fun g hg => (OwnP.lt O5.out hg).1))
        have O6 := Lib.hid (show OwnP w2.heap.size w6 (.slice (some ⟨g6, 0, none⟩) m6 c6) (R ++ L.take i ++ cellW x) by unfold cellW; rw [HG.out, if_neg (by simp)]; exact o6)
        clear o6 k8 em6
        cases b with
        | true =>
          have iq3 := iq2 rfl
          have F := Lib.hid (ov_next HX.out HL.out RL.out ER.out LR.out HF.out K8.out O6.out (f := i + 1) rfl)
          clear iq2
          go_wp2
          first | exact ⟨⟨j + 1, by go_num, F.out⟩, by simp [intOf]; omega⟩ | (refine ⟨?rel2, ?meas2⟩; (case meas2 => (simp [intOf]; omega)); (case rel2 => ((repeat apply Exists.intro); exact ⟨⟨j + 1, by go_num, F.out⟩, rfl⟩)))
        | false =>
          have F := Lib.hid (ov_next HX.out HL.out RL.out ER.out LR.out HF.out K8.out O6.out (f := i) rfl)
          clear iq2
          go_wp2
          first | exact ⟨⟨j + 1, by go_num, F.out⟩, by simp [intOf]; omega⟩ | (refine ⟨?rel2, ?meas2⟩; (case meas2 => (simp [intOf]; omega)); (case rel2 => ((repeat apply Exists.intro); exact ⟨⟨j + 1, by go_num, F.out⟩, rfl⟩)))
    · obtain rfl : j = m := by omega
      have ed : mergeW (ws.drop j) L = L := by rw [← EM.out, List.drop_length]; rfl
      rw [ed] at eR
      have OV := Lib.hid (HIN.out.over HR.out)
      have hL2 := hL.same kr
      have lRL : R.length + L.length ≤ 100000 := by rw [EQ.out]; omega
      have ER := Lib.hid eR
      clear eR ed hL rL LR
      go_wp2_with (with_reducible refine wp_stop 66 rfl ?_)
      intro _
      refine wp_appP rfl (.tmp 64) (.tmp 65) rfl w2.heap.size kr.size u10 R rfl oR _ L rfl hL2 lRL ?_
      intro u7 w5 o5 k7
      have K7 := Lib.hid (k12.trans (kr.older k7 (fun g hg => (OwnP.lt oR hg).1)))
      rw [ER.out] at o5
      have O5 := Lib.hid o5
      clear o5 k7 hL2 oR
      go_wp2
      go_ret
      exact ⟨u7, _, rfl, own_p_low O5.out k12.size, OV.out, K7.out⟩
end
end Go.Proofs.Ythojmdjcfkadoaa
