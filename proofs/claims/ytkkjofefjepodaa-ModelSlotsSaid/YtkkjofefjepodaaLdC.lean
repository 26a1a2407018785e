/- Package model as landed, in memory: slices.DeleteFunc over versions. Condition: at most 100,000 versions of a key. -/
import Derived.Test.YtkkjofefjepodaaLdU
import Derived.Deep.CutRange
import Derived.Lib.SliceRun
namespace Go.Proofs.Ytkkjofefjepodaa
open Go.ChangeShapes Go.WideShapes Go.ChangeAt Go.RowKit
set_option linter.unusedVariables false
set_option linter.unusedSimpArgs false
section
variable {w w' : World} {m g n c : Nat} {K : Nat → Value} {o : Nat → Nat} {z : LdI} {T : Nat → Prop} {F : Nat → FtI} {P : VeI → Bool} {t : TtI} {fv : Value} {l : List VeI}
theorem OwnV.row (ow : OwnV w (.slice (some ⟨g, 0, none⟩) n c) l) : ∃ cur : Array Value, n = l.length ∧ w.heap[g]? = some (.cells cur 103 (0, 0)) ∧ l.length ≤ c ∧ c ≤ maxLen ∧ cur.size = c ∧ cur.toList.take l.length = l.map fun v => ptrV v.b := by
  obtain ⟨h1, h2⟩ := id ow
  rcases h2 with ⟨h2, _⟩ | ⟨g', c', cur, hv, hb, hh, hl, hm, hs, ht⟩
  · simp at h2
  · simp at hv
    obtain ⟨rfl, rfl, rfl⟩ := hv
    exact ⟨cur, by simp, by simpa using hh, by simpa using hl, hm, by simpa using hs, by have := ht; simp only [List.length_map, Nat.mul_one, List.map_map] at this; exact this⟩
theorem OwnV.of_row {cur : Array Value} (hh : w.heap[g]? = some (.cells cur 103 (0, 0))) (hl : l.length ≤ c) (hm : c ≤ maxLen) (hs : cur.size = c) (ht : cur.toList.take l.length = l.map fun v => ptrV v.b) : OwnV w (.slice (some ⟨g, 0, none⟩) l.length c) l := by
  have e : (l.map VeI.b).length = l.length := List.length_map _
  unfold OwnV Own
  rw [e]
  exact ⟨by simp, .inr ⟨g, c, cur, rfl, Nat.zero_le _, hh, hl, hm, by simpa using hs, by rw [Nat.mul_one, List.map_map]; exact ht⟩⟩
theorem OwnV.put (ow : OwnV w (.slice (some ⟨g, 0, none⟩) n c) l) (i : Nat) (x : VeI) : OwnV (w.setCell ⟨g, i, none⟩ (ptrV x.b)) (.slice (some ⟨g, 0, none⟩) n c) (l.set i x) := by
  have := Own.set ow i x.b
  unfold OwnV
  rw [List.map_set]
  exact this
theorem IsHold.func {f : FuncId} {p : Value} (h : IsHold (.func (.func f) #[] #[p]) w F P) : (∀ (a : Array Value) (w : World), (callFunc f a).run Try.prog w = .ok (.enter f a) w) ∧ TellsV w F P f fun x => #[x, p] := by
  obtain ⟨f', p', e, hh⟩ := h.form
  rcases hh with ⟨q, hh⟩ | ⟨q, hh⟩
  · simp at q
    obtain ⟨rfl, rfl⟩ := q
    exact ⟨e, hh⟩
  · simp at q
theorem zero_ver (w : World) : (zeroValue 103).run Try.prog w = .ok (.pointer none) w := by kernel_rfl
theorem row_set : ∀ (vs : List Value) (o : Nat) (w : World) (xs : List Value), w.ownsRow 0 103 1 (.slice (some ⟨g, 0, none⟩) n c) n xs →
    ∃ xs', (w.setCells g o vs).ownsRow 0 103 1 (.slice (some ⟨g, 0, none⟩) n c) n xs' ∧ xs'.take o = xs.take o ∧ Keep (fun j => j = g) w (w.setCells g o vs)
  | [], o, w, xs, h => ⟨xs, h, rfl, Keep.refl _ _⟩
  | v :: r, o, w, xs, h => by
    obtain ⟨xs', h1, h2, k⟩ := row_set r (o + 1) _ _ (World.ownsRow.stored h o v).1
    refine ⟨xs', h1, ?_, (keep_one w ⟨g, o, none⟩ v).trans k⟩
    have := congrArg (List.take o) h2
    rw [List.take_take, List.take_take, Nat.min_eq_left (Nat.le_succ o)] at this
    rw [this]
    apply List.ext_getElem?
    intro a
    simp only [List.getElem?_take, List.getElem?_set]
    split
    · rw [if_neg (by omega)]
    · rfl
theorem OwnV.clear (ow : OwnV w (.slice (some ⟨g, 0, none⟩) n c) l) {i : Nat} (hi : i ≤ n) (vs : List Value) :
    OwnV (w.setCells g i vs) (.slice (some ⟨g, 0, none⟩) i c) (l.take i) ∧ Keep (fun j => j = g) w (w.setCells g i vs) := by
  obtain ⟨_, hn, _⟩ := ow.row
  have o2 : w.ownsRow 0 103 1 (.slice (some ⟨g, 0, none⟩) n c) n ((l.map VeI.b).map ptrV) := by
    have := ow
    unfold OwnV Own at this
    rw [List.length_map, ← hn] at this
    exact this
  obtain ⟨xs', h1, h2, k⟩ := row_set vs i w _ o2
  refine ⟨?_, k⟩
  obtain ⟨a1, a2⟩ := h1
  rcases a2 with ⟨a2, _⟩ | ⟨g', c', cur, hv, hb, hh, hl, hm, hs, ht⟩
  · simp at a2
  · simp at hv
    obtain ⟨rfl, rfl⟩ := hv
    have li : (l.take i).length = i := by rw [List.length_take, ← hn]; exact Nat.min_eq_left hi
    have := OwnV.of_row (w := w.setCells g i vs) (l := l.take i) (c := c) hh (by rw [li]; omega) hm (by simpa using hs) (by
      rw [li]
      have e := congrArg (List.take i) ht
      rw [List.take_take, h2, Nat.mul_one, Nat.min_eq_left hi] at e
      rw [e, ← List.map_take, ← List.map_take, List.map_map]
      rfl)
    rw [li] at this
    exact this
theorem wpList_clear_r {P : Program} (w : World) {ops : Array Oper} {rest : List Oper} {o : Oper} {a : Act} {Q : Exit → Act → World → Prop} (hgd : o.guard = none) (s : Operand) (t : TypeId)
    (ho : o.op = .call { callee := .builtin .clear, args := #[s], argTypes := #[t] }) (vs : Value) (hs : a.eval s = vs) {v' : Value} {w' : World}
    (hr : (Builtin.clear_ #[t] o.type #[vs]).run P w = .ok v' w') (h : wpList P ops Q rest (a.put o.dst v') w') : wpList P ops Q (o :: rest) a w := by
  refine wpList_plain hgd fun K hK => ?_
  unfold Oper.wp execOp
  simp only [ho, resolve, invoke, builtin, Sem.run_bind, Sem.run_pure, Result.andThen_ok, List.map_toArray, List.map_cons, List.map_nil, hs, hr]
  exact hK _ _ h
theorem filter_first {P : VeI → Bool} (h : l.find? P = none) : (l.filter fun v => !P v) = l := List.filter_eq_self.2 fun x hx => by have := List.find?_eq_none.1 h x hx; simpa using this
theorem take_first {P : VeI → Bool} : ∀ {l : List VeI} {i : Nat} {x : VeI}, l[i]? = some x → (∀ j y, j < i → l[j]? = some y → P y = false) → (l.take i).filter (fun v => !P v) = l.take i := fun {l i x} hx hn => List.filter_eq_self.2 fun y hy => by
  obtain ⟨j, hj⟩ := List.mem_iff_getElem?.1 hy
  rw [List.getElem?_take] at hj
  split at hj
  · rename_i q
    rw [hn j y q hj]; rfl
  · cases hj
structure RDel (w : World) (g n c : Nat) (P : VeI → Bool) (l : List VeI) (a q : Value) (wr : World) (L : List VeI) (i j : Nat) : Prop where
  ij : i < j
  jn : j ≤ n
  a : a = .int .i64 i
  q : q = .int .i64 j
  len : L.length = n
  pre : L.take i = (l.take j).filter fun v => !P v
  suf : ∀ k, j ≤ k → L[k]? = l[k]?
  ow : OwnV wr (.slice (some ⟨g, 0, none⟩) n c) L
  k : Keep (fun b => b = g) w wr
def DelP (w : World) (v : Value) (l : List VeI) (P : VeI → Bool) (e : Ending) (w' : World) : Prop := ∃ v', e = .returned v' ∧ OwnV w' v' (l.filter fun x => !P x) ∧ v'.ownBlock = v.ownBlock ∧ Keep (fun j => v.ownBlock = some j) w w'
theorem FirstV.at' {r : Int} (h : FirstV l P r) : (r = -1 ∧ l.find? P = none) ∨ ∃ (i : Nat) (x : VeI), r = i ∧ l[i]? = some x ∧ P x = true ∧ (l.take i).filter (fun v => !P v) = l.take i := by
  rcases h with h | ⟨i, x, e, hx, hf, hn⟩
  · exact .inl h
  · exact .inr ⟨i, x, e, hx, List.find?_some hf, take_first hx hn⟩
set_option maxRecDepth 100000 in
set_option maxHeartbeats 4000000 in
theorem delete_any {v : Value} (ow : OwnV w v l) (hl : l.length ≤ 100000) (hv : ∀ x ∈ l, ∀ w', Keep (fun j => v.ownBlock = some j) w w' → VeF w' F x) {f : FuncId} {p : Nat} (hf : ∀ w', Keep (fun j => v.ownBlock = some j) w w' → IsHold (.func (.func f) #[] #[.pointer (some ⟨p, 0, none⟩)]) w' F P) :
    Calls Try.prog 52 #[v, .func (.func f) #[] #[.pointer (some ⟨p, 0, none⟩)]] w (DelP w v l P) := by
  have C := index_any ow hl (fun x hx => hv x hx w (Keep.refl _ _)) (hf w (Keep.refl _ _))
  rcases ow.form with ⟨rfl, h2⟩ | ⟨g, c, h1, _⟩
  · have h2 : l = [] := by simpa using h2
    subst h2
    clear hv hf hl
    go_enter Try.func52, Try.ntmps52
    go_wp2_with fail
    refine C.mono ?_
    rintro e w1 ⟨r, rfl, hr, k1⟩
    clear C
    rcases hr with ⟨rfl, _⟩ | ⟨_, _, _, hx, _⟩
    · go_wp2
      go_ret
      exact ⟨_, rfl, Own.nil, rfl, k1.mono fun _ e => e.elim⟩
    · cases hx
  · rw [List.length_map] at h1
    obtain ⟨n, en⟩ : ∃ n, l.length = n := ⟨_, rfl⟩
    rw [en] at h1 hl
    subst h1
    have hnc : n ≤ c := by obtain ⟨_, _, _, q, _⟩ := ow.row; omega
    have hcm : c ≤ maxLen := by obtain ⟨_, _, _, _, q, _⟩ := ow.row; exact q
    have cc : c ≤ 9223372036854775807 := hcm
    have EN := Lib.hid en
    have OW := Lib.hid ow
    have HV := Lib.hid hv
    have HF := Lib.hid hf
    clear ow hv hf en hcm
    go_enter Try.func52, Try.ntmps52
    go_wp2_with fail
    refine C.mono ?_
    rintro e w1 ⟨r, rfl, hr, k1⟩
    clear C
    rcases hr.at' with ⟨rfl, hn⟩ | ⟨i0, x0, rfl, hx, hp, ht⟩
    · clear hr
      go_wp2
      go_ret
      exact ⟨_, rfl, by rw [filter_first hn]; exact OW.out.keep k1 (fun _ _ => id), rfl, k1.mono fun _ e => e.elim⟩
    · have hi0 : i0 < n := by rw [← EN.out]; exact (List.getElem?_eq_some_iff.1 hx).1
      have dn : ((i0 : Int) == -1) = false := by simp
      have w0 : IntKind.i64.wrap ((i0 : Int) + 1) = (i0 : Int) + 1 := IntWalk.i64_in _ (by omega)
      have START : RDel w g n c P l (.int .i64 i0) (.int .i64 ((i0 : Int) + 1)) w1 l i0 (i0 + 1) := ⟨by omega, by omega, rfl, by go_num, EN.out, by
        rw [List.take_add_one, hx, List.filter_append, ht]; simp [hp], fun _ _ => rfl, OW.out.keep k1 (fun _ _ => id), k1.mono fun _ e => e.elim⟩
      have ST := Lib.hid START
      clear hr hx hp ht START k1
      go_wp2
      go_loopw [5, 6, 7] (fun a q _ wr => ∃ (L : List VeI) (i j : Nat), RDel w g n c P l a q wr L i j) (fun _ q _ _ => n - (intOf q).toNat)
      case atStart => exact ⟨l, i0, i0 + 1, ST.out⟩
      case round =>
        obtain ⟨L, i, j, hR⟩ := hrel
        obtain ⟨hij, hjn, rfl, rfl, hL, hpre, hsuf, how, hk⟩ := hR
        have wi : IntKind.i64.wrap ((i : Int) + 1) = (i : Int) + 1 := IntWalk.i64_in _ (by omega)
        have wj : IntKind.i64.wrap ((j : Int) + 1) = (j : Int) + 1 := IntWalk.i64_in _ (by omega)
        have KR := Lib.hid hk
        by_cases hlt : j < n
        · obtain ⟨x, hx⟩ : ∃ x, l[j]? = some x := ⟨_, List.getElem?_eq_getElem (by rw [EN.out]; exact hlt)⟩
          have cj : wr.cell? ⟨g, j, none⟩ = some (.pointer (some ⟨x.b, 0, none⟩)) := by
            obtain ⟨A, c', e1, _, _, hh⟩ := how.shape
            obtain ⟨g', e2, hc⟩ := hh j x (by rw [hsuf j (Nat.le_refl _)]; exact hx)
            cases e1
            cases e2
            exact hc
          have own : ∀ w', Keep (fun b => b = g) w w' → Keep (fun j => (Value.slice (some ⟨g, 0, none⟩) n c).ownBlock = some j) w w' := fun w' k => k.mono fun b e => by rw [e]; rfl
          have hxv := HV.out x (List.mem_of_getElem? hx) wr (own wr hk)
          obtain ⟨hent, hc⟩ := (HF.out wr (own wr hk)).func
          have C := hc x wr (Keep.refl _ _) hxv
          have take : l.take (j + 1) = l.take j ++ [x] := by rw [List.take_add_one, hx]; rfl
          obtain ⟨r, er⟩ : ∃ r, P x = r := ⟨_, rfl⟩
          rw [er] at C
          have next1 : P x = true → ∀ w2, Keep (fun _ => False) wr w2 → RDel w g n c P l (.int .i64 i) (.int .i64 ((j : Int) + 1)) w2 L i (j + 1) := fun hp w2 k2 =>
            ⟨by omega, by omega, rfl, by go_num, hL, by rw [take, List.filter_append, hpre]; simp [hp], fun a ha => hsuf a (by omega), how.keep k2 (fun _ _ => id), hk.trans (k2.mono fun _ e => e.elim)⟩
          have next2 : P x = false → ∀ w2, Keep (fun _ => False) wr w2 → RDel w g n c P l (.int .i64 ((i : Int) + 1)) (.int .i64 ((j : Int) + 1)) (w2.setCell ⟨g, i, none⟩ (ptrV x.b)) (L.set i x) (i + 1) (j + 1) := fun hp w2 k2 =>
            ⟨by omega, by omega, by go_num, by go_num, by rw [List.length_set]; exact hL, by
              rw [take, List.filter_append, ← hpre, List.take_add_one, List.getElem?_set_self (by rw [hL]; omega)]
              rw [List.take_set_of_le (Nat.le_refl i)]
              simp [hp], fun a ha => by rw [List.getElem?_set_ne (by omega)]; exact hsuf a (by omega), OwnV.put (how.keep k2 (fun _ _ => id)) i x, (hk.trans (k2.mono fun _ e => e.elim)).setCell (p := ⟨g, i, none⟩) rfl _⟩
          have ci : ∀ w2, Keep (fun _ => False) wr w2 → ∃ u, w2.cell? ⟨g, i, none⟩ = some u ∧ w2.frozen? ⟨g, i, none⟩ = false := fun w2 k2 => by
            have h2 : OwnV w2 (.slice (some ⟨g, 0, none⟩) n c) L := how.keep k2 (fun _ _ => id)
            obtain ⟨y, hy⟩ : ∃ y, L[i]? = some y := ⟨_, List.getElem?_eq_getElem (by rw [hL]; omega)⟩
            obtain ⟨A, c', e1, _, _, hh⟩ := h2.shape
            obtain ⟨g', e2, hc⟩ := hh i y hy
            cases e1
            cases e2
            exact ⟨_, hc, Own.free h2 i⟩
          have N1 := Lib.hid next1
          have N2 := Lib.hid next2
          have CI := Lib.hid ci
          have ER := Lib.hid er
          have hin : i < n := by omega
          clear next1 next2 hxv hx take hpre hsuf how hL ci er hk own hc
          cases r
          · go_wp2_with fail
            refine C.mono ?_
            rintro e w2 ⟨rfl, k2⟩
            clear C
            have NX := Lib.hid (N2.out ER.out w2 k2)
            obtain ⟨u, cu, fu⟩ := CI.out w2 k2
            go_wp2
            first | exact ⟨⟨_, i + 1, j + 1, NX.out⟩, by simp [intOf]; omega⟩ | (refine ⟨?rel2, ?meas2⟩; (case meas2 => (simp [intOf]; omega)); (case rel2 => ((repeat apply Exists.intro); exact ⟨⟨_, i + 1, j + 1, NX.out⟩, rfl⟩)))
          · go_wp2_with fail
            refine C.mono ?_
            rintro e w2 ⟨rfl, k2⟩
            clear C
            have NX := Lib.hid (N1.out ER.out w2 k2)
            go_wp2
            first | exact ⟨⟨_, i, j + 1, NX.out⟩, by simp [intOf]; omega⟩ | (refine ⟨?rel2, ?meas2⟩; (case meas2 => (simp [intOf]; omega)); (case rel2 => ((repeat apply Exists.intro); exact ⟨⟨_, i, j + 1, NX.out⟩, rfl⟩)))
        · obtain rfl : j = n := by omega
          obtain ⟨oc, kc⟩ := how.clear (i := i) (by omega) (List.replicate (j - i) (.pointer none))
          have hcl : ∀ ty cc, (Builtin.clear_ #[94] ty #[.slice (some ⟨g, i, none⟩) (j - i) cc]).run Try.prog wr = .ok (.tuple #[]) (wr.setCells g i (List.replicate (j - i) (.pointer none))) := fun ty cc => Lib.run_clear_slice wr _ _ ty (.pointer none) Try.underlying94 zero_ver rfl rfl g i (j - i) cc (by omega) (fun a ha => by
            obtain ⟨y, hy⟩ : ∃ y, L[i + a]? = some y := ⟨_, List.getElem?_eq_getElem (by rw [hL]; omega)⟩
            obtain ⟨A, c', e1, _, _, hh⟩ := how.shape
            obtain ⟨g', e2, hc⟩ := hh (i + a) y hy
            cases e1
            cases e2
            rw [hc]; rfl) (fun a ha => Own.free how (i + a))
          have FIN : DelP w (.slice (some ⟨g, 0, none⟩) j c) l P (.returned (.slice (some ⟨g, 0, none⟩) i c)) (wr.setCells g i (List.replicate (j - i) (.pointer none))) := by
            refine ⟨_, rfl, ?_, rfl, (hk.trans kc).mono fun b e => by rw [e]; rfl⟩
            have e : L.take i = l.filter fun v => !P v := by rw [hpre, ← EN.out, List.take_length]
            rw [← e]; exact oc
          obtain ⟨X, eX⟩ : ∃ X, wr.setCells g i (List.replicate (j - i) (.pointer none)) = X := ⟨_, rfl⟩
          rw [eX] at FIN
          simp only [eX] at hcl
          have FN := Lib.hid FIN
          have hci : ¬ c = i := by omega
          have hic : i ≤ c := by omega
          clear oc kc FIN eX hpre hsuf how hL hk hlt
          go_wp2
          go_ret
          exact FN.out
end
end Go.Proofs.Ytkkjofefjepodaa
