/- Proved here: vinculumlaw19.ModelReplays returns true and leaves its arguments as they were, for any int and any slice of Acts; no further condition. -/
import Derived.Test.YtalkfnblnlcklaaModelBaseDZbe
import Derived.Test.YtalkfnblnlcklaaModelBaseDZaj
import Derived.SizedLaws
import Derived.Laws.AppendOwnNone
namespace Go.Proofs.Ytalkfnblnlcklaa.modelReplays
open Go.ChangeShapes Go.WideShapes Go.ChangeAt Go.RowKit
set_option linter.unusedVariables false
set_option linter.unusedSimpArgs false
theorem mdBase {W W1 w : World} {m : Nat} {S : Nat → Prop} {x : MoI} (h : Md W1 w m S x) (b : Below W.heap.size W W1) : Md W w m S x := ⟨h.gd, fun k hk => Nat.le_trans b.size (h.g k hk), h.lt, b.trans (h.b.mono b.size), h.ld⟩
theorem acts_keep {w w' : World} {A : Option Addr} {n c : Nat} {f : Nat → ActI} {X : Nat → Prop} (h : IsActs w A n c f) (k : Keep X w w') (hX : ∀ b, b < w.heap.size → ¬ X b) : IsActs w' A n c f :=
 ⟨h.cap, h.max, fun hn => by
  obtain ⟨b, off, e, hb, hc⟩ := h.cell hn
  exact ⟨b, off, e, Nat.lt_of_lt_of_le hb k.size, fun j hj => act_keep (hc j hj) k (hX b hb)⟩, h.ok⟩
def actF (x : ActI) : List Value := [.int .i64 x.kind, .int .i64 x.s, .int .i64 x.level, .int .i64 x.o.kind, .int .i64 x.o.key, .int .i64 x.o.hi, .int .i64 x.o.val]
theorem actF_len (x : ActI) : (actF x).length = 7 := rfl
theorem actF_one (x : ActI) : ∀ u ∈ actF x, u.oneCell' = true := by
 intro u hu
 simp only [actF, List.mem_cons, List.not_mem_nil, or_false] at hu
 rcases hu with rfl | rfl | rfl | rfl | rfl | rfl | rfl <;> rfl
theorem info_act : (Try.prog.info? 33).map (fun i => (i.zero, i.size, i.bytes)) = some (some (.agg #[.int .i64 0, .int .i64 0, .int .i64 0, .int .i64 0, .int .i64 0, .int .i64 0, .int .i64 0]), 7, 56) := by kernel_rfl
/-- The calls as they came in, as a list. -/
def actsL (f : Nat → ActI) (n : Nat) : List ActI := (List.range n).map f
/-- .. those ahead of place k with the strongest level. -/
def lev3 (a : ActI) : ActI := if a.kind = 0 then { a with level := 3 } else a
def actsK (f : Nat → ActI) (n k : Nat) : List ActI := (List.range n).map fun i => if i < k then lev3 (f i) else f i
theorem actsK_at {f : Nat → ActI} {n k i : Nat} (h : i < n) : (actsK f n k)[i]? = some (if i < k then lev3 (f i) else f i) := by
 unfold actsK
 rw [List.getElem?_map, List.getElem?_range h]
 rfl
theorem actsK_len (f : Nat → ActI) (n k : Nat) : (actsK f n k).length = n := by unfold actsK; simp
theorem actsK_zero (f : Nat → ActI) (n : Nat) : actsK f n 0 = actsL f n := by unfold actsK actsL; simp
theorem actsK_set {f : Nat → ActI} {n k : Nat} (h : k < n) : (actsK f n k).set k (lev3 (f k)) = actsK f n (k + 1) := by
 refine List.ext_getElem? fun i => ?_
 rw [List.getElem?_set]
 by_cases hi : i < n
 ·rw [actsK_at hi, actsK_at hi, actsK_len]
  by_cases e : k = i
  ·subst e
   rw [if_pos rfl, if_pos h, if_pos (Nat.lt_succ_self _)]
  ·rw [if_neg e]
   by_cases c : i < k
   ·rw [if_pos c, if_pos (by omega)]
   ·rw [if_neg c, if_neg (by omega)]
 ·rw [if_neg (by omega), List.getElem?_eq_none (by rw [actsK_len]; omega), List.getElem?_eq_none (by rw [actsK_len]; omega)]
theorem actsK_same {f : Nat → ActI} {n k : Nat} (h : k < n) (h0 : (f k).kind ≠ 0) : actsK f n k = actsK f n (k + 1) := by
 refine List.ext_getElem? fun i => ?_
 by_cases hi : i < n
 ·rw [actsK_at hi, actsK_at hi]
  by_cases c : i < k
  ·rw [if_pos c, if_pos (by omega)]
  ·by_cases e : i = k
   ·subst e
    rw [if_neg c, if_pos (Nat.lt_succ_self _)]
    unfold lev3
    rw [if_neg h0]
   ·rw [if_neg c, if_neg (by omega)]
 ·rw [List.getElem?_eq_none (by rw [actsK_len]; omega), List.getElem?_eq_none (by rw [actsK_len]; omega)]
section
variable {α : Type} {m : Nat} {f : α → List Value} {e : TypeId} {B : Nat} {w w' : World} {v u : Value} {zs xs : List α} {S : Nat → Prop}
/-- 'append(l, x...)' of elements that lie somewhere to the call's own. -/
theorem wp_appR {t : TypeId} {z : Value} {bytes : Nat} (hu : Try.prog.underlying t = some (.slice e)) (hinfo : (Try.prog.info? e).map (fun i => (i.zero, i.size, i.bytes)) = some (some z, m, bytes))
    (hz : z.cells.size = m) (hm : 0 < m) (hf : ∀ x, (f x).length = m) (h1 : ∀ x ∈ xs, ∀ u ∈ f x, u.oneCell' = true) {ops : Array Oper} {rest : List Oper} {o : Oper} {a : Act} {Q : Exit → Act → World → Prop} (hgd : o.guard = none) (s x : Operand)
    (ho : o.op = .call { callee := .builtin .append, args := #[s, x], argTypes := #[t, t] })
    (hB : B ≤ w.heap.size) (hs : a.eval s = v) (hown : OwnB m f e B w v zs) (hx : a.eval x = u) (hlu : Lies m f w u xs) (h63 : zs.length + xs.length ≤ maxLen) (hbb : (zs.length + xs.length) * bytes ≤ 140737488355328)
    (h : ∀ v' w', OwnB m f e B w' v' (zs ++ xs) → Keep (fun j => v.ownBlock = some j) w w' → wpList Try.prog ops Q rest (a.put o.dst v') w') : wpList Try.prog ops Q (o :: rest) a w := by
  obtain ⟨i0, hi0, hz0, hz1, hz2⟩ := info_parts hinfo
  obtain ⟨A, c, rfl, hc, _, hzz, hff⟩ := hlu
  cases A with
  | none =>
    obtain rfl : c = 0 := hzz rfl
    have e0 : xs = [] := List.length_eq_zero_iff.1 (by omega)
    subst e0
    have := h v w (by rw [List.append_nil]; exact hown) (Keep.refl _ _)
    exact wpList_append_own_none hgd s x t ho B e i0 m hu hi0 v zs.length _ hs hown hx this
  | some ad =>
    have fl : (xs.flatMap f).length = xs.length * m := flat_len hf xs
    have hn : ∀ j y, (xs.flatMap f)[j]? = some y → w.cell? (ad.add j) = some y := fun j y hj => by
      have lj := (List.getElem?_eq_some_iff.1 hj).1
      rw [fl] at lj
      have l0 : 0 < xs.length := Nat.pos_of_ne_zero fun c => by rw [c, Nat.zero_mul] at lj; omega
      obtain ⟨b, off, e, hb, he⟩ := hff l0
      cases e
      have hi : j / m < xs.length := Nat.div_lt_of_lt_mul (by rw [Nat.mul_comm]; exact lj)
      have ej : j = j / m * m + j % m := by rw [Nat.mul_comm]; exact (Nat.div_add_mod j m).symm
      have hr : j % m < m := Nat.mod_lt _ hm
      rw [ej, flat_get hf xs (j / m) (j % m) hi hr] at hj
      have := he (j / m) _ (List.getElem?_eq_getElem hi) (j % m) y hj
      rw [add_plain, ej, ← Nat.add_assoc]
      exact this
    have one : ∀ y ∈ xs.flatMap f, y.oneCell' = true := fun y hy => by
      obtain ⟨p, hp, hm⟩ := List.mem_flatMap.1 hy
      exact h1 p hp y hm
    refine wpList_append_own _ hgd s x t ho B e i0 _ m bytes hu hi0 hz0 hz1 hz2 hz hm v zs.length (zs.flatMap f) hs hown ad xs.length c (xs.flatMap f) hx fl hn one h63 hbb hB ?_
    intro v' w' o1 gr _
    refine h v' w' ?_ ⟨gr.os, gr.tape, gr.output, gr.size, fun j hj hn => gr.block j hj (fun e => hn e.symm)⟩
    unfold OwnB
    rw [List.length_append, List.flatMap_append]
    exact o1
end
theorem acts_lie {w : World} {A : Option Addr} {n c : Nat} {f : Nat → ActI} (h : IsActs w A n c f) (nz : A = none → c = 0) : Lies 7 actF w (.slice A n c) (actsL f n) := by
 have el : (actsL f n).length = n := by unfold actsL; simp
 refine ⟨A, c, by rw [el], by rw [el]; exact h.cap, by unfold maxLen; have := h.max; omega, nz, fun h0 => ?_⟩
 rw [el] at h0
 obtain ⟨b, off, e, hb, hc⟩ := h.cell h0
 refine ⟨b, off, e, hb, fun j z hz i u hu => ?_⟩
 have hj : j < n := by have := (List.getElem?_eq_some_iff.1 hz).1; omega
 have ez : z = f j := by
  unfold actsL at hz
  rw [List.getElem?_map, List.getElem?_range hj] at hz
  exact (Option.some.inj hz).symm
 subst ez
 obtain ⟨c0, c1, c2, c3, c4, c5, c6⟩ := hc j hj
 match i, hu with
 | 0, hu => cases hu; exact c0
 | 1, hu => cases hu; exact c1
 | 2, hu => cases hu; exact c2
 | 3, hu => cases hu; exact c3
 | 4, hu => cases hu; exact c4
 | 5, hu => cases hu; exact c5
 | 6, hu => cases hu; exact c6
 | i + 7, hu => simp [actF] at hu
theorem acts_is {w : World} {A : Option Addr} {n c : Nat} {f g : Nat → ActI} (h : OwnM 7 actF 33 w (.slice A n c) (actsK f n n)) (hg : ∀ j, g j = lev3 (f j)) (ok : ∀ j, j < n → ActOk (f j)) : IsActs w A n c g := by
 have el := actsK_len f n n
 have ok' : ∀ j, j < n → ActOk (g j) := fun j hj => by
  have := ok j hj
  rw [hg j]
  unfold lev3
  split
  ·exact ⟨this.b0, this.b1, (show (-9223372036854775808 : Int) ≤ 3 ∧ (3 : Int) ≤ 9223372036854775807 by decide), this.b3⟩
  ·exact this
 rcases OwnM.form h with ⟨e, e2⟩ | ⟨b, c', e, hb, hc, hm⟩
 ·cases e
  exact ⟨Nat.le_refl _, by omega, fun h => by omega, ok'⟩
 ·rw [el] at e hc
  cases e
  refine ⟨hc, by unfold maxLen at hm; omega, fun _ => ⟨b, 0, rfl, hb, fun j hj => ?_⟩, ok'⟩
  have at' : ∀ i, i < 7 → w.cell? ⟨b, 0 + j * 7 + i, none⟩ = (actF (g j))[i]? := fun i hi => by
   have := OwnM.cell actF_len h j i (by rw [el]; exact hj) hi
   rw [Nat.zero_add, this]
   have e1 : (actsK f n n)[j]? = some (g j) := by rw [actsK_at hj, if_pos hj, hg]
   obtain ⟨_, e2⟩ := List.getElem?_eq_some_iff.1 e1
   rw [e2]
  exact ⟨at' 0 (by decide), at' 1 (by decide), at' 2 (by decide), at' 3 (by decide), at' 4 (by decide), at' 5 (by decide), at' 6 (by decide)⟩
def RK (W : World) (m : Nat) (S : Nat → Prop) (x : MoI) (f : Nat → ActI) (n : Nat) (v iv : Value) (wr : World) : Prop := ∃ k : Nat, k ≤ n ∧ iv = .int .i64 k ∧ Md W wr m S x ∧ OwnM 7 actF 33 wr v (actsK f n k)
set_option maxRecDepth 100000 in
set_option maxHeartbeats 16000000 in
theorem walk (a0 : Int) (a1 : Option Addr) (n1 c1 : Nat) (f1 : Nat → ActI) (w : World) (w0 : (Lit.int .i64 a0).wf = true) (w1 : IsActs w a1 n1 c1 f1) (sz : c1 * 56 ≤ 140737488351232) (nz : a1 = none → c1 = 0) :
  Calls Try.prog 3 #[.int .i64 a0, .slice a1 n1 c1] w fun e w' => e = .returned (.bool true) ∧ Below w.heap.size w w' := by
 obtain ⟨m0, hm0⟩ : ∃ m0, a0 % 256 % 60 = m0 := ⟨_, rfl⟩
 obtain ⟨q0, h0, e0, f0, l0, l0', p0, p0', w00, _⟩ := levN a0 60 m0 (by decide) (by decide) hm0
 have w05 : IntKind.i64.wrap (m0 + 5) = m0 + 5 := IntWalk.i64_in _ (by omega)
 have hcf : confI (m0 + 5) 500 = true := by unfold confI; exact decide_eq_true (by omega)
 have HC := Lib.hid hcf
 have cap := w1.cap
 have OK := Lib.hid w1.ok
 have IA := Lib.hid w1
 have NZ := Lib.hid nz
 clear w0 w1 hm0 hcf nz
 go_enter Try.func3, Try.ntmps3
 go_wp2_with fail
 refine (md_new _ (m0 + 5) 500 (i64_n (by omega)) ⟨by omega, by omega⟩ HC.out).mono ?_
 rintro e y1 ⟨m, S, rfl, M1⟩
 have b0 := M1.b
 obtain ⟨x0, ex0⟩ : ∃ x0, new0 (m0 + 5) 500 = x0 := ⟨_, rfl⟩
 have HX := Lib.hid (show Hold x0 [] [] by rw [← ex0]; exact hold_new HC.out)
 rw [ex0] at M1
 have LT := Lib.hid (acts_lie (acts_keep (acts_keep IA.out (Keep.of_below b0 (fun _ => False)) (fun _ _ => id)) ((Keep.refl (fun _ => False) y1).alloc (.cells #[] 33)) (fun _ _ => id)) NZ.out)
 have nl : (actsL f1 n1).length = n1 := by unfold actsL; simp
 have MH := Lib.hid M1
 clear M1 b0 ex0 IA
 go_wp2_with (with_reducible refine wp_stop 30 rfl ?_)
 intro _
 refine wp_appR Try.underlying22 info_act rfl (by decide) actF_len (fun x _ => actF_one x) rfl (.tmp 28) (.tmp 29) rfl (B := y1.heap.size) (by simp) rfl (OwnB.empty (Nat.le_refl _)) rfl LT.out (by rw [nl]; unfold maxLen; simp; omega) (by rw [nl]; simp; omega) ?_
 intro v1 w1 o1 k1
 have kw1 : Keep (fun _ => False) y1 w1 := ((Keep.refl (fun _ => False) y1).alloc (.cells #[] 33)).older k1 (fun j hj => by cases hj; exact Nat.le_refl _)
 have o1' : OwnM 7 actF 33 w1 v1 (actsK f1 n1 0) := by rw [actsK_zero]; exact OwnB.ownM o1
 have lo : ∀ g, v1.ownBlock = some g → y1.heap.size ≤ g := fun g hg => (OwnB.lt o1 hg).1
 have M2 := MH.out.quiet kw1
 have nS : ∀ g, v1.ownBlock = some g → ¬ S g ∧ w.heap.size ≤ g := fun g hg => ⟨fun c => by have := MH.out.lt g c; have := lo g hg; omega, Nat.le_trans MH.out.b.size (lo g hg)⟩
 have NS := Lib.hid nS
 have form : ∃ A c, v1 = .slice A n1 c ∧ (0 < n1 → ∃ g, A = some ⟨g, 0, none⟩) := by
  rcases OwnM.form o1' with ⟨e, e2⟩ | ⟨g, c, e, _⟩
  ·have : n1 = 0 := by rw [← actsK_len f1 n1 0, e2]; rfl
   exact ⟨none, 0, by rw [e, this], fun h => by omega⟩
  ·rw [actsK_len] at e
   exact ⟨_, c, e, fun _ => ⟨g, rfl⟩⟩
 obtain ⟨A1, cc1, rfl, hA⟩ := form
 have O1 := Lib.hid o1'
 clear o1 o1' k1 kw1 lo nS LT MH
 go_wp2
 go_loopw [8] (RK w m S x0 f1 n1 (.slice A1 n1 cc1)) (fun i _ => n1 - (intOf i).toNat)
 case atStart => exact ⟨0, Nat.zero_le _, rfl, M2, O1.out⟩
 case round =>
  obtain ⟨k, hk, rfl, M3, O3⟩ := hrel
  clear M2 O1
  by_cases hlt : k < n1
  ·obtain ⟨g, rfl⟩ := hA (by omega)
   have hkl : k < (actsK f1 n1 k).length := by rw [actsK_len]; exact hlt
   have ek : (actsK f1 n1 k)[k] = f1 k := by
    have := actsK_at (f := f1) (n := n1) (k := k) hlt
    rw [if_neg (Nat.lt_irrefl _), List.getElem?_eq_getElem hkl] at this
    exact Option.some.inj this
   have d0 := OwnM.cell actF_len O3 k 0 hkl (by decide)
   have d2 := OwnM.cell actF_len O3 k 2 hkl (by decide)
   have z2 := OwnM.free O3 (k * 7 + 2)
   rw [ek] at d0 d2
   have d0 : wr.cell? ⟨g, k * 7, none⟩ = some (.int .i64 (f1 k).kind) := d0
   have d2 : wr.cell? ⟨g, k * 7 + 2, none⟩ = some (.int .i64 (f1 k).level) := d2
   have wk : IntKind.i64.wrap ((k : Int) + 1) = (k : Int) + 1 := IntWalk.i64_in _ (by omega)
   by_cases h0 : (f1 k).kind = 0
   ·have S1 := OwnM.set actF_len O3 k 2 hkl (by decide) (.int .i64 3) (lev3 (f1 k)) (by rw [ek]; unfold lev3; rw [if_pos h0]; rfl)
    rw [actsK_set hlt] at S1
    have M4 := M3.own (keep_one wr ⟨g, k * 7 + 2, none⟩ (.int .i64 3)) (fun j hj => by
     have hj : j = g := hj
     rw [hj]
     exact NS.out g rfl)
    have F := Lib.hid (And.intro M4 S1)
    rw [h0] at d0
    clear M3 O3 S1 M4 h0
    go_wp2
    first | exact ⟨⟨k + 1, by omega, by go_num, F.out.1, F.out.2⟩, by simp [intOf]; omega⟩ | (refine ⟨?rel2, ?meas2⟩; (case meas2 => (simp [intOf]; omega)); (case rel2 => ((repeat apply Exists.intro); exact ⟨⟨k + 1, by omega, by go_num, F.out.1, F.out.2⟩, rfl⟩)))
   ·have dq : ((f1 k).kind == 0) = false := by simpa using h0
    have F := Lib.hid (show OwnM 7 actF 33 wr (.slice (some ⟨g, 0, none⟩) n1 cc1) (actsK f1 n1 (k + 1)) by rw [← actsK_same hlt h0]; exact O3)
    clear O3 h0
    go_wp2
    first | exact ⟨⟨k + 1, by omega, by go_num, M3, F.out⟩, by simp [intOf]; omega⟩ | (refine ⟨?rel2, ?meas2⟩; (case meas2 => (simp [intOf]; omega)); (case rel2 => ((repeat apply Exists.intro); exact ⟨⟨k + 1, by omega, by go_num, M3, F.out⟩, rfl⟩)))
  ·obtain rfl : k = n1 := by omega
   have IS := acts_is O3 (fun j => rfl) OK.out
   have DC := deals_any M3 HX.out M3.b.size IS (fun hn b off e c => by obtain ⟨g, e'⟩ := hA hn; rw [e'] at e; cases e; exact (NS.out _ (by rw [e']; rfl)).1 c) 100 (by decide)
   clear IS O3
   go_wp2_with fail
   refine DC.mono ?_
   rintro e y3 ⟨u, S3, x, ds, rfl, O, k2, hk2, D⟩
   clear DC
   obtain ⟨C, H⟩ := D.hold
   have db := D.sz.dlB (by omega)
   have du := H.al.dlU H.good
   have RR := replay_any O.deals db du 0 (H.replays (D.lv fun j hj h0 => by
    have h0 : (lev3 (f1 j)).kind = 0 := h0
    show (lev3 (f1 j)).level = 3
    unfold lev3 at h0 ⊢
    split
    ·rfl
    ·next c => rw [if_neg c] at h0; exact absurd h0 c))
   have MD := Lib.hid D.md
   clear H D O db du
   go_wp2_with fail
   refine RR.mono ?_
   rintro e y4 ⟨rfl, k4⟩
   have M5 := Lib.hid (MD.out.quiet k4)
   clear RR k4
   go_wp2_with fail
   refine (awake19_any _).mono ?_
   rintro e y5 ⟨rfl, b5⟩
   go_wp2
   go_ret
   exact ⟨rfl, M5.out.fin b5 (Keep.refl _ _)⟩
theorem own : ownKnob Try.prog.godebug = none := by kernel_rfl
theorem laidOut : laidOutB Try.prog = true := by kernel_rfl
set_option maxRecDepth 100000 in
theorem lifted (os : Os) (started : os.Started) (H : Type) (enc : TypeId × Value → H) :
  ReturnsInHanded {} Try.checked os 3 .any (Rows.modelReplaysSpec.pre6 enc Try.prog Try.f3 Rows.modelReplaysRow.domain false) (Rows.modelReplaysSpec.post enc Try.prog Try.f3 false true false false) := by
 refine returnsInHanded_of_change_sized (C := Try.checked) own started (by kernel_rfl) Try.func3
  (ChangeSpec.witness6 (enc := enc) (C := Try.checked) false ⟨#[], #[.int .i64 0, .slice none 0 0], []⟩ 8 (by kernel_rfl) (by kernel_rfl) (by kernel_rfl) (by kernel_rfl)) ?_
 intro W base args ds gs before hval0 hW hcnd hsz0 _
 have hval : ∀ (j : Nat) t v, Try.f3.params[j]? = some t → args[j]? = some v → Value.okWide Try.prog W .any base t v := hval0
 have hW' := hW
 obtain ⟨p, q, hA0, hV, rfl, hfz, hnd⟩ := hW
 have hA : DataW.TrodAll enc Try.prog W 0 (fun _ => true) true Try.f3.params.toList args.toList ds p := hA0
 have hsz : (DataW.weightsEach Try.prog (Try.f3.params.toList ++ Rows.modelReplaysSpec.plain.varTypes Try.prog) (ds ++ gs)).all (· ≤ reachBytes) = true := hsz0
 rw [Try.params3] at hA hval hsz
 obtain ⟨v0, vs0, d0, ds0, p0, q0, hargs, rfl, rfl, h0, r0⟩ := trodAll_cons hA
 obtain ⟨v1, vs1, d1, ds1, p1, q1, rfl, rfl, rfl, h1, r1⟩ := trodAll_cons r0
 obtain ⟨rfl, rfl, rfl⟩ := trodAll_nil r1
 obtain rfl : args = #[v0, v1] := by cases args; simp_all
 obtain ⟨rfl, rfl⟩ := trodVars_none hV
 obtain ⟨a0, rfl, rfl, rfl, w0⟩ := open_int Try.underlying3 (hval 0 3 v0 rfl rfl) h0
 obtain ⟨a1, len1, cap1, rfl⟩ := okWide_slice Try.underlying22 (hval 1 22 v1 rfl rfl)
 have k1 := h1
 have lt1 : ∀ x ∈ p1, x.block < W.heap.size := by obtain ⟨m, hm⟩ := k1; exact DataW.trod_lt m _ _ _ hm
 obtain ⟨z1, w1⟩ : ∃ f, IsActs W a1 len1 cap1 f := is_acts h1
 have sz1 : cap1 * 56 ≤ 140737488351232 := by
  obtain ⟨fu, hfu⟩ := k1
  rcases DataW.trod_slice Try.underlying22 hfu with ⟨h0, _⟩ | ⟨aa, len, cap, elems, rest, mm, _, h0, hx, _, hl, _, hlen, _, hsp, _⟩
  ·simp [Value.cells] at h0; obtain ⟨rfl, rfl, rfl⟩ := h0; omega
  ·simp [Value.cells] at h0; obtain ⟨rfl, rfl, rfl⟩ := h0
   obtain ⟨rfl, _⟩ := Prod.mk.inj hx
   have hb : Try.prog.bytesOf 33 = 56 := by kernel_rfl
   have hs := sized_slice hsz (j := 1) (t := 22) (e := 33) rfl rfl Try.underlying22
   have hr := (hsp rfl).1
   rw [hb] at hs; simp only [List.length_map, reachBytes] at hs
   have e : elems.length + rest.length = cap1 := by omega
   rw [e] at hs; exact hs
 have nz1 : a1 = none → cap1 = 0 := by
  obtain ⟨fu, hfu⟩ := k1
  rcases DataW.trod_slice Try.underlying22 hfu with ⟨h0, _⟩ | ⟨aa, len, cap, elems, rest, mm, _, h0, _⟩
  ·simp [Value.cells] at h0; obtain ⟨rfl, rfl, rfl⟩ := h0; exact fun _ => rfl
  ·simp [Value.cells] at h0; obtain ⟨rfl, rfl, rfl⟩ := h0; exact fun e => by cases e
 clear hA0 hval0
 refine (walk a0 a1 len1 cap1 z1 W w0 w1 sz1 nz1).mono fun e W' ⟨he, bel⟩ => ?_
 subst he
 exact ⟨_, rfl, _, _, _, [], _, [], hW', trodAll_mk1 (shut_bool Try.underlying4 _), (trodAll_cons_mk (shut_int Try.underlying3 w0) (trodAll_cons_mk (Below.trod laidOut (by kernel_rfl) (of_decide_eq_true (by kernel_rfl)) k1 bel lt1) trodAll_mk0)), rfl, bel.frame _, fun h => by cases h⟩
theorem over : Rows.modelReplaysRow.holds Try.pinned (OpenSpec.ofChange Rows.modelReplaysSpec) :=
 OpenClaim.holds_of_wide 3 Try.f3 rfl rfl rfl rfl rfl rfl rfl ⟨rfl, rfl, rfl, rfl, rfl⟩ rfl rfl rfl rfl rfl (by kernel_rfl) Try.func3 (by kernel_rfl)
  (of_decide_eq_true (by kernel_rfl)) (by unfold Func.isWrapper; first | (rw [if_pos (by decide +kernel)]; kernel_rfl) | (rw [if_neg (by decide +kernel)]; exact ⟨rfl, rfl⟩))
  (fun os started H enc _ => lifted os started H enc)
theorem proved : Rows.ModelReplaysSaid := over
end Go.Proofs.Ytalkfnblnlcklaa.modelReplays
