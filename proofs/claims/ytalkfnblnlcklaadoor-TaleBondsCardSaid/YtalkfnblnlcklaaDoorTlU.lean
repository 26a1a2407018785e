/- Package tale: appendLine, Text. Condition: numbers of 64 bits; the table of strconv and the words as they are laid. -/
import Derived.Test.YtalkfnblnlcklaaDoorTlT
import Derived.Lib.AppendStr
namespace Go.Proofs.YtalkfnblnlcklaaDoor
open Go.ChangeShapes Go.WideShapes Go.ChangeAt Go.RowKit
set_option linter.unusedVariables false
set_option linter.unusedSimpArgs false
/-- The word of a kind. -/
def wordT (k : Int) : List UInt8 := if k = 1 then [98, 101, 103, 105, 110] else if k = 2 then [111, 112] else if k = 3 then [112, 114, 101, 112] else if k = 4 then [98, 111, 110, 100] else if k = 5 then [100, 111, 110, 101] else if k = 6 then [103, 111, 110, 101] else []
def restT (x : EvI) : List UInt8 := if x.kind = 1 then spU x.n ++ spI x.o.val else if x.kind = 2 then opT x.o x.r else if x.kind = 3 then spU x.n else if x.kind = 4 then spU x.n else if x.kind = 6 then spI x.r.reason else []
/-- The line of an event. -/
def lineT (x : EvI) : List UInt8 := wordT x.kind ++ spI x.t ++ restT x ++ [10]
def toldT (x : EvI) : List UInt8 := if 1 ≤ x.kind ∧ x.kind ≤ 6 then lineT x else []
def textT (es : List EvI) : List UInt8 := es.flatMap toldT
/-- Numbers of 64 bits. -/
structure EvB (x : EvI) : Prop where
  k : I64 x.kind
  t : I64 x.t
  n : Un64 x.n
  o : ∀ n ∈ nums x.o x.r, I64 n
  e : I64 x.r.reason
  p : ∀ p ∈ x.r.pairs, I64 p.1 ∧ I64 p.2
theorem wordT_len (k : Int) : (wordT k).length ≤ 5 := by unfold wordT; repeat' split <;> first | decide | skip
theorem spU_len {n : Int} (h : Un64 n) : (spU n).length ≤ 21 := by
  have := Lib.nDigits_le20 n.toNat (by have := h.1; have := h.2; omega)
  unfold spU
  rw [List.length_cons, Lib.decDigits_length]
  omega
theorem opT_len {x : EvI} (h : EvB x) : (opT x.o x.r).length ≤ 132 + 44 * x.r.pairs.length := by
  have h1 := flat_le (f := spI) (c := 22) (nums x.o x.r) fun n hn => spI_len (h.o n hn)
  have h2 := flat_le (f := prT) (c := 44) x.r.pairs fun p hp => prT_len (h.p p hp)
  have h3 : (nums x.o x.r).length = 6 := rfl
  rw [h3] at h1
  unfold opT
  rw [List.length_append]
  omega
theorem toldT_len {x : EvI} (h : EvB x) : (toldT x).length ≤ 200 + 44 * x.r.pairs.length := by
  unfold toldT
  split
  · have h1 := wordT_len x.kind
    have h2 := spI_len h.t
    have h3 : (restT x).length ≤ 132 + 44 * x.r.pairs.length := by
      have a := opT_len h
      have b := spU_len h.n
      have c := spI_len h.e
      have d := spI_len (h.o x.o.val (by unfold nums; simp))
      unfold restT
      repeat' split
      all_goals first | (rw [List.length_append]; omega) | omega | (simp only [List.length_nil]; omega)
    unfold lineT
    simp only [List.length_append, List.length_cons, List.length_nil]
    omega
  · simp only [List.length_nil]; omega
abbrev WdW (B : Nat) (w : World) : Prop := ∀ w', Below B w w' → ∀ k : Nat, 1 ≤ k → k ≤ 6 → w'.cell? ⟨0, k, none⟩ = some (.string ⟨(wordT k).toArray⟩)
section
variable {w w0 w1 w' : World} {v : Value} {l : List UInt8} {B : Nat} {A2 : Option Addr} {c2 : Nat} {es : List EvI}
theorem wd_on (h : WdW B w) (b : Below B w w1) : WdW B w1 := fun w' b' => h w' (b.trans b')
/-- 'append(b, s...)' of a string. -/
theorem wp_str {ops : Array Oper} {rest : List Oper} {o : Oper} {a : Act} {Q : Exit → Act → World → Prop} (hgd : o.guard = none) (s x : Operand)
    (ho : o.op = .call { callee := .builtin .append, args := #[s, x], argTypes := #[51, 9] })
    (hs : a.eval s = v) (hown : BT B w v l) (hB : B ≤ w.heap.size) (t : List UInt8) (hx : a.eval x = .string ⟨t.toArray⟩) (ht : t.length ≤ 5) (hl : l.length + 100 ≤ 1000000000000)
    (h : ∀ v' w', BT B w' v' (l ++ t) → BK B w w' → wpList Tryd.prog ops Q rest (a.put o.dst v') w') : wpList Tryd.prog ops Q (o :: rest) a w := by
  obtain ⟨i0, hi0, hz0, hz1, hz2⟩ := info_parts info_u8
  have sz : (⟨t.toArray⟩ : ByteArray).size = t.length := rfl
  refine Lib.wpList_append_own_string _ hgd s x _ _ ho B 5 i0 Tryd.underlying51 Tryd.underlying9 hi0 hz0 hz1 hz2 v l.length _ hs hown ⟨t.toArray⟩ hx (by rw [sz]; unfold maxLen; omega) (by rw [sz]; omega) hB ?_
  intro v' w' o1 gr _
  refine h v' w' (BT.of o1 (by rw [Lib.byteCells_append]; rfl)) ⟨?_, ?_⟩
  · exact (Below.refl B w).grown gr hB (fun k hk => (World.ownsRow.lt hown k hk).1)
  · exact (Lib.OthersKept.refl _ none w).grown gr (fun g hg => Lib.ownsRow_kind hown g hg)
set_option maxRecDepth 100000 in
set_option maxHeartbeats 4000000 in
theorem appendLine_any {x : EvI} (hx : EvB x) (hk : 1 ≤ x.kind ∧ x.kind ≤ 6) (hp : LPr w0 (.slice A2 x.r.pairs.length c2) x.r.pairs) (k0 : Keep (fun _ => False) w0 w) (hB0 : w0.heap.size ≤ B) (h : BT B w v l) (hB : B ≤ w.heap.size) (hT : TabW B w) (hW : WdW B w) (hl : l.length + 3000 + 60 * x.r.pairs.length ≤ 800000000000) :
    Calls Tryd.prog 13 #[v, evV x (.slice A2 x.r.pairs.length c2)] w fun e w' => ∃ v', e = .returned v' ∧ BT B w' v' (l ++ lineT x) ∧ BK B w w' := by
  obtain ⟨V, eV, X, kV⟩ := ev_box w x (.slice A2 x.r.pairs.length c2)
  obtain ⟨N, eN⟩ : ∃ N, w.heap.size = N := ⟨_, rfl⟩
  have nN : NoB V N := ⟨_, _, _, by rw [← eV, ← eN]; exact heap_alloc_new w _, by decide⟩
  rw [eN] at X
  have XX := Lib.hid X
  have NB := Lib.hid nN
  have KB := Lib.hid (kV.bk hB)
  have hBV := Nat.le_trans hB kV.size
  have HV := Lib.hid (h.kept kV)
  have KA := Lib.hid (k0.trans kV)
  have HT := Lib.hid (hT.on KB.out.b)
  have WD := Lib.hid (hW V KB.out.b)
  have AI := Lib.hid (fun w1 v1 l1 (o : BT B w1 v1 l1) (k : BK B V w1) (hl : l1.length ≤ 900000000000) n hn => appendInt_any o (Nat.le_trans hBV k.size) (HT.out.on k.b) (by omega) 32 n hn)
  have AU := Lib.hid (fun w1 v1 l1 (o : BT B w1 v1 l1) (k : BK B V w1) (hl : l1.length ≤ 900000000000) n hn => appendUint_any o (Nat.le_trans hBV k.size) (HT.out.on k.b) (by omega) n hn)
  have AO := Lib.hid (fun w1 v1 l1 (o : BT B w1 v1 l1) (k : BK B V w1) (hl : l1.length + 1000 + 60 * x.r.pairs.length ≤ 900000000000) => appendOp_any (o := x.o) hp (k.args KA.out hB0) hB0 o (Nat.le_trans hBV k.size) (HT.out.on k.b) hl hx.o hx.p)
  have HX := Lib.hid hx
  have L1 := wordT_len x.kind
  have L2 := spI_len hx.t
  have L3 := spU_len hx.n
  have L7 := Lib.itoa_length_le _ (hx.o x.o.val (by simp [nums])).1 (hx.o x.o.val (by simp [nums])).2
  have L8 := opT_len hx
  have L9 := Lib.itoa_length_le _ hx.e.1 hx.e.2
  have K := Lib.hid (BK.refl : BK B V V)
  obtain ⟨x0, x1, x2, x3, x4, x5, x6, x7, x8, x9, x10, x11⟩ := XX.out.keep K.out.keep NB.out.byt; simp only [Nat.zero_add] at x0 x1 x2 x3 x4 x5 x6 x7 x8 x9 x10 x11
  clear X nN kV k0 h hT hW hp
  obtain ⟨kd, tt, nn, ⟨ok, oy, oh, ov⟩, ⟨re, rv, ps, ro, rr⟩⟩ := x
  dsimp only at *
  unfold evV
  dsimp only
  have L4 := Lib.hid L1
  have L5 := Lib.hid L2
  have L6 := Lib.hid L3
  obtain ⟨pl, hpl⟩ : ∃ pl, ps.length = pl := ⟨_, rfl⟩
  rw [hpl] at x9 eV hl AO L8 ⊢
  have M7 := Lib.hid L7
  have M9 := Lib.hid L9
  have M8 := Lib.hid L8
  clear L1 L2 L3 L7 L8 L9
  have HPL := Lib.hid hpl
  clear hpl hx
  rcases (by omega : kd = 1 ∨ kd = 2 ∨ kd = 3 ∨ kd = 4 ∨ kd = 5 ∨ kd = 6) with rfl | rfl | rfl | rfl | rfl | rfl
  · have wd : V.cell? ⟨0, 1, none⟩ = some (.string ⟨(wordT 1).toArray⟩) := WD.out 1 (by decide) (by decide)
    go_enter Tryd.func13, Tryd.ntmps13
    go_wp2_with (with_reducible refine wp_stop 10 rfl ?_)
    intro _
    refine wp_str rfl (.tmp 5) (.tmp 9) rfl rfl HV.out hBV (wordT 1) rfl (wordT_len _) (by omega) ?_
    intro v0 w1 o1 k1
    have O := Lib.hid o1
    have K := Lib.hid k1
    clear o1 k1 wd x0 x1 x2 x3 x4 x5 x6 x7 x8 x9 x10 x11
    obtain ⟨x0, x1, x2, x3, x4, x5, x6, x7, x8, x9, x10, x11⟩ := XX.out.keep K.out.keep NB.out.byt; simp only [Nat.zero_add] at x0 x1 x2 x3 x4 x5 x6 x7 x8 x9 x10 x11; rw [HPL.out] at x9
    go_wp2_with fail
    refine (AI.out _ _ _ O.out K.out (by have q4 := L4.out; have q5 := L5.out; have q6 := L6.out; have q7 := M7.out; have q8 := M8.out; have q9 := M9.out; simp only [List.length_append, List.length_cons, spI, spU] at q4 q5 q6 ⊢; omega) tt HX.out.t).mono ?_; rintro e w2 ⟨v2, rfl, o2, k2⟩; have P := Lib.hid o2; have K' := Lib.hid (K.out.trans k2); clear o2 k2 O K x0 x1 x2 x3 x4 x5 x6 x7 x8 x9 x10 x11; have O := P; have K := K'; clear P K'; obtain ⟨x0, x1, x2, x3, x4, x5, x6, x7, x8, x9, x10, x11⟩ := XX.out.keep K.out.keep NB.out.byt; simp only [Nat.zero_add] at x0 x1 x2 x3 x4 x5 x6 x7 x8 x9 x10 x11; rw [HPL.out] at x9
    go_wp2_with fail
    refine (AU.out _ _ _ O.out K.out (by have q4 := L4.out; have q5 := L5.out; have q6 := L6.out; have q7 := M7.out; have q8 := M8.out; have q9 := M9.out; simp only [List.length_append, List.length_cons, spI, spU] at q4 q5 q6 ⊢; omega) nn HX.out.n).mono ?_; rintro e w2 ⟨v2, rfl, o2, k2⟩; have P := Lib.hid o2; have K' := Lib.hid (K.out.trans k2); clear o2 k2 O K x0 x1 x2 x3 x4 x5 x6 x7 x8 x9 x10 x11; have O := P; have K := K'; clear P K'; obtain ⟨x0, x1, x2, x3, x4, x5, x6, x7, x8, x9, x10, x11⟩ := XX.out.keep K.out.keep NB.out.byt; simp only [Nat.zero_add] at x0 x1 x2 x3 x4 x5 x6 x7 x8 x9 x10 x11; rw [HPL.out] at x9
    go_wp2_with fail
    refine (AI.out _ _ _ O.out K.out (by have q4 := L4.out; have q5 := L5.out; have q6 := L6.out; have q7 := M7.out; have q8 := M8.out; have q9 := M9.out; simp only [List.length_append, List.length_cons, spI, spU] at q4 q5 q6 ⊢; omega) ov (HX.out.o ov (by simp [nums]))).mono ?_; rintro e w2 ⟨v2, rfl, o2, k2⟩; have P := Lib.hid o2; have K' := Lib.hid (K.out.trans k2); clear o2 k2 O K x0 x1 x2 x3 x4 x5 x6 x7 x8 x9 x10 x11; have O := P; have K := K'; clear P K'; obtain ⟨x0, x1, x2, x3, x4, x5, x6, x7, x8, x9, x10, x11⟩ := XX.out.keep K.out.keep NB.out.byt; simp only [Nat.zero_add] at x0 x1 x2 x3 x4 x5 x6 x7 x8 x9 x10 x11; rw [HPL.out] at x9
    go_wp2_with (with_reducible refine wp_stop 52 rfl ?_); intro _; refine wp_byte rfl (.tmp 50) (.tmp 51) rfl rfl O.out (Nat.le_trans hBV K.out.size) 10 rfl (by have q4 := L4.out; have q5 := L5.out; have q6 := L6.out; have q7 := M7.out; have q8 := M8.out; have q9 := M9.out; simp only [List.length_append, List.length_cons, spI, spU] at q4 q5 q6 ⊢; omega) ?_; intro v9 w9 o9 k9; have O9 := Lib.hid (show BT B w9 v9 (l ++ lineT ⟨1, tt, nn, ⟨ok, oy, oh, ov⟩, ⟨re, rv, ps, ro, rr⟩⟩) from by have := o9; simpa [lineT, restT, spI, spU] using this); have K9 := Lib.hid (KB.out.trans (K.out.trans k9)); clear o9 k9; go_wp2; refine bodyPost_ret (v := v9) (by simp [results, Tryd.results13, go_sem]) rfl ?_; exact ⟨v9, rfl, O9.out, K9.out⟩
  · have wd : V.cell? ⟨0, 2, none⟩ = some (.string ⟨(wordT 2).toArray⟩) := WD.out 2 (by decide) (by decide)
    go_enter Tryd.func13, Tryd.ntmps13
    go_wp2_with (with_reducible refine wp_stop 10 rfl ?_)
    intro _
    refine wp_str rfl (.tmp 5) (.tmp 9) rfl rfl HV.out hBV (wordT 2) rfl (wordT_len _) (by omega) ?_
    intro v0 w1 o1 k1
    have O := Lib.hid o1
    have K := Lib.hid k1
    clear o1 k1 wd x0 x1 x2 x3 x4 x5 x6 x7 x8 x9 x10 x11
    obtain ⟨x0, x1, x2, x3, x4, x5, x6, x7, x8, x9, x10, x11⟩ := XX.out.keep K.out.keep NB.out.byt; simp only [Nat.zero_add] at x0 x1 x2 x3 x4 x5 x6 x7 x8 x9 x10 x11; rw [HPL.out] at x9
    go_wp2_with fail
    refine (AI.out _ _ _ O.out K.out (by have q4 := L4.out; have q5 := L5.out; have q6 := L6.out; have q7 := M7.out; have q8 := M8.out; have q9 := M9.out; simp only [List.length_append, List.length_cons, spI, spU] at q4 q5 q6 ⊢; omega) tt HX.out.t).mono ?_; rintro e w2 ⟨v2, rfl, o2, k2⟩; have P := Lib.hid o2; have K' := Lib.hid (K.out.trans k2); clear o2 k2 O K x0 x1 x2 x3 x4 x5 x6 x7 x8 x9 x10 x11; have O := P; have K := K'; clear P K'; obtain ⟨x0, x1, x2, x3, x4, x5, x6, x7, x8, x9, x10, x11⟩ := XX.out.keep K.out.keep NB.out.byt; simp only [Nat.zero_add] at x0 x1 x2 x3 x4 x5 x6 x7 x8 x9 x10 x11; rw [HPL.out] at x9
    go_wp2_with fail
    refine (AO.out _ _ _ O.out K.out (by have q4 := L4.out; have q5 := L5.out; have q6 := L6.out; have q7 := M7.out; have q8 := M8.out; have q9 := M9.out; simp only [List.length_append, List.length_cons, spI, spU] at q4 q5 q6 ⊢; omega)).mono ?_; rintro e w2 ⟨v2, rfl, o2, k2⟩; have P := Lib.hid o2; have K' := Lib.hid (K.out.trans k2); clear o2 k2 O K x0 x1 x2 x3 x4 x5 x6 x7 x8 x9 x10 x11; have O := P; have K := K'; clear P K'; obtain ⟨x0, x1, x2, x3, x4, x5, x6, x7, x8, x9, x10, x11⟩ := XX.out.keep K.out.keep NB.out.byt; simp only [Nat.zero_add] at x0 x1 x2 x3 x4 x5 x6 x7 x8 x9 x10 x11; rw [HPL.out] at x9
    go_wp2_with (with_reducible refine wp_stop 52 rfl ?_); intro _; refine wp_byte rfl (.tmp 50) (.tmp 51) rfl rfl O.out (Nat.le_trans hBV K.out.size) 10 rfl (by have q4 := L4.out; have q5 := L5.out; have q6 := L6.out; have q7 := M7.out; have q8 := M8.out; have q9 := M9.out; simp only [List.length_append, List.length_cons, spI, spU] at q4 q5 q6 ⊢; omega) ?_; intro v9 w9 o9 k9; have O9 := Lib.hid (show BT B w9 v9 (l ++ lineT ⟨2, tt, nn, ⟨ok, oy, oh, ov⟩, ⟨re, rv, ps, ro, rr⟩⟩) from by have := o9; simpa [lineT, restT, spI, spU] using this); have K9 := Lib.hid (KB.out.trans (K.out.trans k9)); clear o9 k9; go_wp2; refine bodyPost_ret (v := v9) (by simp [results, Tryd.results13, go_sem]) rfl ?_; exact ⟨v9, rfl, O9.out, K9.out⟩
  · have wd : V.cell? ⟨0, 3, none⟩ = some (.string ⟨(wordT 3).toArray⟩) := WD.out 3 (by decide) (by decide)
    go_enter Tryd.func13, Tryd.ntmps13
    go_wp2_with (with_reducible refine wp_stop 10 rfl ?_)
    intro _
    refine wp_str rfl (.tmp 5) (.tmp 9) rfl rfl HV.out hBV (wordT 3) rfl (wordT_len _) (by omega) ?_
    intro v0 w1 o1 k1
    have O := Lib.hid o1
    have K := Lib.hid k1
    clear o1 k1 wd x0 x1 x2 x3 x4 x5 x6 x7 x8 x9 x10 x11
    obtain ⟨x0, x1, x2, x3, x4, x5, x6, x7, x8, x9, x10, x11⟩ := XX.out.keep K.out.keep NB.out.byt; simp only [Nat.zero_add] at x0 x1 x2 x3 x4 x5 x6 x7 x8 x9 x10 x11; rw [HPL.out] at x9
    go_wp2_with fail
    refine (AI.out _ _ _ O.out K.out (by have q4 := L4.out; have q5 := L5.out; have q6 := L6.out; have q7 := M7.out; have q8 := M8.out; have q9 := M9.out; simp only [List.length_append, List.length_cons, spI, spU] at q4 q5 q6 ⊢; omega) tt HX.out.t).mono ?_; rintro e w2 ⟨v2, rfl, o2, k2⟩; have P := Lib.hid o2; have K' := Lib.hid (K.out.trans k2); clear o2 k2 O K x0 x1 x2 x3 x4 x5 x6 x7 x8 x9 x10 x11; have O := P; have K := K'; clear P K'; obtain ⟨x0, x1, x2, x3, x4, x5, x6, x7, x8, x9, x10, x11⟩ := XX.out.keep K.out.keep NB.out.byt; simp only [Nat.zero_add] at x0 x1 x2 x3 x4 x5 x6 x7 x8 x9 x10 x11; rw [HPL.out] at x9
    go_wp2_with fail
    refine (AU.out _ _ _ O.out K.out (by have q4 := L4.out; have q5 := L5.out; have q6 := L6.out; have q7 := M7.out; have q8 := M8.out; have q9 := M9.out; simp only [List.length_append, List.length_cons, spI, spU] at q4 q5 q6 ⊢; omega) nn HX.out.n).mono ?_; rintro e w2 ⟨v2, rfl, o2, k2⟩; have P := Lib.hid o2; have K' := Lib.hid (K.out.trans k2); clear o2 k2 O K x0 x1 x2 x3 x4 x5 x6 x7 x8 x9 x10 x11; have O := P; have K := K'; clear P K'; obtain ⟨x0, x1, x2, x3, x4, x5, x6, x7, x8, x9, x10, x11⟩ := XX.out.keep K.out.keep NB.out.byt; simp only [Nat.zero_add] at x0 x1 x2 x3 x4 x5 x6 x7 x8 x9 x10 x11; rw [HPL.out] at x9
    go_wp2_with (with_reducible refine wp_stop 52 rfl ?_); intro _; refine wp_byte rfl (.tmp 50) (.tmp 51) rfl rfl O.out (Nat.le_trans hBV K.out.size) 10 rfl (by have q4 := L4.out; have q5 := L5.out; have q6 := L6.out; have q7 := M7.out; have q8 := M8.out; have q9 := M9.out; simp only [List.length_append, List.length_cons, spI, spU] at q4 q5 q6 ⊢; omega) ?_; intro v9 w9 o9 k9; have O9 := Lib.hid (show BT B w9 v9 (l ++ lineT ⟨3, tt, nn, ⟨ok, oy, oh, ov⟩, ⟨re, rv, ps, ro, rr⟩⟩) from by have := o9; simpa [lineT, restT, spI, spU] using this); have K9 := Lib.hid (KB.out.trans (K.out.trans k9)); clear o9 k9; go_wp2; refine bodyPost_ret (v := v9) (by simp [results, Tryd.results13, go_sem]) rfl ?_; exact ⟨v9, rfl, O9.out, K9.out⟩
  · have wd : V.cell? ⟨0, 4, none⟩ = some (.string ⟨(wordT 4).toArray⟩) := WD.out 4 (by decide) (by decide)
    go_enter Tryd.func13, Tryd.ntmps13
    go_wp2_with (with_reducible refine wp_stop 10 rfl ?_)
    intro _
    refine wp_str rfl (.tmp 5) (.tmp 9) rfl rfl HV.out hBV (wordT 4) rfl (wordT_len _) (by omega) ?_
    intro v0 w1 o1 k1
    have O := Lib.hid o1
    have K := Lib.hid k1
    clear o1 k1 wd x0 x1 x2 x3 x4 x5 x6 x7 x8 x9 x10 x11
    obtain ⟨x0, x1, x2, x3, x4, x5, x6, x7, x8, x9, x10, x11⟩ := XX.out.keep K.out.keep NB.out.byt; simp only [Nat.zero_add] at x0 x1 x2 x3 x4 x5 x6 x7 x8 x9 x10 x11; rw [HPL.out] at x9
    go_wp2_with fail
    refine (AI.out _ _ _ O.out K.out (by have q4 := L4.out; have q5 := L5.out; have q6 := L6.out; have q7 := M7.out; have q8 := M8.out; have q9 := M9.out; simp only [List.length_append, List.length_cons, spI, spU] at q4 q5 q6 ⊢; omega) tt HX.out.t).mono ?_; rintro e w2 ⟨v2, rfl, o2, k2⟩; have P := Lib.hid o2; have K' := Lib.hid (K.out.trans k2); clear o2 k2 O K x0 x1 x2 x3 x4 x5 x6 x7 x8 x9 x10 x11; have O := P; have K := K'; clear P K'; obtain ⟨x0, x1, x2, x3, x4, x5, x6, x7, x8, x9, x10, x11⟩ := XX.out.keep K.out.keep NB.out.byt; simp only [Nat.zero_add] at x0 x1 x2 x3 x4 x5 x6 x7 x8 x9 x10 x11; rw [HPL.out] at x9
    go_wp2_with fail
    refine (AU.out _ _ _ O.out K.out (by have q4 := L4.out; have q5 := L5.out; have q6 := L6.out; have q7 := M7.out; have q8 := M8.out; have q9 := M9.out; simp only [List.length_append, List.length_cons, spI, spU] at q4 q5 q6 ⊢; omega) nn HX.out.n).mono ?_; rintro e w2 ⟨v2, rfl, o2, k2⟩; have P := Lib.hid o2; have K' := Lib.hid (K.out.trans k2); clear o2 k2 O K x0 x1 x2 x3 x4 x5 x6 x7 x8 x9 x10 x11; have O := P; have K := K'; clear P K'; obtain ⟨x0, x1, x2, x3, x4, x5, x6, x7, x8, x9, x10, x11⟩ := XX.out.keep K.out.keep NB.out.byt; simp only [Nat.zero_add] at x0 x1 x2 x3 x4 x5 x6 x7 x8 x9 x10 x11; rw [HPL.out] at x9
    go_wp2_with (with_reducible refine wp_stop 52 rfl ?_); intro _; refine wp_byte rfl (.tmp 50) (.tmp 51) rfl rfl O.out (Nat.le_trans hBV K.out.size) 10 rfl (by have q4 := L4.out; have q5 := L5.out; have q6 := L6.out; have q7 := M7.out; have q8 := M8.out; have q9 := M9.out; simp only [List.length_append, List.length_cons, spI, spU] at q4 q5 q6 ⊢; omega) ?_; intro v9 w9 o9 k9; have O9 := Lib.hid (show BT B w9 v9 (l ++ lineT ⟨4, tt, nn, ⟨ok, oy, oh, ov⟩, ⟨re, rv, ps, ro, rr⟩⟩) from by have := o9; simpa [lineT, restT, spI, spU] using this); have K9 := Lib.hid (KB.out.trans (K.out.trans k9)); clear o9 k9; go_wp2; refine bodyPost_ret (v := v9) (by simp [results, Tryd.results13, go_sem]) rfl ?_; exact ⟨v9, rfl, O9.out, K9.out⟩
  · have wd : V.cell? ⟨0, 5, none⟩ = some (.string ⟨(wordT 5).toArray⟩) := WD.out 5 (by decide) (by decide)
    go_enter Tryd.func13, Tryd.ntmps13
    go_wp2_with (with_reducible refine wp_stop 10 rfl ?_)
    intro _
    refine wp_str rfl (.tmp 5) (.tmp 9) rfl rfl HV.out hBV (wordT 5) rfl (wordT_len _) (by omega) ?_
    intro v0 w1 o1 k1
    have O := Lib.hid o1
    have K := Lib.hid k1
    clear o1 k1 wd x0 x1 x2 x3 x4 x5 x6 x7 x8 x9 x10 x11
    obtain ⟨x0, x1, x2, x3, x4, x5, x6, x7, x8, x9, x10, x11⟩ := XX.out.keep K.out.keep NB.out.byt; simp only [Nat.zero_add] at x0 x1 x2 x3 x4 x5 x6 x7 x8 x9 x10 x11; rw [HPL.out] at x9
    go_wp2_with fail
    refine (AI.out _ _ _ O.out K.out (by have q4 := L4.out; have q5 := L5.out; have q6 := L6.out; have q7 := M7.out; have q8 := M8.out; have q9 := M9.out; simp only [List.length_append, List.length_cons, spI, spU] at q4 q5 q6 ⊢; omega) tt HX.out.t).mono ?_; rintro e w2 ⟨v2, rfl, o2, k2⟩; have P := Lib.hid o2; have K' := Lib.hid (K.out.trans k2); clear o2 k2 O K x0 x1 x2 x3 x4 x5 x6 x7 x8 x9 x10 x11; have O := P; have K := K'; clear P K'; obtain ⟨x0, x1, x2, x3, x4, x5, x6, x7, x8, x9, x10, x11⟩ := XX.out.keep K.out.keep NB.out.byt; simp only [Nat.zero_add] at x0 x1 x2 x3 x4 x5 x6 x7 x8 x9 x10 x11; rw [HPL.out] at x9
    go_wp2_with (with_reducible refine wp_stop 52 rfl ?_); intro _; refine wp_byte rfl (.tmp 50) (.tmp 51) rfl rfl O.out (Nat.le_trans hBV K.out.size) 10 rfl (by have q4 := L4.out; have q5 := L5.out; have q6 := L6.out; have q7 := M7.out; have q8 := M8.out; have q9 := M9.out; simp only [List.length_append, List.length_cons, spI, spU] at q4 q5 q6 ⊢; omega) ?_; intro v9 w9 o9 k9; have O9 := Lib.hid (show BT B w9 v9 (l ++ lineT ⟨5, tt, nn, ⟨ok, oy, oh, ov⟩, ⟨re, rv, ps, ro, rr⟩⟩) from by have := o9; simpa [lineT, restT, spI, spU] using this); have K9 := Lib.hid (KB.out.trans (K.out.trans k9)); clear o9 k9; go_wp2; refine bodyPost_ret (v := v9) (by simp [results, Tryd.results13, go_sem]) rfl ?_; exact ⟨v9, rfl, O9.out, K9.out⟩
  · have wd : V.cell? ⟨0, 6, none⟩ = some (.string ⟨(wordT 6).toArray⟩) := WD.out 6 (by decide) (by decide)
    go_enter Tryd.func13, Tryd.ntmps13
    go_wp2_with (with_reducible refine wp_stop 10 rfl ?_)
    intro _
    refine wp_str rfl (.tmp 5) (.tmp 9) rfl rfl HV.out hBV (wordT 6) rfl (wordT_len _) (by omega) ?_
    intro v0 w1 o1 k1
    have O := Lib.hid o1
    have K := Lib.hid k1
    clear o1 k1 wd x0 x1 x2 x3 x4 x5 x6 x7 x8 x9 x10 x11
    obtain ⟨x0, x1, x2, x3, x4, x5, x6, x7, x8, x9, x10, x11⟩ := XX.out.keep K.out.keep NB.out.byt; simp only [Nat.zero_add] at x0 x1 x2 x3 x4 x5 x6 x7 x8 x9 x10 x11; rw [HPL.out] at x9
    go_wp2_with fail
    refine (AI.out _ _ _ O.out K.out (by have q4 := L4.out; have q5 := L5.out; have q6 := L6.out; have q7 := M7.out; have q8 := M8.out; have q9 := M9.out; simp only [List.length_append, List.length_cons, spI, spU] at q4 q5 q6 ⊢; omega) tt HX.out.t).mono ?_; rintro e w2 ⟨v2, rfl, o2, k2⟩; have P := Lib.hid o2; have K' := Lib.hid (K.out.trans k2); clear o2 k2 O K x0 x1 x2 x3 x4 x5 x6 x7 x8 x9 x10 x11; have O := P; have K := K'; clear P K'; obtain ⟨x0, x1, x2, x3, x4, x5, x6, x7, x8, x9, x10, x11⟩ := XX.out.keep K.out.keep NB.out.byt; simp only [Nat.zero_add] at x0 x1 x2 x3 x4 x5 x6 x7 x8 x9 x10 x11; rw [HPL.out] at x9
    go_wp2_with fail
    refine (AI.out _ _ _ O.out K.out (by have q4 := L4.out; have q5 := L5.out; have q6 := L6.out; have q7 := M7.out; have q8 := M8.out; have q9 := M9.out; simp only [List.length_append, List.length_cons, spI, spU] at q4 q5 q6 ⊢; omega) rr HX.out.e).mono ?_; rintro e w2 ⟨v2, rfl, o2, k2⟩; have P := Lib.hid o2; have K' := Lib.hid (K.out.trans k2); clear o2 k2 O K x0 x1 x2 x3 x4 x5 x6 x7 x8 x9 x10 x11; have O := P; have K := K'; clear P K'; obtain ⟨x0, x1, x2, x3, x4, x5, x6, x7, x8, x9, x10, x11⟩ := XX.out.keep K.out.keep NB.out.byt; simp only [Nat.zero_add] at x0 x1 x2 x3 x4 x5 x6 x7 x8 x9 x10 x11; rw [HPL.out] at x9
    go_wp2_with (with_reducible refine wp_stop 52 rfl ?_); intro _; refine wp_byte rfl (.tmp 50) (.tmp 51) rfl rfl O.out (Nat.le_trans hBV K.out.size) 10 rfl (by have q4 := L4.out; have q5 := L5.out; have q6 := L6.out; have q7 := M7.out; have q8 := M8.out; have q9 := M9.out; simp only [List.length_append, List.length_cons, spI, spU] at q4 q5 q6 ⊢; omega) ?_; intro v9 w9 o9 k9; have O9 := Lib.hid (show BT B w9 v9 (l ++ lineT ⟨6, tt, nn, ⟨ok, oy, oh, ov⟩, ⟨re, rv, ps, ro, rr⟩⟩) from by have := o9; simpa [lineT, restT, spI, spU] using this); have K9 := Lib.hid (KB.out.trans (K.out.trans k9)); clear o9 k9; go_wp2; refine bodyPost_ret (v := v9) (by simp [results, Tryd.results13, go_sem]) rfl ?_; exact ⟨v9, rfl, O9.out, K9.out⟩
end
end Go.Proofs.YtalkfnblnlcklaaDoor
