/- Package tale: what Text writes, appendInt, appendUint. Condition: numbers of 64 bits; the table of strconv as it is laid. -/
import Derived.Test.YtalkfnblnlcklaaDoorTlE
import Derived.Test.YtalkfnblnlcklaaDoorDec
import Derived.Lib.AppendIntMem
import Derived.Lib.ItoaLen
import Derived.Lib.OwnKind
import Derived.Lib.BufferKept
import Derived.Lib.Hide
import Derived.Laws.IdiomStrings
import Derived.OwnWalk
namespace Go.Proofs.YtalkfnblnlcklaaDoor
open Go.ChangeShapes Go.WideShapes Go.ChangeAt Go.RowKit
set_option linter.unusedVariables false
set_option linter.unusedSimpArgs false
/-- Bytes that the call itself gathers. -/
def BT (B : Nat) (w : World) (v : Value) (l : List UInt8) : Prop := w.ownsRow B 5 1 v l.length (Lib.byteCells l)
/-- Nothing turns but rows of bytes from block B on. -/
structure BK (B : Nat) (w w' : World) : Prop where
  b : Below B w w'
  o : Lib.OthersKept 5 none w w'
abbrev TabW (B : Nat) (w : World) : Prop := Lib.TabBelow Tryd.prog B w "internal/strconv.uint64pow10" .u64 Lib.pow10Tab
def I64 (a : Int) : Prop := -9223372036854775808 ≤ a ∧ a ≤ 9223372036854775807
def Un64 (a : Int) : Prop := 0 ≤ a ∧ a ≤ 18446744073709551615
section
variable {w w1 w' : World} {v : Value} {l l' : List UInt8} {B : Nat}
theorem BK.refl : BK B w w := ⟨Below.refl _ _, Lib.OthersKept.refl _ _ _⟩
theorem BK.trans (h : BK B w w1) (k : BK B w1 w') : BK B w w' := ⟨h.b.trans k.b, h.o.trans k.o⟩
theorem BK.size (h : BK B w w') : w.heap.size ≤ w'.heap.size := h.b.size
theorem Keep.bk (k : Keep (fun _ => False) w w') (hB : B ≤ w.heap.size) : BK B w w' :=
  ⟨⟨k.os, k.tape, k.output, k.size, fun i hi => k.block i (Nat.lt_of_lt_of_le hi hB) id⟩, fun j o hj _ _ => by rw [k.block j (Array.getElem?_eq_some_iff.1 hj).1 id]; exact hj⟩
/-- A row of bytes from B on. -/
def Byt (B : Nat) (w : World) (j : Nat) : Prop := B ≤ j ∧ ∃ c fz, w.heap[j]? = some (.cells c 5 fz)
theorem BK.keep (h : BK B w w') : Keep (Byt B w) w w' := by
  refine ⟨h.b.os, h.b.tape, h.b.output, h.b.size, fun j hj hn => ?_⟩
  by_cases c : j < B
  · exact h.b.block j c
  · obtain ⟨o, ho⟩ : ∃ o, w.heap[j]? = some o := ⟨_, Array.getElem?_eq_getElem hj⟩
    rw [ho]
    exact h.o j o ho (by simp) fun c' fz e => hn ⟨by omega, c', fz, by rw [ho, e]⟩
/-- A block that is no row of bytes stays one. -/
def NoB (w : World) (j : Nat) : Prop := ∃ c t fz, w.heap[j]? = some (.cells c t fz) ∧ t ≠ 5
theorem NoB.byt {j : Nat} (h : NoB w j) : ¬ Byt B w j := fun ⟨_, c, fz, e⟩ => by
  obtain ⟨c', t, fz', e', hn⟩ := h
  rw [e'] at e
  cases e
  exact hn rfl
theorem NoB.keep {j : Nat} (h : NoB w j) (k : BK B w w') : NoB w' j := by
  have hn := h.byt (B := B)
  obtain ⟨c', t, fz', e', hx⟩ := h
  exact ⟨c', t, fz', by rw [k.keep.block j (Array.getElem?_eq_some_iff.1 e').1 hn]; exact e', hx⟩
theorem BK.args {w0 : World} (h : BK B w w') (k : Keep (fun _ => False) w0 w) (hB : w0.heap.size ≤ B) : Keep (fun _ => False) w0 w' := k.older h.keep fun j hj => Nat.le_trans hB hj.1
theorem BT.kept (h : BT B w v l) (k : Keep (fun _ => False) w w') : BT B w' v l := by
  obtain ⟨h1, h2⟩ := h
  refine ⟨h1, h2.imp id ?_⟩
  rintro ⟨g, cap, cur, e, hb, hh, r⟩
  exact ⟨g, cap, cur, e, hb, by rw [k.block g (Array.getElem?_eq_some_iff.1 hh).1 id]; exact hh, r⟩
theorem BT.of {n : Nat} {xs : List Value} (h : w.ownsRow B 5 1 v n xs) (hx : xs = Lib.byteCells l) : BT B w v l := by
  subst hx
  have := h.1
  rw [Lib.byteCells_length, Nat.mul_one] at this
  subst this
  exact h
theorem info_u8 : (Tryd.prog.info? 5).map (fun i => (i.zero, i.size, i.bytes)) = some (some (.int .u8 0), 1, 1) := by kernel_rfl
/-- 'append(b, c)': one byte. -/
theorem wp_byte {ops : Array Oper} {rest : List Oper} {o : Oper} {a : Act} {Q : Exit → Act → World → Prop} (hgd : o.guard = none) (s x : Operand)
    (ho : o.op = .call { callee := .builtin .append, args := #[s, x], argTypes := #[51, 51] })
    (hs : a.eval s = v) (hown : BT B w v l) (hB : B ≤ w.heap.size) (c : UInt8) (hx : a.eval x = .slice (some ⟨w.heap.size, 0, none⟩) 1 1) (hl : l.length + 1 ≤ 1000000000000)
    (h : ∀ v' w', BT B w' v' (l ++ [c]) → BK B w w' → wpList Tryd.prog ops Q rest (a.put o.dst v') w') :
    wpList Tryd.prog ops Q (o :: rest) a (w.alloc (.cells #[.int .u8 c.toNat] 5)) := by
  obtain ⟨i0, hi0, hz0, hz1, hz2⟩ := info_parts info_u8
  have k0 : Keep (fun _ => False) w (w.alloc (.cells #[.int .u8 c.toNat] 5)) := (Keep.refl _ _).alloc _
  have own' := hown.kept k0
  refine wpList_append_own _ hgd s x _ ho B 5 i0 (.int .u8 0) 1 1 Tryd.underlying51 hi0 hz0 hz1 hz2 rfl (by decide) v l.length _ hs own' ⟨w.heap.size, 0, none⟩ 1 1 [.int .u8 c.toNat] hx rfl (fun j u hj => by match j, hj with | 0, hj => simp at hj; subst hj; simp [Addr.add]) (fun u hu => by simp at hu; subst hu; rfl) (by unfold maxLen; omega) (by omega) (by have := k0.size; omega) ?_
  intro v' w' o1 gr _
  have kb := Keep.bk k0 hB
  refine h v' w' (BT.of o1 (by rw [Lib.byteCells_append]; rfl)) ⟨?_, ?_⟩
  · exact kb.b.grown gr (by have := k0.size; omega) (fun k hk => (World.ownsRow.lt own' k hk).1)
  · exact kb.o.grown gr (fun g hg => Lib.ownsRow_kind own' g hg)
theorem BT.nil : BT B w (.slice none 0 0) [] := World.ownsRow_nil _ _ _ _
def spI (n : Int) : List UInt8 := 32 :: Lib.itoa n
def spU (n : Int) : List UInt8 := 32 :: Lib.decDigits n.toNat
set_option maxRecDepth 100000 in
theorem appendInt_any (h : BT B w v l) (hB : B ≤ w.heap.size) (hT : TabW B w) (hl : l.length + 100 ≤ 1000000000000) (mark : UInt8) (n : Int) (hn : I64 n) : Calls Tryd.prog 16 #[v, .int .u8 mark.toNat, .int .i64 n] w fun e w' => ∃ v', e = .returned v' ∧ BT B w' v' (l ++ mark :: Lib.itoa n) ∧ BK B w w' := by
  have H := Lib.hid h
  have HT := Lib.hid hT
  have HN := Lib.hid hn
  clear h hT hn
  go_enter Tryd.func16, Tryd.ntmps16
  go_wp2_with (with_reducible refine wp_stop 10 rfl ?_)
  intro _
  refine wp_byte rfl (.tmp 7) (.tmp 9) rfl rfl H.out hB mark rfl (by omega) ?_
  intro v1 w1 o1 k1
  have O1 := Lib.hid o1
  have K1 := Lib.hid k1
  have TB := Lib.hid (Tryd.strconv_AppendInt_10 B _ n HN.out.1 HN.out.2 v1 _ w1 o1 (Nat.le_trans hB k1.size) (by rw [List.length_append]; simp only [List.length_cons, List.length_nil]; omega) (HT.out.on k1.b))
  clear o1 k1
  go_wp2_with fail
  refine TB.out.mono ?_
  rintro e w2 ⟨v2, rfl, o2, b2, q2⟩
  have O2 := Lib.hid (show BT B w2 v2 (l ++ mark :: Lib.itoa n) from BT.of o2 (by rw [← Lib.byteCells_append]; simp))
  have K2 := Lib.hid (K1.out.trans ⟨b2, q2⟩)
  clear o2 b2 q2
  go_wp2
  refine bodyPost_ret (v := v2) (by simp [results, Tryd.results16, go_sem]) rfl ?_
  exact ⟨v2, rfl, O2.out, K2.out⟩
set_option maxRecDepth 100000 in
theorem appendUint_pub (h : BT B w v l) (hB : B ≤ w.heap.size) (hT : TabW B w) (hl : l.length + 100 ≤ 1000000000000) (n : Int) (hn : Un64 n) : Calls Tryd.prog 28 #[v, .int .u64 n, .int .i64 10] w fun e w' => ∃ v', e = .returned v' ∧ BT B w' v' (l ++ Lib.decDigits n.toNat) ∧ BK B w w' := by
  obtain ⟨u, rfl⟩ : ∃ u : Nat, n = u := ⟨n.toNat, by have := hn.1; omega⟩
  have TB := Lib.hid (Tryd.internal_strconv_AppendUint_10 B _ u (by have := hn.2; omega) v _ w h hB (by omega) hT.here)
  clear h hT hn
  go_enter Tryd.func28, Tryd.ntmps28
  go_wp2_with fail
  refine TB.out.mono ?_
  rintro e w2 ⟨v2, rfl, o2, b2, q2⟩
  have O2 := Lib.hid (show BT B w2 v2 (l ++ Lib.decDigits (u : Int).toNat) from BT.of o2 (by rw [← Lib.byteCells_append]; simp))
  have K2 := Lib.hid (show BK B w w2 from ⟨b2, q2⟩)
  clear o2 b2 q2
  go_wp2
  refine bodyPost_ret (v := v2) (by simp [results, Tryd.results28, go_sem]) rfl ?_
  exact ⟨v2, rfl, O2.out, K2.out⟩
set_option maxRecDepth 100000 in
theorem appendUint_any (h : BT B w v l) (hB : B ≤ w.heap.size) (hT : TabW B w) (hl : l.length + 101 ≤ 1000000000000) (n : Int) (hn : Un64 n) : Calls Tryd.prog 17 #[v, .int .u64 n] w fun e w' => ∃ v', e = .returned v' ∧ BT B w' v' (l ++ spU n) ∧ BK B w w' := by
  have H := Lib.hid h
  have HT := Lib.hid hT
  have HN := Lib.hid hn
  clear h hT hn
  go_enter Tryd.func17, Tryd.ntmps17
  go_wp2_with (with_reducible refine wp_stop 7 rfl ?_)
  intro _
  refine wp_byte rfl (.tmp 5) (.tmp 6) rfl rfl H.out hB 32 rfl (by omega) ?_
  intro v1 w1 o1 k1
  have K1 := Lib.hid k1
  have TB := Lib.hid (appendUint_pub o1 (Nat.le_trans hB k1.size) (HT.out.on k1.b) (by rw [List.length_append]; simp only [List.length_cons, List.length_nil]; omega) n HN.out)
  clear o1 k1
  go_wp2_with fail
  refine TB.out.mono ?_
  rintro e w2 ⟨v2, rfl, o2, k2⟩
  have O2 := Lib.hid (show BT B w2 v2 (l ++ spU n) from by unfold spU; simpa using o2)
  have K2 := Lib.hid (K1.out.trans k2)
  clear o2 k2
  go_wp2
  refine bodyPost_ret (v := v2) (by simp [results, Tryd.results17, go_sem]) rfl ?_
  exact ⟨v2, rfl, O2.out, K2.out⟩
end
end Go.Proofs.YtalkfnblnlcklaaDoor
