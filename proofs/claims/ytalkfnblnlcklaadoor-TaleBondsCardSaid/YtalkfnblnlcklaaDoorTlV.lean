/- Package tale: Text. Condition: numbers of 64 bits; the table of strconv and the words as they are laid; at most 20,000 events with at most 1,000 Pairs each. -/
import Derived.Test.YtalkfnblnlcklaaDoorTlU
import Derived.Lib.BufferRead
namespace Go.Proofs.YtalkfnblnlcklaaDoor
open Go.ChangeShapes Go.WideShapes Go.ChangeAt Go.RowKit
set_option linter.unusedVariables false
set_option linter.unusedSimpArgs false
def TxR (w : World) (es : List EvI) (u i : Value) (wr : World) : Prop := ∃ k : Nat, k ≤ es.length ∧ i = .int .i64 k ∧ BT w.heap.size wr u ((es.take k).flatMap toldT) ∧ BK w.heap.size w wr
theorem text_len {es : List EvI} (hE : ∀ e ∈ es, EvB e) (hP : ∀ e ∈ es, e.r.pairs.length ≤ 1000) : (textT es).length ≤ es.length * 44200 := by
  refine flat_le es fun x hx => ?_
  have h1 := toldT_len (hE x hx)
  have h2 := hP x hx
  omega
section
variable {w w' : World} {v : Value} {es : List EvI}
theorem str_of {B : Nat} {l : List UInt8} (h : BT B w v l) : (Go.convert 51 9 v).run Tryd.prog w = .ok (.string ⟨l.toArray⟩) w := by
  have h0 := id h
  rcases h.2 with ⟨rfl, e⟩ | ⟨g, cap, cur, rfl, _⟩
  · have : l = [] := List.length_eq_zero_iff.1 e
    subst this
    exact Lib.run_convert_nil_bytes w _ _ 5 0 Tryd.underlying51 Tryd.underlying5 Tryd.underlying9
  · exact run_convert_bytes_back w _ _ 5 ⟨g, 0, none⟩ cap l Tryd.underlying51 Tryd.underlying5 Tryd.underlying9 fun j hj => World.ownsRow.cells h0 rfl j _ (by simp [Lib.byteCells, hj])
set_option maxRecDepth 100000 in
set_option maxHeartbeats 4000000 in
theorem text_any (hv : EvsIn w v es) (hE : ∀ e ∈ es, EvB e) (hP : ∀ e ∈ es, e.r.pairs.length ≤ 1000) (hl : es.length ≤ 20000) (hT : TabW w.heap.size w) (hW : WdW w.heap.size w) :
    Calls Tryd.prog 10 #[v] w fun e w' => e = .returned (.string ⟨(textT es).toArray⟩) ∧ Keep (fun _ => False) w w' := by
  obtain ⟨A, cA, rfl, hc, hm, hf⟩ := hv.form
  obtain ⟨n, hn⟩ : ∃ n, es.length = n := ⟨_, rfl⟩
  rw [hn] at hc hf hl ⊢
  have EN := Lib.hid hn
  have HF := Lib.hid hf
  have HP := Lib.hid hP
  have HE := Lib.hid hE
  have HT := Lib.hid hT
  have HW := Lib.hid hW
  have R0 : TxR w es (.slice none 0 0) (.int .i64 (0 : Nat)) w := ⟨0, Nat.zero_le _, rfl, BT.nil, BK.refl⟩
  clear hv hf hP hE hT hW hn
  go_enter Tryd.func10, Tryd.ntmps10
  go_wp2
  go_loopw [3, 8] (TxR w es) (fun _ i _ => n - (intOf i).toNat)
  case atStart => exact R0
  case round =>
    obtain ⟨k, hk, rfl, H, kr⟩ := hrel
    rw [EN.out] at hk
    clear R0
    by_cases hlt : k < n
    · obtain ⟨x, hx⟩ : ∃ x, es[k]? = some x := ⟨_, List.getElem?_eq_getElem (by rw [EN.out]; exact hlt)⟩
      obtain ⟨bb, off, rfl, hbl, hcc⟩ := HF.out (by omega)
      obtain ⟨A2, c2, L2, E⟩ := hcc k x hx
      have ka := kr.args (Keep.refl _ _) (Nat.le_refl _)
      have E := E.keep ka id
      have hEx := HE.out x (List.mem_of_getElem? hx)
      have hPx := HP.out x (List.mem_of_getElem? hx)
      obtain ⟨V, eV, X, kV⟩ := ev_box wr x (.slice A2 x.r.pairs.length c2)
      have kr2 := kr.trans (kV.bk kr.size)
      have hlen : ((es.take k).flatMap toldT).length ≤ 884000000 := by
        have q := flat_le (f := toldT) (c := 44200) (es.take k) fun m hm => by
          have h1 := toldT_len (HE.out m (List.mem_of_mem_take hm))
          have h2 := HP.out m (List.mem_of_mem_take hm)
          omega
        rw [List.length_take, EN.out] at q
        have : min k n * 44200 ≤ n * 44200 := Nat.mul_le_mul_right _ (Nat.min_le_right _ _)
        omega
      have AL := Lib.hid (fun hkd => appendLine_any (A2 := A2) (c2 := c2) hEx hkd L2 (ka.trans kV) (Nat.le_refl _) (H.kept kV) kr2.size (HT.out.on kr2.b) (wd_on HW.out kr2.b) (by omega))
      have wk : IntKind.i64.wrap ((k : Int) + 1) = (k : Int) + 1 := IntWalk.i64_in _ (by omega)
      have MO := Lib.hid (fun w1 u (o : BT w.heap.size w1 u ((es.take k).flatMap toldT ++ toldT x)) (k1 : BK w.heap.size V w1) => (show TxR w es u (.int .i64 ((k : Int) + 1)) w1 from ⟨k + 1, by rw [EN.out]; omega, by go_num, by rw [flat_more hx]; exact o, kr2.trans k1⟩))
      have HB := Lib.hid (H.kept kV)
      obtain ⟨c0, c1, c2', c3, c4, c5, c6, c7, c8, c9, c10, c11⟩ := E
      obtain ⟨x0, x1, x2, x3, x4, x5, x6, x7, x8, x9, x10, x11⟩ := X
      simp only [Nat.zero_add] at x0 x1 x2 x3 x4 x5 x6 x7 x8 x9 x10 x11
      obtain ⟨N, eN⟩ : ∃ N, wr.heap.size = N := ⟨_, rfl⟩
      rw [eN] at x0 x1 x2 x3 x4 x5 x6 x7 x8 x9 x10 x11
      obtain ⟨pl, hpl⟩ : ∃ pl, x.r.pairs.length = pl := ⟨_, rfl⟩
      unfold evV at AL
      rw [hpl] at AL c9 x9 eV
      clear hcc L2 hbl H kr ka kV kr2 hpl hx hEx hPx hlen
      by_cases hkd : 1 ≤ x.kind ∧ x.kind ≤ 6
      · have d1 : decide (1 ≤ x.kind) = true := decide_eq_true hkd.1
        have d2 : decide (x.kind ≤ 6) = true := decide_eq_true hkd.2
        have AQ := Lib.hid (AL.out hkd)
        have tk : toldT x = lineT x := by unfold toldT; rw [if_pos hkd]
        rw [tk] at MO
        have hk1 := hkd.1
        have hk2 := hkd.2
        clear AL tk hkd
        obtain ⟨kd, tt, nn, ⟨ok, oy, oh, ov⟩, ⟨re, rv, ps, ro, rr⟩⟩ := x
        dsimp only at *
        clear HB
        go_wp2_with fail
        refine AQ.out.mono ?_
        rintro e w1 ⟨u1, rfl, o1, k1⟩
        have NEW := Lib.hid (MO.out w1 u1 o1 k1)
        clear o1 k1
        go_wp2_with fail; go_roundw; (case rel => first | exact NEW.out | exact ⟨_, _, _, NEW.out, rfl, rfl⟩ | exact ⟨_, _, NEW.out, rfl⟩); (case measure => (simp [intOf]; try omega))
      · have tk : toldT x = [] := by unfold toldT; rw [if_neg hkd]
        have NEW := Lib.hid (MO.out V u3 (by rw [tk, List.append_nil]; exact HB.out) BK.refl)
        clear AL tk MO HB
        obtain ⟨kd, tt, nn, ⟨ok, oy, oh, ov⟩, ⟨re, rv, ps, ro, rr⟩⟩ := x
        dsimp only at *
        by_cases h1 : 1 ≤ kd
        · have d1 : decide (1 ≤ kd) = true := decide_eq_true h1
          have d2 : decide (kd ≤ 6) = false := decide_eq_false (by omega)
          clear hkd h1
          go_wp2_with fail; go_roundw; (case rel => first | exact NEW.out | exact ⟨_, _, _, NEW.out, rfl, rfl⟩ | exact ⟨_, _, NEW.out, rfl⟩); (case measure => (simp [intOf]; try omega))
        · have d1 : decide (1 ≤ kd) = false := decide_eq_false h1
          clear hkd h1
          go_wp2_with fail; go_roundw; (case rel => first | exact NEW.out | exact ⟨_, _, _, NEW.out, rfl, rfl⟩ | exact ⟨_, _, NEW.out, rfl⟩); (case measure => (simp [intOf]; try omega))
    · obtain rfl : k = n := by omega
      have FS := str_of H
      rw [List.take_of_length_le (by rw [EN.out]; exact Nat.le_refl _)] at FS
      have KF := Lib.hid (kr.args (Keep.refl _ _) (Nat.le_refl _))
      clear H kr hk hlt
      obtain ⟨tx, etx⟩ : ∃ tx, es.flatMap toldT = tx := ⟨_, rfl⟩
      have ET := Lib.hid etx
      rw [etx] at FS
      clear etx
      go_wp2
      first | go_ret2 | refine bodyPost_ret (v := .string ⟨tx.toArray⟩) (by simp [results, Tryd.results10, go_sem]) rfl ?_
      refine ⟨?_, KF.out⟩
      unfold textT
      rw [ET.out]
end
end Go.Proofs.YtalkfnblnlcklaaDoor
