/- Package tale: appendOp. Condition: numbers of 64 bits; the table of strconv as it is laid. -/
import Derived.Test.YtalkfnblnlcklaaDoorTlS
namespace Go.Proofs.YtalkfnblnlcklaaDoor
open Go.ChangeShapes Go.WideShapes Go.ChangeAt Go.RowKit
set_option linter.unusedVariables false
set_option linter.unusedSimpArgs false
theorem run_index_arrT {P : Program} {t e : TypeId} {n i : Nat} (cs : List Value) {d : TypeDesc} (hu : P.underlying t = some (.array n e)) (he : P.underlying e = some d) (hd : (match d with | .struct _ | .array _ _ => false | _ => true) = true)
    (hs : (P.info? e).map (·.size) = some 1) (hi : i < n) {v : Value} (hv : cs[i]? = some v) (w : World) : (Instr.index t (.agg cs.toArray) (.int .i64 i)).run P w = .ok v w := by
  cases hq : P.info? e with
  | none => simp [hq] at hs
  | some j =>
    have hz : j.size = 1 := by simpa [hq] using hs
    have hagg : (isAgg e).run P w = .ok false w := by
      unfold isAgg
      rw [Sem.run_bind, run_underlying he w]
      cases d <;> simp_all
    have h0 : (0 : Int) ≤ (i : Int) ∧ (i : Int) < (n : Int) := ⟨by omega, by omega⟩
    unfold Instr.index
    simp only [asIntOf, Sem.run_bind, Sem.run_pure, Result.andThen_ok, run_underlying hu w]
    simp [h0, Sem.run_bind, sizeOf, typeInfo, hq, hz, part, hagg, hi, hv]
def prT (p : Int × Int) : List UInt8 := 32 :: Lib.itoa p.1 ++ 61 :: Lib.itoa p.2
def nums (o : OpI) (r : ReI) : List Int := [o.kind, o.key, o.hi, o.val, r.e, r.val]
def opT (o : OpI) (r : ReI) : List UInt8 := (nums o r).flatMap spI ++ r.pairs.flatMap prT
theorem spI_len {n : Int} (h : I64 n) : (spI n).length ≤ 22 := by have := Lib.itoa_length_le n h.1 h.2; unfold spI; simp only [List.length_cons]; omega
theorem flat_le {α : Type} {f : α → List UInt8} {c : Nat} (l : List α) (h : ∀ x ∈ l, (f x).length ≤ c) : (l.flatMap f).length ≤ l.length * c := by
  induction l with
  | nil => simp
  | cons a l ih =>
    have h1 := h a (List.mem_cons_self ..)
    have h2 := ih fun x hx => h x (List.mem_cons_of_mem _ hx)
    rw [List.flatMap_cons, List.length_append, List.length_cons, Nat.succ_mul]
    omega
theorem prT_len {p : Int × Int} (h : I64 p.1 ∧ I64 p.2) : (prT p).length ≤ 44 := by
  have h1 := Lib.itoa_length_le p.1 h.1.1 h.1.2
  have h2 := Lib.itoa_length_le p.2 h.2.1 h.2.2
  unfold prT
  simp only [List.length_append, List.length_cons]
  omega
theorem flat_more {α : Type} {f : α → List UInt8} {l : List α} {k : Nat} {x : α} (hx : l[k]? = some x) : (l.take (k + 1)).flatMap f = (l.take k).flatMap f ++ f x := by
  rw [List.take_add_one, hx, List.flatMap_append]
  simp
def OpR (V : World) (B : Nat) (l : List UInt8) (L : List Int) (u i : Value) (wr : World) : Prop := ∃ k : Nat, k ≤ L.length ∧ i = .int .i64 k ∧ BT B wr u (l ++ (L.take k).flatMap spI) ∧ BK B V wr
def OpP (V : World) (B : Nat) (l : List UInt8) (ps : List (Int × Int)) (u i : Value) (wr : World) : Prop := ∃ k : Nat, k ≤ ps.length ∧ i = .int .i64 k ∧ BT B wr u (l ++ (ps.take k).flatMap prT) ∧ BK B V wr
section
variable {w w0 w' : World} {v : Value} {l : List UInt8} {B : Nat} {A2 : Option Addr} {c2 : Nat}
theorem OpR.more {V w1 : World} {L : List Int} {k : Nat} {n : Int} (hn : L[k]? = some n) {u' : Value} (h : BT B w1 u' ((l ++ (L.take k).flatMap spI) ++ 32 :: Lib.itoa n)) (k1 : BK B V w1) : OpR V B l L u' (.int .i64 ((k : Int) + 1)) w1 :=
  ⟨k + 1, (List.getElem?_eq_some_iff.1 hn).1, by go_num, by rw [flat_more hn, ← List.append_assoc]; exact h, k1⟩
set_option maxRecDepth 100000 in
set_option maxHeartbeats 4000000 in
theorem appendOp_any {o : OpI} {r : ReI} (hp : LPr w0 (.slice A2 r.pairs.length c2) r.pairs) (k0 : Keep (fun _ => False) w0 w) (hB0 : w0.heap.size ≤ B) (h : BT B w v l) (hB : B ≤ w.heap.size) (hT : TabW B w) (hl : l.length + 1000 + 60 * r.pairs.length ≤ 900000000000) (hn : ∀ n ∈ nums o r, I64 n) (hps : ∀ p ∈ r.pairs, I64 p.1 ∧ I64 p.2) :
    Calls Tryd.prog 18 #[v, .agg #[.int .i64 o.kind, .int .i64 o.key, .int .i64 o.hi, .int .i64 o.val], .agg #[.int .i64 r.e, .int .i64 r.val, .slice A2 r.pairs.length c2, .int .i64 r.over, .int .i64 r.reason]] w fun e w' => ∃ v', e = .returned v' ∧ BT B w' v' (l ++ opT o r) ∧ BK B w w' := by
  obtain ⟨W, eW⟩ : ∃ W, w.alloc (.cells #[.int .i64 o.kind, .int .i64 o.key, .int .i64 o.hi, .int .i64 o.val] 24) = W := ⟨_, rfl⟩
  obtain ⟨V, eV⟩ : ∃ V, W.alloc (.cells #[.int .i64 r.e, .int .i64 r.val, .slice A2 r.pairs.length c2, .int .i64 r.over, .int .i64 r.reason] 28) = V := ⟨_, rfl⟩
  have kW : Keep (fun _ => False) w W := by rw [← eW]; exact (Keep.refl _ _).alloc _
  have kV : Keep (fun _ => False) W V := by rw [← eV]; exact (Keep.refl _ _).alloc _
  obtain ⟨N, eN⟩ : ∃ N, w.heap.size = N := ⟨_, rfl⟩
  have sW : W.heap.size = N + 1 := by rw [← eW, ← eN]; simp
  have a0 : V.cell? ⟨N, 0, none⟩ = some (.int .i64 o.kind) := kV.cell (by rw [← eW, ← eN]; simp) id
  have a1 : V.cell? ⟨N, 1, none⟩ = some (.int .i64 o.key) := kV.cell (by rw [← eW, ← eN]; simp) id
  have a2 : V.cell? ⟨N, 2, none⟩ = some (.int .i64 o.hi) := kV.cell (by rw [← eW, ← eN]; simp) id
  have a3 : V.cell? ⟨N, 3, none⟩ = some (.int .i64 o.val) := kV.cell (by rw [← eW, ← eN]; simp) id
  have b0 : V.cell? ⟨N + 1, 0, none⟩ = some (.int .i64 r.e) := by rw [← eV, ← sW]; simp
  have b1 : V.cell? ⟨N + 1, 1, none⟩ = some (.int .i64 r.val) := by rw [← eV, ← sW]; simp
  have b2 : V.cell? ⟨N + 1, 2, none⟩ = some (.slice A2 r.pairs.length c2) := by rw [← eV, ← sW]; simp
  have nb : NoB V (N + 1) := ⟨_, _, _, by rw [← eV, ← sW]; exact heap_alloc_new W _, by decide⟩
  have k2 : Keep (fun _ => False) w V := kW.trans kV
  have R0 : OpR V B l (nums o r) v (.int .i64 (0 : Nat)) V := ⟨0, Nat.zero_le _, rfl, by simpa using h.kept k2, BK.refl⟩
  have B2 := Lib.hid b2
  have NB := Lib.hid nb
  have KA := Lib.hid (k0.trans k2)
  have KB := Lib.hid (k2.bk hB)
  have HT := Lib.hid (hT.on (k2.bk hB).b)
  have hBV := Nat.le_trans hB k2.size
  have HN := Lib.hid hn
  have HP := Lib.hid hps
  have HL := Lib.hid hp
  have lops := flat_le (f := spI) (c := 22) (nums o r) fun n hm => spI_len (hn n hm)
  have n6 : (nums o r).length = 6 := rfl
  rw [n6] at lops
  have LO := Lib.hid lops
  obtain ⟨L, eL⟩ : ∃ L, nums o r = L := ⟨_, rfl⟩
  have EL := Lib.hid eL
  rw [eL] at R0
  clear hT h k0 kW kV k2 b2 nb hn hps hp lops n6 eL
  go_enter Tryd.func18, Tryd.ntmps18
  go_wp2
  go_loopw [0, 24] (OpR V B l L) (fun _ i _ => 6 - (intOf i).toNat)
  case atStart => exact R0
  case round =>
    obtain ⟨k, hk, rfl, H, kr⟩ := hrel
    have n6 : L.length = 6 := by rw [← EL.out]; rfl
    rw [n6] at hk
    clear R0
    by_cases hlt : k < 6
    · obtain ⟨n, hx⟩ : ∃ n, L[k]? = some n := ⟨_, List.getElem?_eq_getElem (by rw [n6]; exact hlt)⟩
      have hb := HN.out n (by rw [EL.out]; exact List.mem_of_getElem? hx)
      have hl2 : (l ++ (L.take k).flatMap spI).length + 100 ≤ 1000000000000 := by
        have q := flat_le (f := spI) (c := 22) (L.take k) fun m hm => spI_len (HN.out m (by rw [EL.out]; exact List.mem_of_mem_take hm))
        rw [List.length_take, n6] at q
        rw [List.length_append]
        have : min k 6 * 22 ≤ 6 * 22 := Nat.mul_le_mul_right _ (Nat.min_le_right _ _)
        omega
      have AP := Lib.hid (appendInt_any H (Nat.le_trans hBV kr.size) (HT.out.on kr.b) hl2 32 n hb)
      have MO := Lib.hid (fun w1 u' => OpR.more (V := V) (w1 := w1) (u' := u') (B := B) (l := l) hx)
      have KR := Lib.hid kr
      have wk : IntKind.i64.wrap ((k : Int) + 1) = (k : Int) + 1 := IntWalk.i64_in _ (by omega)
      have ix := fun w => run_index_arrT (P := Tryd.prog) [.int .i64 o.kind, .int .i64 o.key, .int .i64 o.hi, .int .i64 o.val, .int .i64 r.e, .int .i64 r.val] Tryd.underlying88 Tryd.underlying3 rfl (by kernel_rfl) hlt (v := .int .i64 n) (by
        have : ((nums o r).map (Value.int .i64))[k]? = some (.int .i64 n) := by rw [List.getElem?_map, EL.out, hx]; rfl
        exact this) w
      have dk : decide ((k : Int) < 6) = true := decide_eq_true (by omega)
      clear hb hl2 H hk kr n6 hx
      go_wp2_with fail
      refine AP.out.mono ?_
      rintro e w1 ⟨u1, rfl, o1, k1⟩
      have NEW := Lib.hid (MO.out w1 u1 o1 (KR.out.trans k1))
      clear o1 k1 ix dk
      go_wp2_with fail; go_roundw; (case rel => first | exact NEW.out | exact ⟨_, _, _, _, _, _, _, _, _, _, _, _, _, _, _, NEW.out, rfl⟩); (case measure => (simp [intOf]; try omega))
    · obtain rfl : k = 6 := by omega
      have d6 : decide (((6 : Nat) : Int) < 6) = false := by decide
      have e6 : L.take 6 = L := List.take_of_length_le (by rw [n6]; exact Nat.le_refl _)
      rw [e6] at H
      have b3 : wr.cell? ⟨N + 1, 2, none⟩ = some (.slice A2 r.pairs.length c2) := kr.keep.cell B2.out NB.out.byt
      obtain ⟨l1, hl1⟩ : ∃ l1, l ++ L.flatMap spI = l1 := ⟨_, rfl⟩
      rw [hl1] at H
      have EL1 := Lib.hid hl1
      obtain ⟨A, c, e, hc, hm, hz, hf⟩ := HL.out
      cases e
      have HF := Lib.hid hf
      obtain ⟨ps, eps⟩ : ∃ ps, r.pairs = ps := ⟨_, rfl⟩
      have EP := Lib.hid eps
      rw [eps] at hc b3 HF
      obtain ⟨pl, hpl⟩ : ∃ pl, ps.length = pl := ⟨_, rfl⟩
      have PL := Lib.hid hpl
      rw [hpl] at hc b3 HF
      have R1 : OpP V B l1 ps u0 (.int .i64 (0 : Nat)) wr := ⟨0, Nat.zero_le _, rfl, by simpa using H, kr⟩
      clear H kr e6 hl1 n6 hk hlt hz hf hm eps hpl
      go_wp2
      go_loopw [0, 34] (OpP V B l1 ps) (fun _ i _ => pl - (intOf i).toNat)
      case atStart => exact R1
      case round =>
        obtain ⟨k, hk, rfl, H, kr⟩ := hrel
        rw [PL.out] at hk
        clear R1
        by_cases hlt : k < pl
        · obtain ⟨p, hx⟩ : ∃ p, ps[k]? = some p := ⟨_, List.getElem?_eq_getElem (by rw [PL.out]; exact hlt)⟩
          obtain ⟨b, off, rfl, hb, hcc⟩ := HF.out (by omega)
          have ka := kr.args KA.out hB0
          have g0 := ka.cell (hcc k p hx 0 _ rfl) id
          have g1 := ka.cell (hcc k p hx 1 _ rfl) id
          have g0 : wr.cell? ⟨b, off + k * 2, none⟩ = some (.int .i64 p.1) := g0
          have g1 : wr.cell? ⟨b, off + k * 2 + 1, none⟩ = some (.int .i64 p.2) := g1
          have hb2 := HP.out p (by rw [EP.out]; exact List.mem_of_getElem? hx)
          have hl2 : (l1 ++ (ps.take k).flatMap prT).length + 200 ≤ 1000000000000 := by
            have q := flat_le (f := prT) (c := 44) (ps.take k) fun m hm => prT_len (HP.out m (by rw [EP.out]; exact List.mem_of_mem_take hm))
            rw [List.length_take, PL.out] at q
            have q1 := LO.out
            have q2 := congrArg List.length EL1.out
            rw [List.length_append] at q2 ⊢
            rw [EL.out] at q1
            rw [EP.out, PL.out] at hl
            have : min k pl * 44 ≤ pl * 44 := Nat.mul_le_mul_right _ (Nat.min_le_right _ _)
            omega
          obtain ⟨V2, eV2⟩ : ∃ V2, wr.alloc (.cells #[.int .i64 p.1, .int .i64 p.2] 50) = V2 := ⟨_, rfl⟩
          have kV2 : Keep (fun _ => False) wr V2 := by rw [← eV2]; exact (Keep.refl _ _).alloc _
          obtain ⟨M, eM⟩ : ∃ M, wr.heap.size = M := ⟨_, rfl⟩
          have m0 : V2.cell? ⟨M, 0, none⟩ = some (.int .i64 p.1) := by rw [← eV2, ← eM]; simp
          have m1 : V2.cell? ⟨M, 1, none⟩ = some (.int .i64 p.2) := by rw [← eV2, ← eM]; simp
          have nM : NoB V2 M := ⟨_, _, _, by rw [← eV2, ← eM]; exact heap_alloc_new wr _, by decide⟩
          have kr2 := kr.trans (kV2.bk (Nat.le_trans hBV kr.size))
          have hB2 := Nat.le_trans hBV kr2.size
          have AP := Lib.hid (appendInt_any (H.kept kV2) hB2 (HT.out.on kr2.b) (by omega) 32 p.1 hb2.1)
          have AQ := Lib.hid (fun w1 v1 (o1 : BT B w1 v1 ((l1 ++ (ps.take k).flatMap prT) ++ 32 :: Lib.itoa p.1)) (k1 : BK B V2 w1) => appendInt_any o1 (Nat.le_trans hB2 k1.size) (HT.out.on (kr2.trans k1).b) (by
            have := Lib.itoa_length_le p.1 hb2.1.1 hb2.1.2
            rw [List.length_append, List.length_cons]; omega) 61 p.2 hb2.2)
          have MO := Lib.hid (fun w1 v1 (o1 : BT B w1 v1 (((l1 ++ (ps.take k).flatMap prT) ++ 32 :: Lib.itoa p.1) ++ 61 :: Lib.itoa p.2)) (k1 : BK B V2 w1) => (show OpP V B l1 ps v1 (.int .i64 ((k : Int) + 1)) w1 from
            ⟨k + 1, (List.getElem?_eq_some_iff.1 hx).1, by go_num, by rw [flat_more hx, ← List.append_assoc]; unfold prT; rw [← List.append_assoc]; exact o1, kr2.trans k1⟩))
          have M1 := Lib.hid m1
          have NM := Lib.hid nM
          have wk : IntKind.i64.wrap ((k : Int) + 1) = (k : Int) + 1 := IntWalk.i64_in _ (by rw [EP.out, PL.out] at hl; omega)
          clear H kr kr2 hB2 ka kV2 nM m1 hb2 hl2 hx hcc hb
          go_wp2_with fail
          refine AP.out.mono ?_
          rintro e w1 ⟨v1, rfl, o1, k1⟩
          have m1 := k1.keep.cell M1.out NM.out.byt
          have A2' := Lib.hid (AQ.out w1 v1 o1 k1)
          have K1 := Lib.hid k1
          clear o1 k1
          go_wp2_with fail
          refine A2'.out.mono ?_
          rintro e w2 ⟨v2, rfl, o2, k2⟩
          have NEW := Lib.hid (MO.out w2 v2 o2 (K1.out.trans k2))
          clear o2 k2
          go_wp2_with fail; go_roundw; (case rel => first | exact NEW.out | exact ⟨_, _, _, _, _, _, _, _, _, _, _, _, _, _, _, NEW.out, rfl⟩); (case measure => (simp [intOf]; try omega))
        · obtain rfl : k = pl := by omega
          have FIN := Lib.hid (show BT B wr u0 (l ++ opT o r) from by
            have := H
            rw [List.take_of_length_le (by rw [PL.out]; exact Nat.le_refl _), ← EL1.out, List.append_assoc] at this
            unfold opT
            rw [EL.out, EP.out]
            exact this)
          have KF := Lib.hid (KB.out.trans kr)
          clear H kr hk hlt
          go_wp2
          first | go_ret2 | refine bodyPost_ret (v := u0) (by simp [results, Tryd.results18, go_sem]) rfl ?_
          exact ⟨u0, rfl, FIN.out, KF.out⟩
end
end Go.Proofs.YtalkfnblnlcklaaDoor
