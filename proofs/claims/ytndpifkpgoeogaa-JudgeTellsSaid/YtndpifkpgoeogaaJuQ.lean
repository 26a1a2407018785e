/- Contracts of package judge as landed: version, versions (a deferred recover that finds nothing), All. Conditions: those of the set and of what tells what is there now. -/
import Derived.Test.YtndpifkpgoeogaaJuP
import Derived.Recover
namespace Go.Proofs.Ytndpifkpgoeogaa.judgeP
open Go.ChangeShapes Go.WideShapes Go.ChangeAt Go.RowKit
set_option linter.unusedVariables false
theorem now_func (k : FuncId) (caps : Array Value) (w : World) : (binOp .eql 28 (.func (.func k) #[] caps) .nilFunc).run Try.prog w = .ok (.bool false) w := by kernel_rfl
theorem now_none (w : World) : (binOp .eql 28 .nilFunc .nilFunc).run Try.prog w = .ok (.bool true) w := by kernel_rfl
theorem spn_func (k : FuncId) (caps : Array Value) (w : World) : (binOp .eql 35 (.func (.func k) #[] caps) .nilFunc).run Try.prog w = .ok (.bool false) w := by kernel_rfl
theorem spn_none (w : World) : (binOp .eql 35 .nilFunc .nilFunc).run Try.prog w = .ok (.bool true) w := by kernel_rfl
theorem idle1 (w : World) : CallsD Try.prog 47 #[] .returning w fun e u' w' => e = .returned (.tuple #[]) ∧ u' = .returning ∧ w' = w := by
  refine callsD_of_wpS Try.func47 rfl fun c₀ cs hu => ?_
  apply wpS_region
  simp [wpOpsS, go_sem, recoverD, hu, Try.ntmps47, bodyPostS, results, Try.results47]
  cases c₀
  simp_all
theorem idle2 (w : World) : CallsD Try.prog 48 #[] .returning w fun e u' w' => e = .returned (.tuple #[]) ∧ u' = .returning ∧ w' = w := by
  refine callsD_of_wpS Try.func48 rfl fun c₀ cs hu => ?_
  apply wpS_region
  simp [wpOpsS, go_sem, recoverD, hu, Try.ntmps48, bodyPostS, results, Try.results48]
  cases c₀
  simp_all
theorem ver_nil (k : Int) (w : World) : Calls Try.prog 37 #[.nilFunc, .int .i64 k] w fun e w' => e = .returned (.int .u64 0) ∧ w' = w := by
  have hf := now_none
  go_enter_defers Try.func37, Try.ntmps37
  go_wp2
  simp [bodyPostD, Leaves, results, Try.results37, go_sem]
theorem ver_func {f : FuncId} {caps : Array Value} {w : World} {k x : Int} {P : World → Prop} (hent : ∀ (a : Array Value) (w : World), (callFunc f a).run Try.prog w = .ok (.enter f a) w) (hc : Calls Try.prog f (#[.int .i64 k] ++ caps) w fun e w' => e = .returned (.int .u64 x) ∧ P w') :
    Calls Try.prog 37 #[.func (.func f) #[] caps, .int .i64 k] w fun e w' => e = .returned (.int .u64 x) ∧ P w' := by
  have hmf : ∀ (fn : Fn) (first cap : Array Value) (w : World), (Instr.makeFunc fn first cap).run Try.prog w = .ok (.func fn first cap) w := fun _ _ _ _ => rfl
  have hf := now_func f caps
  go_enter_defers Try.func37, Try.ntmps37
  go_wp2_with fail
  refine hc.mono ?_
  rintro e w2 ⟨rfl, b2⟩
  clear hc
  go_wp2
  refine leaves_cons (f := 47) (args := #[]) (by simp) (by simp [go_sem]) ?_
  refine (idle1 _).mono ?_
  rintro e u' w'' ⟨rfl, rfl, rfl⟩
  simp [Leaves, settle, results, Try.results37, go_sem]
  exact b2
theorem vers_nil (a b : Int) (w : World) : Calls Try.prog 38 #[.nilFunc, .int .i64 a, .int .i64 b] w fun e w' => e = .returned (.slice none 0 0) ∧ w' = w := by
  have hf := spn_none
  go_enter_defers Try.func38, Try.ntmps38
  go_wp2
  simp [bodyPostD, Leaves, results, Try.results38, go_sem]
theorem vers_func {f : FuncId} {caps : Array Value} {w : World} {a b : Int} {P : Value → World → Prop} (hent : ∀ (a : Array Value) (w : World), (callFunc f a).run Try.prog w = .ok (.enter f a) w) (hc : Calls Try.prog f (#[.int .i64 a, .int .i64 b] ++ caps) w fun e w' => ∃ v, e = .returned v ∧ P v w') :
    Calls Try.prog 38 #[.func (.func f) #[] caps, .int .i64 a, .int .i64 b] w fun e w' => ∃ v, e = .returned v ∧ P v w' := by
  have hmf : ∀ (fn : Fn) (first cap : Array Value) (w : World), (Instr.makeFunc fn first cap).run Try.prog w = .ok (.func fn first cap) w := fun _ _ _ _ => rfl
  have hf := spn_func f caps
  go_enter_defers Try.func38, Try.ntmps38
  go_wp2_with fail
  refine hc.mono ?_
  rintro e w2 ⟨v, rfl, b2⟩
  clear hc
  go_wp2
  refine leaves_cons (f := 48) (args := #[]) (by simp) (by simp [go_sem]) ?_
  refine (idle2 _).mono ?_
  rintro e u' w'' ⟨rfl, rfl, rfl⟩
  simp [Leaves, settle, results, Try.results38, go_sem]
  exact b2
section
variable {W w : World} {t : Nat} {S : Nat → Prop} {s : RdS} {Q : World → (Nat → Prop) → Prop} {fv gv : Value} {N : Int → Int} {SP : Int → Int → List Int}
theorem ver_any (hN : IsNow fv W t s Q N) (k : Int) (k0 : 0 ≤ k) (k1 : k ≤ 63) (h : Rd W w t S s) (q : Q w S) : Calls Try.prog 37 #[fv, .int .i64 k] w fun e w' => e = .returned (.int .u64 (N k)) ∧ ∃ S', Rd W w' t S' s ∧ VKeep S S' w w' := by
  rcases hN.form with ⟨rfl, hn⟩ | ⟨f, caps, rfl, hent, hc⟩
  · rw [hn k]
    refine (ver_nil k w).mono ?_
    rintro e w' ⟨rfl, rfl⟩
    exact ⟨rfl, S, h, Keep.refl _ _, fun _ e => .inl e⟩
  · exact ver_func hent (hc k w S k0 k1 h q)
theorem vers_any (hS : IsSpn gv W t s Q SP) (lo hi : Int) (k0 : 0 ≤ lo) (k1 : lo ≤ hi) (k2 : hi ≤ 63) (h : Rd W w t S s) (q : Q w S) : Calls Try.prog 38 #[gv, .int .i64 lo, .int .i64 hi] w fun e w' => ∃ v, e = .returned v ∧ ∃ S', Lies w' v (SP lo hi) ∧ Rd W w' t S' s ∧ VKeep S S' w w' := by
  rcases hS.form with ⟨rfl, hn⟩ | ⟨f, caps, rfl, hent, hc⟩
  · rw [hn lo hi]
    refine (vers_nil lo hi w).mono ?_
    rintro e w' ⟨rfl, rfl⟩
    exact ⟨_, rfl, S, Lies.nil _, h, Keep.refl _ _, fun _ e => .inl e⟩
  · refine vers_func (P := fun v w' => ∃ S', Lies w' v (SP lo hi) ∧ Rd W w' t S' s ∧ VKeep S S' w w') hent ((hc lo hi w S k0 k1 k2 h q).mono ?_)
    rintro e w' ⟨v, S', rfl, a, b, c⟩
    exact ⟨v, rfl, S', a, b, c⟩
end
/-- While all is looked through. -/
structure AlR (W w : World) (t : Nat) (S : Nat → Prop) (s : RdS) (Q : World → (Nat → Prop) → Prop) (v1 : Value) (K : List Int) (v2 : Value) (C : List ScI) (T : Nat → Prop) (wr : World) (S' : Nat → Prop) : Prop where
  r : Rd W wr t S' s
  q : Q wr S'
  k : VKeep S S' w wr
  o1 : OwnN w.heap.size wr v1 K
  d1 : ∀ g, v1.ownBlock = some g → ¬ S' g
  o2 : OwnSc w.heap.size wr v2 C T
  d2 : ∀ g, T g → ¬ S' g
section
variable {W w wr wr' : World} {t : Nat} {S S' S'' T : Nat → Prop} {s : RdS} {Q : World → (Nat → Prop) → Prop} {v1 v2 fv gv : Value} {K : List Int} {C : List ScI} {N : Int → Int} {SP : Int → Int → List Int}
theorem AlR.step (h : AlR W w t S s Q v1 K v2 C T wr S') (st : StayJ W t s Q) (hr : Rd W wr' t S'' s) (k : VKeep S' S'' wr wr') : AlR W w t S s Q v1 K v2 C T wr' S'' :=
  ⟨hr, st h.r h.q hr k, vk_trans h.k k, OwnN.keep h.o1 k.1 h.d1, fun g hg x => by rcases k.2 g x with y | y; exact h.d1 g hg y; have := (OwnN.lt h.o1 hg).2; omega, OwnSc.keep h.o2 k.1 h.d2, fun g hg x => by rcases k.2 g x with y | y; exact h.d2 g hg y; have := h.o2.t1 g hg; omega⟩
theorem AlR.idle (h : AlR W w t S s Q v1 K v2 C T wr S') (st : StayJ W t s Q) (k : Keep (fun _ => False) wr wr') : AlR W w t S s Q v1 K v2 C T wr' S' := h.step st (h.r.quiet k) ⟨k.mono (fun _ e => e.elim), fun _ e => .inl e⟩
def KeysR (W w : World) (t : Nat) (S : Nat → Prop) (s : RdS) (Q : World → (Nat → Prop) → Prop) (v1 : Value) (K : List Int) (v2 : Value) (C : List ScI) (T : Nat → Prop) (lv : Int) (N : Int → Int) (jv : Value) (wr : World) : Prop :=
  ∃ (j : Nat) (S' : Nat → Prop), j ≤ K.length ∧ jv = .int .i64 j ∧ badK lv s N K = badK lv s N (K.drop j) ∧ AlR W w t S s Q v1 K v2 C T wr S'
def SpansR (W w : World) (t : Nat) (S : Nat → Prop) (s : RdS) (Q : World → (Nat → Prop) → Prop) (v1 : Value) (K : List Int) (v2 : Value) (C : List ScI) (T : Nat → Prop) (lv : Int) (SP : Int → Int → List Int) (jv : Value) (wr : World) : Prop :=
  ∃ (j : Nat) (S' : Nat → Prop), j ≤ C.length ∧ jv = .int .i64 j ∧ badS lv SP C = badS lv SP (C.drop j) ∧ AlR W w t S s Q v1 K v2 C T wr S'
theorem badK_at {lv : Int} {j : Nat} {x : Int} (h : K[j]? = some x) : badK lv s N (K.drop j) = if keyJ lv (s.link x).1 (N x) = true then badK lv s N (K.drop (j + 1)) else some x := by
  obtain ⟨hi, e⟩ := List.getElem?_eq_some_iff.1 h
  rw [List.drop_eq_getElem_cons hi, e]
  rfl
theorem badS_at {lv : Int} {j : Nat} {x : ScI} (h : C[j]? = some x) : badS lv SP (C.drop j) = if spanJ lv x.z (SP x.lo x.hi) = true then badS lv SP (C.drop (j + 1)) else some x.lo := by
  obtain ⟨hi, e⟩ := List.getElem?_eq_some_iff.1 h
  rw [List.drop_eq_getElem_cons hi, e]
  rfl
theorem rd_more (h : Rd W w t S s) : (∀ k, U64 (s.link k).1) ∧ (∀ x ∈ s.scans, 0 ≤ x.lo ∧ x.lo ≤ x.hi ∧ x.hi ≤ 63 ∧ x.z.length ≤ 100000) ∧ s.scans.length ≤ 64 := by
  obtain ⟨es, ps, vr, vs, Z, a, h1, h2, h3, f⟩ := h.a
  refine ⟨fun k => ?_, fun x hx => ?_, by rw [h3, List.length_map]; exact a.pl⟩
  · unfold RdS.link
    split
    · rename_i hk
      rw [h1, h2] at *
      have hi := List.idxOf_lt_length_of_mem hk
      rw [List.length_map] at hi
      show U64 ((es.map Prod.snd).getD _ 0)
      rw [List.getD_eq_getElem?_getD, List.getElem?_map, List.getElem?_eq_getElem hi]
      exact (a.kb _ (List.getElem_mem hi)).2.2
    · exact ⟨by show (0:Int) ≤ 0; omega, by show (0:Int) ≤ _; omega⟩
  · rw [h3] at hx
    obtain ⟨y, hy, rfl⟩ := List.mem_map.1 hx
    exact a.sb y hy
theorem needK_sub {lv : Int} {k : Int} (h : k ∈ needK lv s) : k ∈ s.keys := by
  unfold needK at h
  split at h
  · exact h
  · split at h
    · exact (List.mem_filter.1 h).1
    · cases h
theorem needK_len {lv : Int} (h : s.keys.length ≤ 64) : (needK lv s).length ≤ 64 := by
  unfold needK
  split
  · exact h
  · split
    · exact Nat.le_trans (List.length_filter_le _ _) h
    · exact Nat.zero_le _
theorem needS_sub {lv : Int} {x : ScI} (h : x ∈ needS lv s) : x ∈ s.scans := by
  unfold needS at h
  split at h
  · exact h
  · cases h
theorem needS_len {lv : Int} (h : s.scans.length ≤ 64) : (needS lv s).length ≤ 64 := by
  unfold needS
  split
  · exact h
  · exact Nat.zero_le _
set_option maxRecDepth 100000 in
set_option maxHeartbeats 8000000 in
theorem jall_p (h : Rd W w t S s) (hQ : Q w S) (st : StayJ W t s Q) (hN : IsNow fv W t s Q N) (hS : IsSpn gv W t s Q SP) (lv : Int) (r : Bool) (k : Int) (hs : allJ lv s N SP = (r, k)) :
    Calls Try.prog 12 #[.int .i64 lv, .pointer (some ⟨t, 0, none⟩), fv, gv] w fun e w' => e = .returned (.tuple #[.bool r, .int .i64 k]) ∧ ∃ S', Rd W w' t S' s ∧ VKeep S S' w w' := by
  unfold allJ at hs
  by_cases hl : lv < 1 ∨ 3 < lv
  · rw [if_pos hl] at hs
    cases hs
    have H := Lib.hid h
    have hL := level_p lv w
    have e1 : isL lv = false := by unfold isL; simp; omega
    rw [e1] at hL
    clear h st hQ hN hS hl e1
    go_enter Try.func12, Try.ntmps12
    go_wp2_with fail
    refine hL.mono ?_
    rintro e w1 ⟨rfl, rfl⟩
    clear hL
    go_wp2
    go_ret2
    exact ⟨rfl, S, H.out, Keep.refl _ _, fun j hj => .inl hj⟩
  · rw [if_neg hl] at hs
    have hL := level_p lv w
    have e1 : isL lv = true := by unfold isL; simp; omega
    rw [e1] at hL
    have kb := rd_keyb h
    have km := rd_more h
    have KL := needK_len (s := s) (lv := lv) kb.1
    have SL := needS_len (s := s) (lv := lv) km.2.2
    have KB := Lib.hid (fun (x : Int) (hx : x ∈ needK lv s) => kb.2 x (needK_sub hx))
    have SB := Lib.hid (fun (x : ScI) (hx : x ∈ needS lv s) => km.2.1 x (needS_sub hx))
    have KU := Lib.hid km.1
    have ST : Hid (StayJ W t s Q) := Lib.hid (fun a b c d => st a b c d)
    have FN := Lib.hid hN
    have FS := Lib.hid hS
    have HS := Lib.hid hs
    clear kb km hs hN hS hl e1
    go_enter Try.func12, Try.ntmps12
    go_wp2_with fail
    refine hL.mono ?_
    rintro e w1 ⟨rfl, rfl⟩
    clear hL
    go_wp2_with fail
    refine (jneeds_p h lv).mono ?_
    rintro e w1 ⟨v1, v2, S1, T, rfl, o1, e1, o2, e2, h1, k1⟩
    have D0 : AlR W w t S s Q v1 (needK lv s) v2 (needS lv s) T w1 S1 := ⟨h1, st h hQ h1 k1, k1, o1, fun g hg => (e1 g hg).1, o2, e2⟩
    obtain ⟨A1, c1, rfl, hA0, hA1⟩ := OwnN.shapeN o1
    obtain ⟨⟨A2, c2, rfl, _, _⟩, _, _⟩ := id o2
    obtain ⟨K, eK⟩ : ∃ K, needK lv s = K := ⟨_, rfl⟩
    obtain ⟨C, eC⟩ : ∃ C, needS lv s = C := ⟨_, rfl⟩
    rw [eK] at D0 KL KB HS hA0 ⊢
    rw [eC] at D0 SL SB HS ⊢
    clear o1 e1 o2 e2 h1 k1 h hQ st eK eC
    go_wp2
    go_loopw [33] (fun jv wr => KeysR W w t S s Q (.slice A1 K.length c1) K (.slice A2 C.length c2) C T lv N jv wr) (fun jv _ => K.length - (intOf jv).toNat)
    case atStart => exact ⟨0, S1, Nat.zero_le _, rfl, rfl, D0⟩
    case round =>
      clear D0
      obtain ⟨j, S', hj, rfl, hb, D⟩ := hrel
      by_cases hlt : j < K.length
      · have wj : IntKind.i64.wrap ((j : Int) + 1) = (j : Int) + 1 := IntWalk.i64_in _ (by omega)
        cases A1 with
        | none => rw [hA0 rfl] at hlt; simp at hlt
        | some ad =>
          obtain ⟨g, rfl⟩ := hA1 _ rfl
          have cj := OwnN.cell D.o1 j hlt
          obtain ⟨x, ex⟩ : ∃ x, K.getD j 0 = x := ⟨_, rfl⟩
          have hx : K[j]? = some x := by rw [List.getElem?_eq_getElem hlt, ← ex, List.getD_eq_getElem?_getD, List.getElem?_eq_getElem hlt]; rfl
          rw [ex] at cj
          have xb := KB.out x (List.mem_of_getElem? hx)
          have ux := KU.out x
          obtain ⟨lk, b, elk⟩ : ∃ lk b, s.link x = (lk, b) := ⟨_, _, rfl⟩
          have nx := badK_at (s := s) (N := N) (lv := lv) hx
          rw [elk] at nx ux
          have GO := Lib.hid (hb.trans nx)
          clear ex hx hb nx
          go_wp2_with fail
          refine (rd_link D.r x lk b elk).mono ?_
          rintro e w2 ⟨rfl, S2, C2, k2⟩
          have D2 := D.step ST.out C2 k2
          clear C2 k2 D cj
          have hk := ver_any FN.out x xb.1 xb.2 D2.r D2.q
          obtain ⟨y, ey⟩ : ∃ y, N x = y := ⟨_, rfl⟩
          rw [ey] at GO hk
          clear ey
          go_wp2_with fail
          refine hk.mono ?_
          rintro e w3 ⟨rfl, S3, C3, k3⟩
          have D3 := D2.step ST.out C3 k3
          clear C3 k3 D2 hk
          go_wp2_with fail
          obtain ⟨c, ec⟩ : ∃ c, keyJ lv lk y = c := ⟨_, rfl⟩
          rw [ec] at GO
          refine (jkey_p lv lk y c ec _).mono ?_
          rintro e w4 ⟨rfl, rfl⟩
          clear ec
          cases c
          · rw [if_neg (by simp)] at GO
            have hs := HS.out
            rw [GO.out] at hs
            cases hs
            have F := Lib.hid D3
            clear D3
            go_wp2
            go_ret2
            exact ⟨rfl, S3, F.out.r, F.out.k⟩
          · rw [if_pos rfl] at GO
            have F := Lib.hid D3
            clear D3
            go_wp2
            first | exact ⟨⟨j + 1, S3, by omega, by go_num, GO.out, F.out⟩, by simp [intOf]; omega⟩ | (refine ⟨?rel2, ?meas2⟩; (case meas2 => (simp [intOf]; omega)); (case rel2 => ((repeat apply Exists.intro); exact ⟨⟨j + 1, S3, by omega, by go_num, GO.out, F.out⟩, rfl⟩)))
      · obtain rfl : j = K.length := by omega
        have GO : badK lv s N K = none := by rw [hb, List.drop_length]; rfl
        have HS2 := Lib.hid (show (match badS lv SP C with | some k => (false, k) | none => (true, -1)) = (r, k) by have := HS.out; rw [GO] at this; exact this)
        clear GO hb HS FN KU KB hA0 hA1
        go_wp2
        go_loopw [54] (fun jv wr => SpansR W w t S s Q (.slice A1 K.length c1) K (.slice A2 C.length c2) C T lv SP jv wr) (fun jv _ => C.length - (intOf jv).toNat)
        case atStart => exact ⟨0, S', Nat.zero_le _, rfl, rfl, D⟩
        case round =>
          clear D
          obtain ⟨j, S', hj, rfl, hb, D⟩ := hrel
          by_cases hlt : j < C.length
          · have wj : IntKind.i64.wrap ((j : Int) + 1) = (j : Int) + 1 := IntWalk.i64_in _ (by omega)
            obtain ⟨A', c', ev, _, hfo⟩ := D.o2.form
            cases ev
            obtain ⟨g, rfl, _, hz, he⟩ := hfo (by omega)
            obtain ⟨x, hx⟩ : ∃ x, C[j]? = some x := ⟨_, List.getElem?_eq_getElem hlt⟩
            obtain ⟨x0, x1, u, x2, ou, hu⟩ := he j x hx
            have xb := SB.out x (List.mem_of_getElem? hx)
            have lu := OwnU.lies ou
            obtain ⟨Au, cu, eu, _⟩ := id lu
            subst eu
            have nx := badS_at (SP := SP) (lv := lv) hx
            have GO := Lib.hid (hb.trans nx)
            have zl := FS.out.len x.lo x.hi
            obtain ⟨lo, hi, z⟩ := x
            simp only at x0 x1 x2 xb GO zl lu ou ⊢
            have un := fun b hb => D.d2 b (hu b hb).1
            have kA := (Keep.refl (fun _ => False) wr).alloc (.cells #[.int .i64 lo, .int .i64 hi, .slice Au z.length cu] 51)
            have DA := D.idle ST.out kA
            obtain ⟨N0, eN⟩ : ∃ N0, wr.heap.size = N0 := ⟨_, rfl⟩
            have q0 : (wr.alloc (.cells #[.int .i64 lo, .int .i64 hi, .slice Au z.length cu] 51)).cell? ⟨N0, 0, none⟩ = some (.int .i64 lo) := by rw [← eN]; simp
            have q1 : (wr.alloc (.cells #[.int .i64 lo, .int .i64 hi, .slice Au z.length cu] 51)).cell? ⟨N0, 1, none⟩ = some (.int .i64 hi) := by rw [← eN]; simp
            have q2 : (wr.alloc (.cells #[.int .i64 lo, .int .i64 hi, .slice Au z.length cu] 51)).cell? ⟨N0, 2, none⟩ = some (.slice Au z.length cu) := by rw [← eN]; simp
            have nb : ¬ S' N0 := fun e => by have := D.r.lt _ e; omega
            have oA := OwnU.keep ou kA (by simp)
            clear hx hb nx hfo he lu hu kA
            obtain ⟨ys, ey⟩ : ∃ ys, SP lo hi = ys := ⟨_, rfl⟩
            have hc := fun w S => vers_any (w := w) (S := S) FS.out lo hi xb.1 xb.2.1 xb.2.2.1
            rw [ey] at GO zl hc
            clear ey
            have hc := Lib.hid hc
            obtain ⟨c, ec⟩ : ∃ c, spanJ lv z ys = c := ⟨_, rfl⟩
            rw [ec] at GO
            have EC := Lib.hid ec
            clear ec
            go_wp2_with fail
            generalize hwA : wr.alloc (.cells #[.int .i64 lo, .int .i64 hi, .slice Au z.length cu] 51) = wA at *
            have kd := (Keep.refl (fun _ => False) wA).drew
            have Dd := DA.idle ST.out kd
            have od := OwnU.keep oA kd (by simp)
            clear hwA D ou oA DA kd
            refine wp_region_held_drew (S := fun w' => w'.cell? ⟨N0, 0, none⟩ = some (.int .i64 lo) ∧ w'.cell? ⟨N0, 1, none⟩ = some (.int .i64 hi) ∧ w'.cell? ⟨N0, 2, none⟩ = some (.slice Au z.length cu)) (by kernel_rfl) ⟨q0, q1, q2⟩ (fun hHeld => ?_)
            clear q0 q1 q2
            refine wpAnyH_take (i := 0) (v := ?qvu0) rfl (by kernel_rfl) (by kernel_rfl) (by kernel_rfl) (fun _ _ _ h => h) (Or.inl ⟨by rfl, ?qyu0⟩) (by assumption) ?qru0; case qyu0 => ((intro w hSw; (try dsimp only at hSw); go_simp); try (with_reducible rfl))
            ((try simp only [List.getElem_toArray]); (try simp only [List.getElem_cons_succ]); (try simp only [List.getElem_cons_zero]); (try simp only [Act.put]); (try simp only [List.setIfInBounds_toArray]); (try simp only [List.set_cons_succ]); (try simp only [List.set_cons_zero]))
            refine wpAnyH_take (i := 1) (v := ?qvu1) rfl (by kernel_rfl) (by kernel_rfl) (by kernel_rfl) (fun _ _ _ h => h) (Or.inl ⟨by rfl, ?qyu1⟩) (by assumption) ?qru1; case qyu1 => ((intro w hSw; (try dsimp only at hSw); go_simp); try (with_reducible rfl))
            ((try simp only [List.getElem_toArray]); (try simp only [List.getElem_cons_succ]); (try simp only [List.getElem_cons_zero]); (try simp only [Act.put]); (try simp only [List.setIfInBounds_toArray]); (try simp only [List.set_cons_succ]); (try simp only [List.set_cons_zero]))
            refine wpAnyH_take (i := 2) (v := ?qvu2) rfl (by kernel_rfl) (by kernel_rfl) (by kernel_rfl) (fun _ _ _ h => h) (Or.inl ⟨by rfl, ?qyu2⟩) (by assumption) ?qru2; case qyu2 => ((intro w hSw; (try dsimp only at hSw); go_simp); try (with_reducible rfl))
            ((try simp only [List.getElem_toArray]); (try simp only [List.getElem_cons_succ]); (try simp only [List.getElem_cons_zero]); (try simp only [Act.put]); (try simp only [List.setIfInBounds_toArray]); (try simp only [List.set_cons_succ]); (try simp only [List.set_cons_zero]))
            refine wpAnyH_take (i := 3) (v := ?qvu3) rfl (by kernel_rfl) (by kernel_rfl) (by kernel_rfl) (fun _ _ _ h => h) (Or.inl ⟨by rfl, ?qyu3⟩) (by assumption) ?qru3; case qyu3 => ((intro w hSw; (try dsimp only at hSw); go_simp); try (with_reducible rfl))
            ((try simp only [List.getElem_toArray]); (try simp only [List.getElem_cons_succ]); (try simp only [List.getElem_cons_zero]); (try simp only [Act.put]); (try simp only [List.setIfInBounds_toArray]); (try simp only [List.set_cons_succ]); (try simp only [List.set_cons_zero]))
            refine wpAnyH_take (i := 4) (v := ?qvu4) rfl (by kernel_rfl) (by kernel_rfl) (by kernel_rfl) (fun _ _ _ h => h) (Or.inl ⟨by rfl, ?qyu4⟩) (by assumption) ?qru4; case qyu4 => ((intro w hSw; (try dsimp only at hSw); go_simp); try (with_reducible rfl))
            ((try simp only [List.getElem_toArray]); (try simp only [List.getElem_cons_succ]); (try simp only [List.getElem_cons_zero]); (try simp only [Act.put]); (try simp only [List.setIfInBounds_toArray]); (try simp only [List.set_cons_succ]); (try simp only [List.set_cons_zero]))
            refine wpAnyH_take (i := 5) (v := ?qvu5) rfl (by kernel_rfl) (by kernel_rfl) (by kernel_rfl) (fun _ _ _ h => h) (Or.inl ⟨by rfl, ?qyu5⟩) (by assumption) ?qru5; case qyu5 => ((intro w hSw; (try dsimp only at hSw); go_simp); try (with_reducible rfl))
            ((try simp only [List.getElem_toArray]); (try simp only [List.getElem_cons_succ]); (try simp only [List.getElem_cons_zero]); (try simp only [Act.put]); (try simp only [List.setIfInBounds_toArray]); (try simp only [List.set_cons_succ]); (try simp only [List.set_cons_zero]))
            refine wpAnyH_take (i := 6) (v := ?qvu6) rfl (by kernel_rfl) (by kernel_rfl) (by kernel_rfl) (fun _ _ _ h => h) (Or.inl ⟨by rfl, ?qyu6⟩) (by assumption) ?qru6; case qyu6 => ((intro w hSw; (try dsimp only at hSw); go_simp); try (with_reducible rfl))
            ((try simp only [List.getElem_toArray]); (try simp only [List.getElem_cons_succ]); (try simp only [List.getElem_cons_zero]); (try simp only [Act.put]); (try simp only [List.setIfInBounds_toArray]); (try simp only [List.set_cons_succ]); (try simp only [List.set_cons_zero]))
            refine wpAnyH_take (i := 7) (v := ?qvu7) rfl (by kernel_rfl) (by kernel_rfl) (by kernel_rfl) (fun _ _ _ h => h) (Or.inl ⟨by rfl, ?qyu7⟩) (by assumption) ?qru7; case qyu7 => ((intro w hSw; (try dsimp only at hSw); go_simp); try (with_reducible rfl))
            ((try simp only [List.getElem_toArray]); (try simp only [List.getElem_cons_succ]); (try simp only [List.getElem_cons_zero]); (try simp only [Act.put]); (try simp only [List.setIfInBounds_toArray]); (try simp only [List.set_cons_succ]); (try simp only [List.set_cons_zero]))
            refine wpAnyH_ready (rs := [8]) (by kernel_rfl) (by simp) ?_
            refine AllReadyH.cons rfl (fun K hK => ?_) AllReadyH.nil
            go_simp
            refine (hc.out _ S' Dd.r Dd.q).mono ?_
            rintro e y1 ⟨vv, rfl, S3, lw, C3, k3⟩
            have D3 := Dd.step ST.out C3 k3
            have o3 := OwnU.keep od k3.1 un
            clear hc Dd od
            refine hK.out _ _ ⟨k3.1.cell hHeld.1 nb, k3.1.cell hHeld.2.1 nb, k3.1.cell hHeld.2.2 nb⟩ (fun hHeld => ?_)
            clear hK K
            ((try simp only [List.getElem_toArray]); (try simp only [List.getElem_cons_succ]); (try simp only [List.getElem_cons_zero]); (try simp only [Act.put]); (try simp only [List.setIfInBounds_toArray]); (try simp only [List.set_cons_succ]); (try simp only [List.set_cons_zero]))
            refine wpAnyH_ready (rs := [9]) (by kernel_rfl) (by simp) ?_
            refine AllReadyH.cons rfl (fun K hK => ?_) AllReadyH.nil
            go_simp
            refine (jspan_p lv (.slice Au z.length cu) vv z ys xb.2.2.2 zl c EC.out _ (OwnU.lies o3) lw).mono ?_
            rintro e y2 ⟨rfl, k4⟩
            have D4 := AlR.idle D3 ST.out k4
            clear D3 o3 lw
            refine hK.out _ _ ⟨k4.cell hHeld.1 id, k4.cell hHeld.2.1 id, k4.cell hHeld.2.2 id⟩ (fun hHeld => ?_)
            clear hK K
            ((try simp only [List.getElem_toArray]); (try simp only [List.getElem_cons_succ]); (try simp only [List.getElem_cons_zero]); (try simp only [Act.put]); (try simp only [List.setIfInBounds_toArray]); (try simp only [List.set_cons_succ]); (try simp only [List.set_cons_zero]))
            refine wpAnyH_take (i := 10) (v := ?qvu8) rfl (by kernel_rfl) (by kernel_rfl) (by kernel_rfl) (fun _ _ _ h => h) (Or.inl ⟨by rfl, ?qyu8⟩) (by assumption) ?qru8; case qyu8 => ((intro w hSw; (try dsimp only at hSw); go_simp); try (with_reducible rfl))
            ((try simp only [List.getElem_toArray]); (try simp only [List.getElem_cons_succ]); (try simp only [List.getElem_cons_zero]); (try simp only [Act.put]); (try simp only [List.setIfInBounds_toArray]); (try simp only [List.set_cons_succ]); (try simp only [List.set_cons_zero]))
            refine wpAnyH_done (by kernel_rfl) ?_ _
            skip
            obtain ⟨q0, q1, q2⟩ := hHeld
            cases c
            · rw [if_neg (by simp)] at GO
              have hs := HS2.out
              rw [GO.out] at hs
              cases hs
              have F := Lib.hid D4
              clear D4
              go_wp2_with fail
              go_quiet (fail)
              go_wp2
              go_ret2
              exact ⟨rfl, S3, F.out.r.quiet (drewN_keep _ _ _), vk_trans F.out.k ⟨drewN_keep _ _ _, fun _ e => .inl e⟩⟩
            · rw [if_pos rfl] at GO
              have F := Lib.hid D4
              clear D4
              go_wp2
              first | exact ⟨⟨j + 1, S3, by omega, by go_num, GO.out, F.out⟩, by simp [intOf]; omega⟩ | (refine ⟨?rel2, ?meas2⟩; (case meas2 => (simp [intOf]; omega)); (case rel2 => ((repeat apply Exists.intro); exact ⟨⟨j + 1, S3, by omega, by go_num, GO.out, F.out⟩, rfl⟩)))
          · obtain rfl : j = C.length := by omega
            have GO : badS lv SP C = none := by rw [hb, List.drop_length]; rfl
            have hs := HS2.out
            rw [GO] at hs
            cases hs
            have F := Lib.hid D
            clear D hb GO
            go_wp2
            go_ret2
            exact ⟨rfl, S', F.out.r, F.out.k⟩
theorem jall_nil_p (lv : Int) (w : World) : Calls Try.prog 12 #[.int .i64 lv, .pointer none, .nilFunc, .nilFunc] w fun e w' => e = .returned (.tuple #[.bool false, .int .i64 (-1)]) ∧ Below w.heap.size w w' := by
  have hL := level_p lv w
  obtain ⟨b1, e1⟩ : ∃ b, isL lv = b := ⟨_, rfl⟩
  rw [e1] at hL
  clear e1
  go_enter Try.func12, Try.ntmps12
  go_wp2_with fail
  refine hL.mono ?_
  rintro e w1 ⟨rfl, rfl⟩
  clear hL
  cases b1
  all_goals
    go_wp2
    go_ret2
    exact ⟨rfl, Below.refl _ _⟩
end
end Go.Proofs.Ytndpifkpgoeogaa.judgeP
