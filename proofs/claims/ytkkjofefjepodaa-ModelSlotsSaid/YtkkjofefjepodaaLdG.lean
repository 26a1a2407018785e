/- Package model as landed, in memory: get. Condition: at most 100,000 versions of a key. -/
import Derived.Test.YtkkjofefjepodaaLdF
import Derived.Test.YtkkjofefjepodaaLdS
namespace Go.Proofs.Ytkkjofefjepodaa
open Go.ChangeShapes Go.WideShapes Go.ChangeAt Go.RowKit
set_option linter.unusedVariables false
set_option linter.unusedSimpArgs false
section
variable {w w' : World} {m : Nat} {K : Nat → Value} {o : Nat → Nat} {z : LdI} {T : Nat → Prop} {F : Nat → FtI} {P : VeI → Bool} {t : TtI} {fv : Value} {l : List VeI}
def setT (z : LdI) (i : Nat) (t : TtI) : LdI := { z with s := putT z.s i (some t) }
def gotL (q : Option VeI) : ReI := match q with | some v => ⟨0, v.val, [], 0, 0⟩ | none => ⟨11, 0, [], 0, 0⟩
def gotT (t : TtI) (q : Option VeI) (k : Nat) : TtI := match q with | some _ => relyT t 2 k k | none => relyT t 3 k k
/-- A call that answers a result without Pairs, and leaves a Model; only blocks of it have turned. -/
def LdRes (w : World) (m : Nat) (K : Nat → Value) (o : Nat → Nat) (r : ReI) (z : LdI) (e : Ending) (w' : World) : Prop := e = .returned (reV r (.slice none 0 0)) ∧ LdAt w' m K o z ∧ Keep (fun g => o g ≠ 0) w w'
set_option maxRecDepth 100000 in
theorem lget_any (h : LdAt w m K o z) {i : Nat} (hi : i < 8) (ht : z.s i = some t) {k : Nat} (hk : k < 64) (hl : (z.k k).length ≤ 100000) :
    Calls Try.prog 75 #[.pointer (some ⟨m, 0, none⟩), .pointer (some ⟨t.b, 0, none⟩), .int .i64 k] w (LdRes w m K o (gotL ((z.k k).find? (seesV z.F t))) (setT z i (gotT t ((z.k k).find? (seesV z.F t)) k))) := by
  obtain ⟨M, eM, rb, kM⟩ := res_box w
  have hM := h.quiet kM
  have C := find_any hM hk hl (hold_sees (hM.t i t hi ht) (hM.tf hi ht))
  have V := fun v (hv : (z.k k).find? (seesV z.F t) = some v) => hM.v k v hk (List.mem_of_find?_eq_some hv)
  have ON := Lib.hid (show ∀ g, o g ≠ 0 → g ≠ w.heap.size from fun g hg e => by have := h.lt g hg; omega)
  have ob := h.oT i t hi ht
  have OV := Lib.hid fun v (hv : (z.k k).find? (seesV z.F t) = some v) => h.oV k v hk (List.mem_of_find?_eq_some hv)
  obtain ⟨N, eN⟩ : ∃ N, w.heap.size = N := ⟨_, rfl⟩
  rw [eN] at rb ON
  obtain ⟨q, eq⟩ : ∃ q, (z.k k).find? (seesV z.F t) = q := ⟨_, rfl⟩
  rw [eq] at C ⊢
  have hbN : ¬ N = t.b := fun e => ON.out t.b (by rw [ob.1]; omega) e.symm
  have VH := Lib.hid V
  have EQ := Lib.hid eq
  have OB := Lib.hid ob
  have KM := Lib.hid kM
  have HM := Lib.hid hM
  have RB := Lib.hid rb
  have EN := Lib.hid eN
  have HT := Lib.hid ht
  clear h V kM hM rb eq ht ob
  cases q with
  | none =>
    dsimp only [Option.map, ptrO] at C
    unfold gotL gotT LdRes reV setT
    dsimp only
    go_enter Try.func75, Try.ntmps75
    go_wp2_with fail
    refine C.mono ?_
    rintro e w1 ⟨rfl, k1⟩
    clear C eM
    have R := relies_any (HM.out.quiet k1) hi HT.out 3 k k (Nat.le_refl _) hk
    have K1 := Lib.hid k1
    clear k1
    go_wp2_with fail
    refine R.mono ?_
    rintro e w2 ⟨rfl, a2, k2⟩
    clear R
    have R6 := Lib.hid ((RB.out.keep K1.out id).keep k2 hbN)
    obtain ⟨q0, q1, q2, q3, q4, q5⟩ := R6.out
    have A2 := Lib.hid a2
    have K2 := Lib.hid k2
    clear a2 k2
    go_wp2
    (obtain ⟨W7, eW7⟩ : ∃ W7, (((((w2.setCell ⟨N, 0, none⟩ (.int .i64 11)).setCell ⟨N, 1, none⟩ (.int .i64 0)).setCell ⟨N, 2, none⟩ (.slice none 0 0)).setCell ⟨N, 3, none⟩ (.int .i64 0)).setCell ⟨N, 4, none⟩ (.int .i64 0)) = W7 := ⟨_, rfl⟩; obtain ⟨⟨v0, v1, v2, v3, v4, _⟩, k7⟩ := res_set R6.out _ _ _ _ _ eW7; rw [eW7]; refine bodyPost_ret (v := .agg #[.int .i64 11, .int .i64 0, .slice none 0 0, .int .i64 0, .int .i64 0]) (by simp [results, Try.results75, go_sem, v0, v1, v2, v3, v4]) rfl ⟨rfl, ?_⟩)
    refine ⟨A2.out.keep k7 (fun g hg e => ON.out g hg e), (((KM.out.trans K1.out).trans' (K2.out.mono fun g e => ?_)).older' k7 (by rw [EN.out]; exact Nat.le_refl _))⟩
    have e : g = t.b := e
    rw [e, OB.out.1]; omega
  | some v =>
    dsimp only [Option.map, ptrO] at C
    have c0 := (VH.out v EQ.out).c0
    have nv : ¬ v.b = t.b := fun e => by have := (OV.out v EQ.out).1; rw [e, OB.out.1] at this; omega
    unfold gotL gotT LdRes reV setT
    dsimp only
    obtain ⟨vv, ev⟩ : ∃ vv, v.val = vv := ⟨_, rfl⟩
    rw [ev] at c0
    simp only [ev]
    clear ev
    go_enter Try.func75, Try.ntmps75
    go_wp2_with fail
    refine C.mono ?_
    rintro e w1 ⟨rfl, k1⟩
    clear C eM
    have c0 := k1.cell c0 id
    have R := relies_any (HM.out.quiet k1) hi HT.out 2 k k (Nat.le_refl _) hk
    have K1 := Lib.hid k1
    clear k1
    go_wp2_with fail
    refine R.mono ?_
    rintro e w2 ⟨rfl, a2, k2⟩
    clear R
    have c0 := k2.cell c0 nv
    have R6 := Lib.hid ((RB.out.keep K1.out id).keep k2 hbN)
    obtain ⟨q0, q1, q2, q3, q4, q5⟩ := R6.out
    have A2 := Lib.hid a2
    have K2 := Lib.hid k2
    clear a2 k2
    go_wp2
    (obtain ⟨W7, eW7⟩ : ∃ W7, (((((w2.setCell ⟨N, 0, none⟩ (.int .i64 0)).setCell ⟨N, 1, none⟩ (.int .i64 vv)).setCell ⟨N, 2, none⟩ (.slice none 0 0)).setCell ⟨N, 3, none⟩ (.int .i64 0)).setCell ⟨N, 4, none⟩ (.int .i64 0)) = W7 := ⟨_, rfl⟩; obtain ⟨⟨v0, v1, v2, v3, v4, _⟩, k7⟩ := res_set R6.out _ _ _ _ _ eW7; rw [eW7]; refine bodyPost_ret (v := .agg #[.int .i64 0, .int .i64 vv, .slice none 0 0, .int .i64 0, .int .i64 0]) (by simp [results, Try.results75, go_sem, v0, v1, v2, v3, v4]) rfl ⟨rfl, ?_⟩)
    refine ⟨A2.out.keep k7 (fun g hg e => ON.out g hg e), (((KM.out.trans K1.out).trans' (K2.out.mono fun g e => ?_)).older' k7 (by rw [EN.out]; exact Nat.le_refl _))⟩
    have e : g = t.b := e
    rw [e, OB.out.1]; omega
end
end Go.Proofs.Ytkkjofefjepodaa
