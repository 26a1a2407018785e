/- Package model as landed, in memory: put, where a transaction has a version of its own, and where there is no slot. Condition: at most 100,000 versions. -/
import Derived.Test.YtkkjofefjepodaaLdD
import Derived.Test.YtkkjofefjepodaaLdG
import Derived.Test.YtkkjofefjepodaaPushM
namespace Go.Proofs.Ytkkjofefjepodaa
open Go.ChangeShapes Go.WideShapes Go.ChangeAt Go.RowKit
set_option linter.unusedVariables false
set_option linter.unusedSimpArgs false
section
variable {w w' w2 : World} {m g n c : Nat} {K : Nat → Value} {o : Nat → Nat} {z : LdI} {T : Nat → Prop} {F : Nat → FtI} {P : VeI → Bool} {t : TtI} {fv : Value} {l : List VeI}
def turnZ (z : LdI) (k b : Nat) (f : VeI → VeI) : LdI := { z with k := putK z.k k (turnB b f (z.k k)) }
def endV (f : Nat) (u : VeI) : VeI := { u with en := some f }
def valV (val : Int) (u : VeI) : VeI := { u with val := val, en := none }
theorem putK_put (k : Nat → List VeI) (i : Nat) (a b : List VeI) : putK (putK k i a) i b = putK k i b := by
  funext j
  unfold putK
  by_cases e : j = i
  · rw [if_pos e, if_pos e]
  · rw [if_neg e, if_neg e, if_neg e]
theorem turnB_turn (b : Nat) (f g : VeI → VeI) (hf : ∀ u, (f u).b = u.b) (l : List VeI) : turnB b g (turnB b f l) = turnB b (fun u => g (f u)) l := by
  unfold turnB
  rw [List.map_map]
  refine List.map_congr_left fun u hu => ?_
  show (if (if u.b = b then f u else u).b = b then g (if u.b = b then f u else u) else (if u.b = b then f u else u)) = _
  by_cases e : u.b = b
  · rw [if_pos e, if_pos (by rw [hf]; exact e), if_pos e]
  · rw [if_neg e, if_neg e, if_neg e]
/-- A version of the Model is given a value, and nobody has ended it. -/
theorem LdAt.val2 (h : LdAt w m K o z) {k : Nat} {v : VeI} (hk : k < 64) (hv : v ∈ z.k k) (val : Int) : LdAt ((w.setCell ⟨v.b, 0, none⟩ (.int .i64 val)).setCell ⟨v.b, 2, none⟩ (.pointer none)) m K o (turnZ z k v.b (valV val)) := by
  have ob := h.oV k v hk hv
  have a := h.vers hk hv (fun u => { u with val := val }) (fun _ => rfl) rfl (fun e he => ob.2.2 e he) ((h.v k v hk hv).val' val)
  have hv2 : ({ v with val := val } : VeI) ∈ putK z.k k (turnB v.b (fun u => { u with val := val }) (z.k k)) k := by
    rw [putK_self]
    refine List.mem_map.2 ⟨v, hv, ?_⟩
    rw [if_pos rfl]
  have b := a.vers hk hv2 (fun u => { u with en := none }) (fun _ => rfl) rfl (fun e he => by cases he) ((a.v k _ hk hv2).en' none)
  have e : ({ z with k := putK (putK z.k k (turnB v.b (fun u => { u with val := val }) (z.k k))) k (turnB v.b (fun u => { u with en := none }) (putK z.k k (turnB v.b (fun u => { u with val := val }) (z.k k)) k)) } : LdI) = turnZ z k v.b (valV val) := by
    rw [putK_self, turnB_turn v.b (fun u => { u with val := val }) (fun u => { u with en := none }) (fun _ => rfl), putK_put]
    rfl
  rw [← e]
  exact b
theorem LdAt.end2 (h : LdAt w m K o z) {k i : Nat} {v : VeI} (hk : k < 64) (hv : v ∈ z.k k) (hi : i < 8) (ht : z.s i = some t) : LdAt (w.setCell ⟨v.b, 2, none⟩ (.pointer (some ⟨t.f, 0, none⟩))) m K o (turnZ z k v.b (endV t.f)) :=
  h.vers hk hv (endV t.f) (fun _ => rfl) rfl (fun e he => by cases he; exact (h.oT i t hi ht).2) ((h.v k v hk hv).en' (some t.f))
set_option maxRecDepth 100000 in
theorem put_own (h : LdAt w m K o z) {i : Nat} (hi : i < 8) (ht : z.s i = some t) {k : Nat} (hk : k < 64) (hl : ∀ k, k < 64 → (z.k k).length ≤ 100000) {v : VeI} (hq : (z.k k).find? (madeV t) = some v) (val : Int) (se : Value) :
    Calls Try.prog 96 #[.pointer (some ⟨m, 0, none⟩), .pointer (some ⟨t.b, 0, none⟩), .int .i64 k, .int .i64 val, se] w (LdRes w m K o re0 (turnZ z k v.b (valV val))) := by
  obtain ⟨M, eM, rb, kM⟩ := res_box w; have hM := h.quiet kM; have C := find_any hM hk (hl k hk) (hold_made (hM.t i t hi ht) (hM.tf hi ht)); have ON := Lib.hid (show ∀ g, o g ≠ 0 → g ≠ w.heap.size from fun g hg e => by have := h.lt g hg; omega); obtain ⟨N, eN⟩ : ∃ N, w.heap.size = N := ⟨_, rfl⟩; rw [eN] at rb ON; rw [hq] at C; dsimp only [Option.map, ptrO] at C; have KM := Lib.hid kM; have HM := Lib.hid hM; have RB := Lib.hid rb; have EN := Lib.hid eN; have HT := Lib.hid ht; have HQ := Lib.hid hq
  have hv := List.mem_of_find?_eq_some hq
  have ov := (h.oV k v hk hv).1
  have VM := Lib.hid fun w1 (k1 : Keep (fun _ => False) M w1) => (hM.quiet k1).v k v hk hv
  have FIN := Lib.hid fun w1 (k1 : Keep (fun _ => False) M w1) => (hM.quiet k1).val2 hk hv val
  have NV := Lib.hid (show ¬ N = v.b from fun e => ON.out v.b (by rw [ov]; decide) e.symm)
  have OV := Lib.hid ov
  clear h hM kM rb ht hq hl hv ov
  unfold LdRes reV re0
  dsimp only
  go_enter Try.func96, Try.ntmps96
  go_wp2_with fail
  refine C.mono ?_
  rintro e w1 ⟨rfl, k1⟩
  clear C eM
  obtain ⟨c0, c1, c2, cf⟩ := VM.out w1 k1
  have f0 := cf 0
  have f2 := cf 2
  have A := Lib.hid (FIN.out w1 k1)
  have RW := Lib.hid (RB.out.keep k1 id)
  have K1 := Lib.hid k1
  obtain ⟨W2, e2⟩ : ∃ W2, (w1.setCell ⟨v.b, 0, none⟩ (.int .i64 val)).setCell ⟨v.b, 2, none⟩ (.pointer none) = W2 := ⟨_, rfl⟩
  have k2 : Keep (fun g => g = v.b) w1 W2 := by rw [← e2]; exact ((Keep.refl (fun g => g = v.b) w1).setCell (p := ⟨v.b, 0, none⟩) rfl _).setCell (p := ⟨v.b, 2, none⟩) rfl _
  have c2b : (w1.setCell ⟨v.b, 0, none⟩ (.int .i64 val)).cell? ⟨v.b, 2, none⟩ = some (ptrO v.en) := by rw [World.cell?_setCell_other _ _ _ _ (by first | (simp; done) | (simp; omega))]; exact c2
  have f2b : (w1.setCell ⟨v.b, 0, none⟩ (.int .i64 val)).frozen? ⟨v.b, 2, none⟩ = false := by rw [World.frozen?_setCell]; exact f2
  rw [e2] at A
  have R6 := Lib.hid (RW.out.keep k2 NV.out)
  obtain ⟨q0, q1, q2, q3, q4, q5⟩ := R6.out
  have K2 := Lib.hid k2
  clear k1 k2 c1 c2 cf f2
  go_wp2
  (obtain ⟨W7, eW7⟩ : ∃ W7, (((((W2.setCell ⟨N, 0, none⟩ (.int .i64 0)).setCell ⟨N, 1, none⟩ (.int .i64 0)).setCell ⟨N, 2, none⟩ (.slice none 0 0)).setCell ⟨N, 3, none⟩ (.int .i64 0)).setCell ⟨N, 4, none⟩ (.int .i64 0)) = W7 := ⟨_, rfl⟩; obtain ⟨⟨v0, v1, v2, v3, v4, _⟩, k7⟩ := res_set R6.out _ _ _ _ _ eW7; rw [eW7]; refine bodyPost_ret (v := .agg #[.int .i64 0, .int .i64 0, .slice none 0 0, .int .i64 0, .int .i64 0]) (by simp [results, Try.results96, go_sem, v0, v1, v2, v3, v4]) rfl ⟨rfl, ?_⟩)
  refine ⟨A.out.keep k7 (fun g hg e => ON.out g hg e), (((KM.out.trans K1.out).trans' (K2.out.mono fun g e => ?_)).older' k7 (by rw [EN.out]; exact Nat.le_refl _))⟩
  have e : g = v.b := e
  rw [e, OV.out]; decide
set_option maxRecDepth 100000 in
theorem put_full (h : LdAt w m K o z) {i : Nat} (hi : i < 8) (ht : z.s i = some t) (hx : (z.F t.f).st = 1) {k : Nat} (hk : k < 64) (hl : ∀ k, k < 64 → (z.k k).length ≤ 100000) (hq : (z.k k).find? (madeV t) = none) (hu : usedL z 64 ≤ 100000) (hs : (usedL z 64 : Int) = z.slots) (val : Int) (se : Value) :
    Calls Try.prog 96 #[.pointer (some ⟨m, 0, none⟩), .pointer (some ⟨t.b, 0, none⟩), .int .i64 k, .int .i64 val, se] w (LdRes w m K o (MoI.bad 5) { z with F := updF z.F t.f ⟨4, 0⟩ }) := by
  obtain ⟨M, eM, rb, kM⟩ := res_box w; have hM := h.quiet kM; have C := find_any hM hk (hl k hk) (hold_made (hM.t i t hi ht) (hM.tf hi ht)); have ON := Lib.hid (show ∀ g, o g ≠ 0 → g ≠ w.heap.size from fun g hg e => by have := h.lt g hg; omega); obtain ⟨N, eN⟩ : ∃ N, w.heap.size = N := ⟨_, rfl⟩; rw [eN] at rb ON; rw [hq] at C; dsimp only [Option.map, ptrO] at C; have KM := Lib.hid kM; have HM := Lib.hid hM; have RB := Lib.hid rb; have EN := Lib.hid eN; have HT := Lib.hid ht; have HQ := Lib.hid hq
  have US := Lib.hid fun w1 (k1 : Keep (fun _ => False) M w1) (d : Nat) => used_same (hM.quiet (k1.trans (drewN_keep _ w1 d))) hu
  have AB := Lib.hid fun w1 (k1 : Keep (fun _ => False) M w1) => abort_any (hM.quiet k1) hi ht hx 5
  have C0 := Lib.hid fun w1 (k1 : Keep (fun _ => False) M w1) => k1.cell hM.a.c0 id
  obtain ⟨u, eu⟩ : ∃ u : Nat, usedL z 64 = u := ⟨_, rfl⟩
  rw [eu] at hs US
  rw [← hs] at C0
  have d : ((u : Int) == (u : Int)) = true := by simp
  have tf := (h.oT i t hi ht).2
  have NF := Lib.hid (show ¬ N = t.f from fun e => ON.out t.f (by rw [tf]; decide) e.symm)
  have TF := Lib.hid tf
  clear h hM kM rb ht hq hl hs hu eu tf
  unfold LdRes reV MoI.bad
  dsimp only
  go_enter Try.func96, Try.ntmps96
  go_wp2_with fail
  refine C.mono ?_
  rintro e w1 ⟨rfl, k1⟩
  clear C eM
  have U := US.out w1 k1
  have c0 := C0.out w1 k1
  have K1 := Lib.hid k1
  clear k1
  go_wp2_with fail
  go_quiet ((go_at_call 26; exact Calls.quiet_of_same (U _)))
  have kd := drewN_keep (fun _ => False) w1 nq
  have A := AB.out _ (K1.out.trans kd)
  obtain ⟨wd, ed⟩ : ∃ wd, w1.drewN nq = wd := ⟨_, rfl⟩
  rw [ed] at kd A ⊢
  have KD := Lib.hid (K1.out.trans kd)
  clear U c0 kd ed K1
  go_wp2_with fail
  refine A.mono ?_
  rintro e w3 ⟨rfl, a3, k3⟩
  clear A
  have A3 := Lib.hid a3
  have K3 := Lib.hid k3
  have R6 := Lib.hid ((RB.out.keep KD.out id).keep k3 NF.out)
  obtain ⟨q0, q1, q2, q3, q4, q5⟩ := R6.out
  clear a3 k3
  unfold reV MoI.bad
  dsimp only
  go_wp2
  (obtain ⟨W7, eW7⟩ : ∃ W7, (((((w3.setCell ⟨N, 0, none⟩ (.int .i64 14)).setCell ⟨N, 1, none⟩ (.int .i64 0)).setCell ⟨N, 2, none⟩ (.slice none 0 0)).setCell ⟨N, 3, none⟩ (.int .i64 4)).setCell ⟨N, 4, none⟩ (.int .i64 5)) = W7 := ⟨_, rfl⟩; obtain ⟨⟨v0, v1, v2, v3, v4, _⟩, k7⟩ := res_set R6.out _ _ _ _ _ eW7; rw [eW7]; refine bodyPost_ret (v := .agg #[.int .i64 14, .int .i64 0, .slice none 0 0, .int .i64 4, .int .i64 5]) (by simp [results, Try.results96, go_sem, v0, v1, v2, v3, v4]) rfl ⟨rfl, ?_⟩)
  refine ⟨A3.out.keep k7 (fun g hg e => ON.out g hg e), (((KM.out.trans KD.out).trans' (K3.out.mono fun g e => ?_)).older' k7 (by rw [EN.out]; exact Nat.le_refl _))⟩
  have e : g = t.f := e
  rw [e, TF.out]; decide
end
end Go.Proofs.Ytkkjofefjepodaa
