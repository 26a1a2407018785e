/- Several texts, one behind the other: LdM, LdN1, LdN2, LdNT. -/
import Derived.Test.YtalkfnblnlcklaaModelBaseDZan
import Derived.Test.YtalkfnblnlcklaaModelBaseDZaa
import Derived.Deep.QuietTactic
import Derived.BigQuiet
import Derived.LaidEqlPtr
/- Package model as landed, in memory, first part: fates, versions, transactions; by, since, knows, sees, made, conflicts, garbage. Condition: what they lead to lies in memory. -/
namespace Go.Proofs.Ytalkfnblnlcklaa
open Go.ChangeShapes Go.WideShapes Go.ChangeAt Go.RowKit
set_option linter.unusedVariables false
set_option linter.unusedSimpArgs false

def ptrO (f : Option Nat) : Value := match f with | none => .pointer none | some g => .pointer (some ⟨g, 0, none⟩)
/-- A fate in memory; an active one's Once has not run. -/
structure FtAt (w : World) (g : Nat) (x : FtI) : Prop where
 c3 : w.cell? ⟨g, 3, none⟩ = some (.int .i64 x.st)
 c4 : w.cell? ⟨g, 4, none⟩ = some (.int .u64 x.fin)
 fz : ∀ i, w.frozen? ⟨g, i, none⟩ = false
 on : x.st = 1 → w.cell? ⟨g, 0, none⟩ = some (.int .u32 0) ∧ w.cell? ⟨g, 1, none⟩ = some (.int .i32 0)
/-- A version in memory. -/
structure VeAt (w : World) (v : VeI) : Prop where
 c0 : w.cell? ⟨v.b, 0, none⟩ = some (.int .i64 v.val)
 c1 : w.cell? ⟨v.b, 1, none⟩ = some (.pointer (some ⟨v.mr, 0, none⟩))
 c2 : w.cell? ⟨v.b, 2, none⟩ = some (ptrO v.en)
 fz : ∀ i, w.frozen? ⟨v.b, i, none⟩ = false
/-- A transaction in memory. -/
structure TtAt (w : World) (t : TtI) : Prop where
 c0 : w.cell? ⟨t.b, 0, none⟩ = some (.int .i64 t.id)
 c1 : w.cell? ⟨t.b, 1, none⟩ = some (.int .i64 t.level)
 c2 : w.cell? ⟨t.b, 2, none⟩ = some (.int .u64 t.start)
 c3 : w.cell? ⟨t.b, 3, none⟩ = some (.int .i64 t.ops)
 ca : ∀ k, k < 64 → w.cell? ⟨t.b, 4 + k, none⟩ = some (.bool (t.again k))
 cf : w.cell? ⟨t.b, 68, none⟩ = some (.pointer (some ⟨t.f, 0, none⟩))
 fz : ∀ i, w.frozen? ⟨t.b, i, none⟩ = false
section
variable {w w' : World} {T : Nat → Prop} {g : Nat} {x : FtI} {v : VeI} {t : TtI} {F : Nat → FtI}
theorem FtAt.lt (h : FtAt w g x) : g < w.heap.size := lt_of_cell (a := ⟨g, 3, none⟩) h.c3
theorem VeAt.lt (h : VeAt w v) : v.b < w.heap.size := lt_of_cell (a := ⟨v.b, 0, none⟩) h.c0
theorem TtAt.lt (h : TtAt w t) : t.b < w.heap.size := lt_of_cell (a := ⟨t.b, 0, none⟩) h.c0
theorem FtAt.keep (h : FtAt w g x) (k : Keep T w w') (hn : ¬ T g) : FtAt w' g x :=
 ⟨k.cell h.c3 hn, k.cell h.c4 hn, fun i => (k.frozen (a := ⟨g, i, none⟩) h.lt hn).trans (h.fz i), fun e => ⟨k.cell (h.on e).1 hn, k.cell (h.on e).2 hn⟩⟩
theorem VeAt.keep (h : VeAt w v) (k : Keep T w w') (hn : ¬ T v.b) : VeAt w' v :=
 ⟨k.cell h.c0 hn, k.cell h.c1 hn, k.cell h.c2 hn, fun i => (k.frozen (a := ⟨v.b, i, none⟩) h.lt hn).trans (h.fz i)⟩
theorem TtAt.keep (h : TtAt w t) (k : Keep T w w') (hn : ¬ T t.b) : TtAt w' t :=
 ⟨k.cell h.c0 hn, k.cell h.c1 hn, k.cell h.c2 hn, k.cell h.c3 hn, fun j hj => k.cell (h.ca j hj) hn, k.cell h.cf hn, fun i => (k.frozen (a := ⟨t.b, i, none⟩) h.lt hn).trans (h.fz i)⟩
theorem cells_of {b j : Nat} {x : Value} (h : w.cell? ⟨b, j, .none⟩ = some x) : ∃ c t fr, w.heap[b]? = some (.cells c t fr) := by
 unfold World.cell? at h
 split at h
 ·rename_i c t fr e
  exact ⟨c, t, fr, e⟩
 ·cases h
theorem two_ptrs {a b j1 j2 : Nat} {x y : Value} (hne : a ≠ b) (ha : w.cell? ⟨a, j1, .none⟩ = some x) (hb : w.cell? ⟨b, j2, .none⟩ = some y) (fa : ∀ i, w.frozen? ⟨a, i, .none⟩ = false) (fb : ∀ i, w.frozen? ⟨b, i, .none⟩ = false) :
  (sameAddr ⟨a, 0, .none⟩ ⟨b, 0, .none⟩).run Try.prog w = .ok false w := by
 obtain ⟨ca, ta, ⟨la, ua⟩, ea⟩ := cells_of ha
 obtain ⟨cb, tb, ⟨lb, ub⟩, eb⟩ := cells_of hb
 have fa1 : ∀ i : Nat, (decide (la ≤ i) && decide (i < ua)) = false := fun i => by have := fa i; simpa [World.frozen?, ea] using this
 have fb1 : ∀ i : Nat, (decide (lb ≤ i) && decide (i < ub)) = false := fun i => by have := fb i; simpa [World.frozen?, eb] using this
 have a0 := fa1 0
 have b0 := fb1 0
 have a1 := fa1 ca.size
 have b1 := fb1 cb.size
 simp only [Bool.and_eq_false_iff, decide_eq_false_iff_not] at a0 b0 a1 b1
 have a2 : ¬ (la = 0 ∧ 0 < ua) := by omega
 have b2 : ¬ (lb = 0 ∧ 0 < ub) := by omega
 have a3 : ¬ (la ≤ ca.size ∧ ca.size < ua) := by omega
 have b3 : ¬ (lb ≤ cb.size ∧ cb.size < ub) := by omega
 simp [sameAddr, hne, World.frozen?, ea, eb, noView, viewAt, World.shape?, mayBeOne, stringish, a2, b2, a3, b3]
theorem eql_otherF {a b : Nat} (h : (sameAddr ⟨a, 0, .none⟩ ⟨b, 0, .none⟩).run Try.prog w = .ok false w) : (binOp .eql 88 (.pointer (some ⟨a, 0, .none⟩)) (.pointer (some ⟨b, 0, .none⟩))).run Try.prog w = .ok (.bool false) w ∧ (binOp .neq 88 (.pointer (some ⟨a, 0, .none⟩)) (.pointer (some ⟨b, 0, .none⟩))).run Try.prog w = .ok (.bool true) w := by
  have hsz : (Try.prog.info? 117).map (·.size) = some 5 := by kernel_rfl
  have h2 : ∀ d : Nat, (Op.equalIn (d + 1) 88 (.pointer (some ⟨a, 0, .none⟩)) (.pointer (some ⟨b, 0, .none⟩))).run Try.prog w = .ok false w := fun d => by
    cases hi : Try.prog.info? 117 with
    | none => simp [hi] at hsz
    | some i =>
      have hs : i.size = 5 := by simpa [hi] using hsz
      simp [Op.equalIn, run_underlying Try.underlying88, sizeOf, typeInfo, hi, hs, h]
  constructor
  · simp only [binOp]
    simp [Op.equal, Op.maxDepth, h2 9999]
  · simp only [binOp]
    simp [Op.equal, Op.maxDepth, h2 9999]
theorem eql_selfF {a : Nat} : (binOp .eql 88 (.pointer (some ⟨a, 0, .none⟩)) (.pointer (some ⟨a, 0, .none⟩))).run Try.prog w = .ok (.bool true) w ∧ (binOp .neq 88 (.pointer (some ⟨a, 0, .none⟩)) (.pointer (some ⟨a, 0, .none⟩))).run Try.prog w = .ok (.bool false) w := by
 obtain ⟨j, hte⟩ := info_of_underlying (P := Try.prog) Try.underlying117
 have h : ∀ d : Nat, (Op.equalIn (d + 1) 88 (.pointer (some ⟨a, 0, .none⟩)) (.pointer (some ⟨a, 0, .none⟩))).run Try.prog w = .ok true w := fun d => by
  simp [Op.equalIn, run_underlying Try.underlying88, sizeOf, typeInfo, hte, run_sameAddr_same]
 constructor
 ·simp only [binOp]
  simp [Op.equal, Op.maxDepth, h 9999]
 ·simp only [binOp]
  simp [Op.equal, Op.maxDepth, h 9999]
theorem eql_nilF {a : Nat} : (binOp .eql 88 (.pointer (some ⟨a, 0, .none⟩)) (.pointer .none)).run Try.prog w = .ok (.bool false) w ∧ (binOp .neq 88 (.pointer (some ⟨a, 0, .none⟩)) (.pointer .none)).run Try.prog w = .ok (.bool true) w := by
 have h : ∀ d : Nat, (Op.equalIn (d + 1) 88 (.pointer (some ⟨a, 0, .none⟩)) (.pointer .none)).run Try.prog w = .ok false w := fun d => by
  simp [Op.equalIn, run_underlying Try.underlying88]
 constructor
 ·simp only [binOp]
  simp [Op.equal, Op.maxDepth, h 9999]
 ·simp only [binOp]
  simp [Op.equal, Op.maxDepth, h 9999]
theorem eql_nilsF : (binOp .eql 88 (.pointer .none) (.pointer .none)).run Try.prog w = .ok (.bool true) w ∧ (binOp .neq 88 (.pointer .none) (.pointer .none)).run Try.prog w = .ok (.bool false) w := by
 have h : ∀ d : Nat, (Op.equalIn (d + 1) 88 (.pointer .none) (.pointer .none)).run Try.prog w = .ok true w := fun d => by
  simp [Op.equalIn, run_underlying Try.underlying88]
 constructor
 ·simp only [binOp]
  simp [Op.equal, Op.maxDepth, h 9999]
 ·simp only [binOp]
  simp [Op.equal, Op.maxDepth, h 9999]
theorem eql_noneF {a : Nat} : (binOp .eql 88 (.pointer .none) (.pointer (some ⟨a, 0, .none⟩))).run Try.prog w = .ok (.bool false) w ∧ (binOp .neq 88 (.pointer .none) (.pointer (some ⟨a, 0, .none⟩))).run Try.prog w = .ok (.bool true) w := by
 have h : ∀ d : Nat, (Op.equalIn (d + 1) 88 (.pointer .none) (.pointer (some ⟨a, 0, .none⟩))).run Try.prog w = .ok false w := fun d => by
  simp [Op.equalIn, run_underlying Try.underlying88]
 constructor
 ·simp only [binOp]
  simp [Op.equal, Op.maxDepth, h 9999]
 ·simp only [binOp]
  simp [Op.equal, Op.maxDepth, h 9999]
theorem eql_otherV {a b : Nat} (h : (sameAddr ⟨a, 0, .none⟩ ⟨b, 0, .none⟩).run Try.prog w = .ok false w) : (binOp .eql 85 (.pointer (some ⟨a, 0, .none⟩)) (.pointer (some ⟨b, 0, .none⟩))).run Try.prog w = .ok (.bool false) w ∧ (binOp .neq 85 (.pointer (some ⟨a, 0, .none⟩)) (.pointer (some ⟨b, 0, .none⟩))).run Try.prog w = .ok (.bool true) w := by
  have hsz : (Try.prog.info? 101).map (·.size) = some 3 := by kernel_rfl
  have h2 : ∀ d : Nat, (Op.equalIn (d + 1) 85 (.pointer (some ⟨a, 0, .none⟩)) (.pointer (some ⟨b, 0, .none⟩))).run Try.prog w = .ok false w := fun d => by
    cases hi : Try.prog.info? 101 with
    | none => simp [hi] at hsz
    | some i =>
      have hs : i.size = 3 := by simpa [hi] using hsz
      simp [Op.equalIn, run_underlying Try.underlying85, sizeOf, typeInfo, hi, hs, h]
  constructor
  · simp only [binOp]
    simp [Op.equal, Op.maxDepth, h2 9999]
  · simp only [binOp]
    simp [Op.equal, Op.maxDepth, h2 9999]
theorem eql_selfV {a : Nat} : (binOp .eql 85 (.pointer (some ⟨a, 0, .none⟩)) (.pointer (some ⟨a, 0, .none⟩))).run Try.prog w = .ok (.bool true) w ∧ (binOp .neq 85 (.pointer (some ⟨a, 0, .none⟩)) (.pointer (some ⟨a, 0, .none⟩))).run Try.prog w = .ok (.bool false) w := by
 obtain ⟨j, hte⟩ := info_of_underlying (P := Try.prog) Try.underlying101
 have h : ∀ d : Nat, (Op.equalIn (d + 1) 85 (.pointer (some ⟨a, 0, .none⟩)) (.pointer (some ⟨a, 0, .none⟩))).run Try.prog w = .ok true w := fun d => by
  simp [Op.equalIn, run_underlying Try.underlying85, sizeOf, typeInfo, hte, run_sameAddr_same]
 constructor
 ·simp only [binOp]
  simp [Op.equal, Op.maxDepth, h 9999]
 ·simp only [binOp]
  simp [Op.equal, Op.maxDepth, h 9999]
theorem eql_nilV {a : Nat} : (binOp .eql 85 (.pointer (some ⟨a, 0, .none⟩)) (.pointer .none)).run Try.prog w = .ok (.bool false) w ∧ (binOp .neq 85 (.pointer (some ⟨a, 0, .none⟩)) (.pointer .none)).run Try.prog w = .ok (.bool true) w := by
 have h : ∀ d : Nat, (Op.equalIn (d + 1) 85 (.pointer (some ⟨a, 0, .none⟩)) (.pointer .none)).run Try.prog w = .ok false w := fun d => by
  simp [Op.equalIn, run_underlying Try.underlying85]
 constructor
 ·simp only [binOp]
  simp [Op.equal, Op.maxDepth, h 9999]
 ·simp only [binOp]
  simp [Op.equal, Op.maxDepth, h 9999]
theorem eql_nilsV : (binOp .eql 85 (.pointer .none) (.pointer .none)).run Try.prog w = .ok (.bool true) w ∧ (binOp .neq 85 (.pointer .none) (.pointer .none)).run Try.prog w = .ok (.bool false) w := by
 have h : ∀ d : Nat, (Op.equalIn (d + 1) 85 (.pointer .none) (.pointer .none)).run Try.prog w = .ok true w := fun d => by
  simp [Op.equalIn, run_underlying Try.underlying85]
 constructor
 ·simp only [binOp]
  simp [Op.equal, Op.maxDepth, h 9999]
 ·simp only [binOp]
  simp [Op.equal, Op.maxDepth, h 9999]
theorem eql_noneV {a : Nat} : (binOp .eql 85 (.pointer .none) (.pointer (some ⟨a, 0, .none⟩))).run Try.prog w = .ok (.bool false) w ∧ (binOp .neq 85 (.pointer .none) (.pointer (some ⟨a, 0, .none⟩))).run Try.prog w = .ok (.bool true) w := by
 have h : ∀ d : Nat, (Op.equalIn (d + 1) 85 (.pointer .none) (.pointer (some ⟨a, 0, .none⟩))).run Try.prog w = .ok false w := fun d => by
  simp [Op.equalIn, run_underlying Try.underlying85]
 constructor
 ·simp only [binOp]
  simp [Op.equal, Op.maxDepth, h 9999]
 ·simp only [binOp]
  simp [Op.equal, Op.maxDepth, h 9999]
/-- What a fate's pointer leads to. -/
def FtO (w : World) (F : Nat → FtI) (f : Option Nat) : Prop := ∀ g, f = some g → FtAt w g (F g)
theorem FtO.keep {f : Option Nat} (h : FtO w F f) (k : Keep T w w') (hn : ∀ g, f = some g → ¬ T g) : FtO w' F f := fun g e => (h g e).keep k (hn g e)
/-- Whether two fates are one. -/
theorem eql_fates {f : Option Nat} {g : Nat} (h : FtO w F f) (hg : FtAt w g x) (w2 : World) (k : Keep (fun _ => False) w w2) : (binOp .eql 88 (ptrO f) (.pointer (some ⟨g, 0, .none⟩))).run Try.prog w2 = .ok (.bool (decide (f = some g))) w2 ∧ (binOp .neq 88 (ptrO f) (.pointer (some ⟨g, 0, .none⟩))).run Try.prog w2 = .ok (.bool (decide (f ≠ some g))) w2 := by
  cases f with
  | none => exact eql_noneF
  | some d =>
    have hd := (h d rfl).keep k id
    have hg := hg.keep k id
    by_cases e : d = g
    · subst e
      have := eql_selfF (w := w2) (a := d)
      simpa [ptrO] using this
    · have := eql_otherF (two_ptrs e hd.c3 hg.c3 hd.fz hg.fz)
      have e2 : ¬ (some d = some g) := fun c => e (Option.some.inj c)
      simpa [ptrO, e2, e] using this
theorem by_any {f : Option Nat} (h : FtO w F f) (at' : Int) : Calls Try.prog 45 #[ptrO f, .int .u64 at'] w fun e w' => e = .returned (.bool (byF F f at')) ∧ w' = w := by
  obtain ⟨n1, n2⟩ := eql_nilF (w := w) (a := f.getD 0)
  obtain ⟨n3, n4⟩ := eql_nilsF (w := w)
  cases f with
  | none =>
    clear n1 n2
    unfold ptrO byF
    go_enter Try.func45, Try.ntmps45
    go_wp2
    go_ret
    exact ⟨rfl, rfl⟩
  | some g =>
    obtain ⟨c3, c4, _, _⟩ := h g rfl
    unfold ptrO byF
    dsimp only [Option.getD] at *
    obtain ⟨⟨st, fin⟩, hF⟩ : ∃ y, F g = y := ⟨_, rfl⟩
    rw [hF] at c3 c4 ⊢
    dsimp only at *
    clear n3 n4 n1 hF h
    by_cases s3 : st = 3
    · subst s3
      obtain ⟨r, hr⟩ : ∃ r, decide (fin ≤ at') = r := ⟨_, rfl⟩
      rw [hr]
      go_enter Try.func45, Try.ntmps45
      go_wp2
      go_ret
      exact ⟨by simp, rfl⟩
    · have e1 : (st == 3) = false := by simpa using s3
      rw [decide_eq_false s3]
      clear s3
      go_enter Try.func45, Try.ntmps45
      go_wp2
      go_ret
      exact ⟨rfl, rfl⟩
theorem since_any {f : Option Nat} (h : FtO w F f) (at' : Int) : Calls Try.prog 66 #[ptrO f, .int .u64 at'] w fun e w' => e = .returned (.bool (sinceF F f at')) ∧ w' = w := by
  obtain ⟨n1, n2⟩ := eql_nilF (w := w) (a := f.getD 0)
  obtain ⟨n3, n4⟩ := eql_nilsF (w := w)
  cases f with
  | none =>
    clear n1 n2
    unfold ptrO sinceF
    go_enter Try.func66, Try.ntmps66
    go_wp2
    go_ret
    exact ⟨rfl, rfl⟩
  | some g =>
    obtain ⟨c3, c4, _, _⟩ := h g rfl
    unfold ptrO sinceF
    dsimp only [Option.getD] at *
    obtain ⟨⟨st, fin⟩, hF⟩ : ∃ y, F g = y := ⟨_, rfl⟩
    rw [hF] at c3 c4 ⊢
    dsimp only at *
    clear n3 n4 n1 hF h
    by_cases s1 : st = 1
    · subst s1
      go_enter Try.func66, Try.ntmps66
      go_wp2
      go_ret
      exact ⟨by simp, rfl⟩
    · have e0 : (st == 1) = false := by simpa using s1
      rw [decide_eq_false s1]
      by_cases s3 : st = 3
      · subst s3
        clear s1
        obtain ⟨r, hr⟩ : ∃ r, decide (at' < fin) = r := ⟨_, rfl⟩
        rw [hr]
        go_enter Try.func66, Try.ntmps66
        go_wp2
        go_ret
        exact ⟨by simp, rfl⟩
      · have e1 : (st == 3) = false := by simpa using s3
        rw [decide_eq_false s3]
        clear s3 s1
        go_enter Try.func66, Try.ntmps66
        go_wp2
        go_ret
        exact ⟨rfl, rfl⟩
theorem knows_any (ht : TtAt w t) {f : Option Nat} (h : FtO w F f) (hg : FtAt w t.f (F t.f)) : Calls Try.prog 60 #[.pointer (some ⟨t.b, 0, none⟩), ptrO f] w fun e w' => e = .returned (.bool (knowsF F t f)) ∧ w' = w := by
  have E := (eql_fates h hg w (Keep.refl _ _)).1
  have B := by_any h t.start
  obtain ⟨_, _, c2, _, _, cf, _⟩ := ht
  unfold knowsF
  obtain ⟨q, eq⟩ : ∃ q, decide (f = some t.f) = q := ⟨_, rfl⟩
  obtain ⟨r, er⟩ : ∃ r, byF F f t.start = r := ⟨_, rfl⟩
  rw [eq] at E
  rw [er] at B
  rw [eq, er]
  clear eq er h hg
  cases f with
  | none =>
    dsimp only [ptrO] at *
    cases q
    · go_enter Try.func60, Try.ntmps60; go_wp2_with fail; refine B.mono ?_; rintro e w1 ⟨rfl, rfl⟩; go_wp2; go_ret; exact ⟨rfl, rfl⟩
    · clear B; go_enter Try.func60, Try.ntmps60; go_wp2; go_ret; exact ⟨rfl, rfl⟩
  | some d =>
    dsimp only [ptrO] at *
    cases q
    · go_enter Try.func60, Try.ntmps60; go_wp2_with fail; refine B.mono ?_; rintro e w1 ⟨rfl, rfl⟩; go_wp2; go_ret; exact ⟨rfl, rfl⟩
    · clear B; go_enter Try.func60, Try.ntmps60; go_wp2; go_ret; exact ⟨rfl, rfl⟩
/-- What a version's pointers lead to. -/
structure VeF (w : World) (F : Nat → FtI) (v : VeI) : Prop where
 a : VeAt w v
 m : FtAt w v.mr (F v.mr)
 e : FtO w F v.en
theorem VeF.same (h : VeF w F v) (k : Keep (fun _ => False) w w') : VeF w' F v := ⟨h.a.keep k id, h.m.keep k id, h.e.keep k fun _ _ => id⟩
theorem VeF.mo (h : VeF w F v) : FtO w F (some v.mr) := fun g e => by cases e; exact h.m
set_option maxRecDepth 100000 in
theorem sees_any (ht : TtAt w t) (hv : VeF w F v) (hg : FtAt w t.f (F t.f)) : Calls Try.prog 54 #[.pointer (some ⟨t.b, 0, none⟩), .pointer (some ⟨v.b, 0, none⟩)] w fun e w' => e = .returned (.bool (seesV F t v)) ∧ w' = w := by
  have K1 := knows_any ht hv.mo hg
  have K2 := knows_any ht hv.e hg
  obtain ⟨_, c1, c2, _⟩ := hv.a
  unfold seesV
  obtain ⟨q, eq⟩ : ∃ q, knowsF F t (some v.mr) = q := ⟨_, rfl⟩
  obtain ⟨r, er⟩ : ∃ r, knowsF F t v.en = r := ⟨_, rfl⟩
  rw [eq] at K1
  rw [er] at K2
  rw [eq, er]
  obtain ⟨b, val, mr, en⟩ := v
  clear eq er ht hv hg
  cases en with
  | none =>
    dsimp only [ptrO] at *
    cases q
    · clear K2; go_enter Try.func54, Try.ntmps54; go_wp2_with fail; refine K1.mono ?_; rintro e w1 ⟨rfl, rfl⟩; go_wp2; go_ret; exact ⟨rfl, rfl⟩
    · go_enter Try.func54, Try.ntmps54; go_wp2_with fail; refine K1.mono ?_; rintro e w1 ⟨rfl, rfl⟩; go_wp2_with fail; refine K2.mono ?_; rintro e w1 ⟨rfl, rfl⟩; go_wp2; go_ret; exact ⟨by simp, rfl⟩
  | some d =>
    dsimp only [ptrO] at *
    cases q
    · clear K2; go_enter Try.func54, Try.ntmps54; go_wp2_with fail; refine K1.mono ?_; rintro e w1 ⟨rfl, rfl⟩; go_wp2; go_ret; exact ⟨rfl, rfl⟩
    · go_enter Try.func54, Try.ntmps54; go_wp2_with fail; refine K1.mono ?_; rintro e w1 ⟨rfl, rfl⟩; go_wp2_with fail; refine K2.mono ?_; rintro e w1 ⟨rfl, rfl⟩; go_wp2; go_ret; exact ⟨by simp, rfl⟩
theorem made_any (ht : TtAt w t) (hv : VeF w F v) (hg : FtAt w t.f (F t.f)) : Calls Try.prog 67 #[.pointer (some ⟨t.b, 0, none⟩), .pointer (some ⟨v.b, 0, none⟩)] w fun e w' => e = .returned (.bool (madeV t v)) ∧ Keep (fun _ => False) w w' := by
 have E : ∀ d, (binOp .eql 88 (.pointer (some ⟨v.mr, 0, .none⟩)) (.pointer (some ⟨t.f, 0, .none⟩))).run Try.prog (w.drewN d) = .ok (.bool (madeV t v)) (w.drewN d) := fun d => by
  have := (eql_fates hv.mo hg (w.drewN d) (drewN_keep _ _ _)).1
  unfold madeV
  simpa [ptrO] using this
 obtain ⟨_, c1, c2, _⟩ := hv.a
 obtain ⟨_, _, _, _, _, cf, _⟩ := ht
 obtain ⟨q, eq⟩ : ∃ q, madeV t v = q := ⟨_, rfl⟩
 rw [eq] at E ⊢
 clear eq hv hg
 go_enter Try.func67, Try.ntmps67
 go_wp2
 go_quiet (fail)
 go_wp2
 go_ret
 exact ⟨rfl, drewN_keep _ _ _⟩
theorem garb_any (hv : VeF w F v) (low : Int) : Calls Try.prog 35 #[.pointer (some ⟨v.b, 0, none⟩), .int .u64 low] w fun e w' => e = .returned (.bool (garbV F low v)) ∧ w' = w := by
 have B := by_any hv.e low
 obtain ⟨_, c1, c2, _⟩ := hv.a
 have m3 := hv.m.c3
 unfold garbV
 obtain ⟨u2, e2⟩ : ∃ u, ptrO v.en = u := ⟨_, rfl⟩
 obtain ⟨r, er⟩ : ∃ r, byF F v.en low = r := ⟨_, rfl⟩
 obtain ⟨st, es⟩ : ∃ st, (F v.mr).st = st := ⟨_, rfl⟩
 rw [e2, er] at B
 rw [e2] at c2
 rw [es] at m3
 simp only [es, er]
 clear e2 er es hv
 by_cases s4 : st = 4
 ·subst s4
  clear B
  go_enter Try.func35, Try.ntmps35
  go_wp2
  go_ret
  exact ⟨rfl, rfl⟩
 ·have e1 : (st == 4) = false := by simpa using s4
  rw [decide_eq_false s4]
  clear s4
  go_enter Try.func35, Try.ntmps35
  go_wp2_with fail
  refine B.mono ?_
  rintro e w1 ⟨rfl, rfl⟩
  go_wp2
  go_ret
  exact ⟨rfl, rfl⟩
end
end Go.Proofs.Ytalkfnblnlcklaa
/- Package model as landed, in memory: conflicts. Condition: what they lead to lies in memory. -/
namespace Go.Proofs.Ytalkfnblnlcklaa
open Go.ChangeShapes Go.WideShapes Go.ChangeAt Go.RowKit
set_option linter.unusedVariables false
set_option linter.unusedSimpArgs false
section
variable {w w' : World} {T : Nat → Prop} {g : Nat} {x : FtI} {v : VeI} {t : TtI} {F : Nat → FtI}
set_option maxRecDepth 100000 in
set_option maxHeartbeats 8000000 in
theorem conf_none (hen : v.en = none) (ht : TtAt w t) (hv : VeF w F v) (hg : FtAt w t.f (F t.f)) : Calls Try.prog 62 #[.pointer (some ⟨t.b, 0, none⟩), .pointer (some ⟨v.b, 0, none⟩)] w fun e w' => e = .returned (.bool (confV F t v)) ∧ Keep (fun _ => False) w w' := by
 have E1 := fun d => (eql_fates hv.mo hg (w.drewN d) (drewN_keep _ _ _)).2
 have E2 := fun d => (eql_fates hv.e hg (w.drewN d) (drewN_keep _ _ _)).2
 have S1 := fun d => since_any (hv.same (drewN_keep (fun _ => False) w d)).mo t.start
 have S2 := fun d => since_any (hv.same (drewN_keep (fun _ => False) w d)).e t.start
 obtain ⟨_, c1, c2, _⟩ := hv.a
 obtain ⟨_, _, b2, _, _, bf, _⟩ := ht
 have R : confV F t v = ((decide (some v.mr ≠ some t.f) && sinceF F (some v.mr) t.start) || (decide (v.en ≠ some t.f) && sinceF F v.en t.start)) := by
  unfold confV
  have : decide (v.mr ≠ t.f) = decide (some v.mr ≠ some t.f) := by simp
  rw [this]
 rw [R]
 obtain ⟨q1, eq1⟩ : ∃ q, decide (some v.mr ≠ some t.f) = q := ⟨_, rfl⟩
 obtain ⟨q2, eq2⟩ : ∃ q, decide (v.en ≠ some t.f) = q := ⟨_, rfl⟩
 obtain ⟨r1, er1⟩ : ∃ r, sinceF F (some v.mr) t.start = r := ⟨_, rfl⟩
 obtain ⟨r2, er2⟩ : ∃ r, sinceF F v.en t.start = r := ⟨_, rfl⟩
 simp only [eq1] at E1
 simp only [eq2] at E2
 simp only [er1] at S1
 simp only [er2] at S2
 rw [eq1, eq2, er1, er2]
 clear eq1 eq2 er1 er2 R hv hg
 obtain ⟨b, val, mr, en⟩ := v
 obtain rfl : en = none := hen
 dsimp only [ptrO] at *
 cases q1
 ·clear S1
  cases q2
  ·go_enter Try.func62, Try.ntmps62; go_wp2; go_quiet ((go_at_call 66; exact Calls.quiet_of_same (S2 _))); go_wp2; go_ret; exact ⟨by simp, drewN_keep _ _ _⟩
  ·go_enter Try.func62, Try.ntmps62; go_wp2; go_quiet ((go_at_call 66; exact Calls.quiet_of_same (S2 _))); go_wp2; go_ret; exact ⟨by simp, drewN_keep _ _ _⟩
 ·cases r1
  ·cases q2
   ·clear S2
    go_enter Try.func62, Try.ntmps62; go_wp2; go_quiet ((go_at_call 66; exact Calls.quiet_of_same (S1 _))); go_wp2; go_ret; exact ⟨by simp, drewN_keep _ _ _⟩
   ·go_enter Try.func62, Try.ntmps62; go_wp2; go_quiet ((go_at_call 66; first | with_reducible exact Calls.quiet_of_same (S1 _) | with_reducible exact Calls.quiet_of_same (S2 _))); go_wp2; go_ret; exact ⟨by simp, drewN_keep _ _ _⟩
  ·clear S2
   go_enter Try.func62, Try.ntmps62; go_wp2; go_quiet ((go_at_call 66; exact Calls.quiet_of_same (S1 _))); go_wp2; go_ret; exact ⟨by simp, drewN_keep _ _ _⟩
end
end Go.Proofs.Ytalkfnblnlcklaa
/- Package model as landed, in memory: conflicts. Condition: what they lead to lies in memory. -/
namespace Go.Proofs.Ytalkfnblnlcklaa
open Go.ChangeShapes Go.WideShapes Go.ChangeAt Go.RowKit
set_option linter.unusedVariables false
set_option linter.unusedSimpArgs false
section
variable {w w' : World} {T : Nat → Prop} {g : Nat} {x : FtI} {v : VeI} {t : TtI} {F : Nat → FtI}
set_option maxRecDepth 100000 in
set_option maxHeartbeats 8000000 in
theorem conf_some (d : Nat) (hen : v.en = some d) (ht : TtAt w t) (hv : VeF w F v) (hg : FtAt w t.f (F t.f)) : Calls Try.prog 62 #[.pointer (some ⟨t.b, 0, none⟩), .pointer (some ⟨v.b, 0, none⟩)] w fun e w' => e = .returned (.bool (confV F t v)) ∧ Keep (fun _ => False) w w' := by
 have E1 := fun d => (eql_fates hv.mo hg (w.drewN d) (drewN_keep _ _ _)).2
 have E2 := fun d => (eql_fates hv.e hg (w.drewN d) (drewN_keep _ _ _)).2
 have S1 := fun d => since_any (hv.same (drewN_keep (fun _ => False) w d)).mo t.start
 have S2 := fun d => since_any (hv.same (drewN_keep (fun _ => False) w d)).e t.start
 obtain ⟨_, c1, c2, _⟩ := hv.a
 obtain ⟨_, _, b2, _, _, bf, _⟩ := ht
 have R : confV F t v = ((decide (some v.mr ≠ some t.f) && sinceF F (some v.mr) t.start) || (decide (v.en ≠ some t.f) && sinceF F v.en t.start)) := by
  unfold confV
  have : decide (v.mr ≠ t.f) = decide (some v.mr ≠ some t.f) := by simp
  rw [this]
 rw [R]
 obtain ⟨q1, eq1⟩ : ∃ q, decide (some v.mr ≠ some t.f) = q := ⟨_, rfl⟩
 obtain ⟨q2, eq2⟩ : ∃ q, decide (v.en ≠ some t.f) = q := ⟨_, rfl⟩
 obtain ⟨r1, er1⟩ : ∃ r, sinceF F (some v.mr) t.start = r := ⟨_, rfl⟩
 obtain ⟨r2, er2⟩ : ∃ r, sinceF F v.en t.start = r := ⟨_, rfl⟩
 simp only [eq1] at E1
 simp only [eq2] at E2
 simp only [er1] at S1
 simp only [er2] at S2
 rw [eq1, eq2, er1, er2]
 clear eq1 eq2 er1 er2 R hv hg
 obtain ⟨b, val, mr, en⟩ := v
 obtain rfl : en = some d := hen
 dsimp only [ptrO] at *
 cases q1
 ·clear S1
  cases q2
  ·go_enter Try.func62, Try.ntmps62; go_wp2; go_quiet ((go_at_call 66; exact Calls.quiet_of_same (S2 _))); go_wp2; go_ret; exact ⟨by simp, drewN_keep _ _ _⟩
  ·go_enter Try.func62, Try.ntmps62; go_wp2; go_quiet ((go_at_call 66; exact Calls.quiet_of_same (S2 _))); go_wp2; go_ret; exact ⟨by simp, drewN_keep _ _ _⟩
 ·cases r1
  ·cases q2
   ·clear S2
    go_enter Try.func62, Try.ntmps62; go_wp2; go_quiet ((go_at_call 66; exact Calls.quiet_of_same (S1 _))); go_wp2; go_ret; exact ⟨by simp, drewN_keep _ _ _⟩
   ·go_enter Try.func62, Try.ntmps62; go_wp2; go_quiet ((go_at_call 66; first | with_reducible exact Calls.quiet_of_same (S1 _) | with_reducible exact Calls.quiet_of_same (S2 _))); go_wp2; go_ret; exact ⟨by simp, drewN_keep _ _ _⟩
  ·clear S2
   go_enter Try.func62, Try.ntmps62; go_wp2; go_quiet ((go_at_call 66; exact Calls.quiet_of_same (S1 _))); go_wp2; go_ret; exact ⟨by simp, drewN_keep _ _ _⟩
end
end Go.Proofs.Ytalkfnblnlcklaa
/- Package model as landed: a transaction's pointer against nil. No condition. -/
namespace Go.Proofs.Ytalkfnblnlcklaa
open Go.ChangeShapes Go.WideShapes Go.ChangeAt Go.RowKit
theorem eql_nilT {w : World} {a : Nat} : (binOp .eql 49 (.pointer (some ⟨a, 0, .none⟩)) (.pointer .none)).run Try.prog w = .ok (.bool false) w ∧ (binOp .neq 49 (.pointer (some ⟨a, 0, .none⟩)) (.pointer .none)).run Try.prog w = .ok (.bool true) w := by
 have h : ∀ d : Nat, (Op.equalIn (d + 1) 49 (.pointer (some ⟨a, 0, .none⟩)) (.pointer .none)).run Try.prog w = .ok false w := fun d => by
  simp [Op.equalIn, run_underlying Try.underlying49]
 constructor
 ·simp only [binOp]
  simp [Op.equal, Op.maxDepth, h 9999]
 ·simp only [binOp]
  simp [Op.equal, Op.maxDepth, h 9999]
end Go.Proofs.Ytalkfnblnlcklaa
