/- Several texts, one behind the other: RmR, RmS, RmF, MdR, MpA, MpB, MpC. -/
import Derived.Test.YtkkjofefjepodaaLawModelPlaysZab
import Derived.Test.YtkkjofefjepodaaLawModelPlaysZaz
import Derived.Test.YtkkjofefjepodaaLawModelPlaysZaj
import Derived.Test.YtkkjofefjepodaaLawModelPlaysZba
import Derived.Test.YtkkjofefjepodaaLawModelPlaysZac
import Derived.Test.YtkkjofefjepodaaLawModelPlaysZat
import Derived.Test.YtkkjofefjepodaaLawModelPlaysZag
import Derived.Test.YtkkjofefjepodaaLawModelPlaysZaa
import Derived.ChangeOld
import Derived.Deep.LoopGhost
import Derived.Deep.CutRange
import Derived.Deep.CutBlock
import Derived.Deep.RegionHeld3
/- The document's own Model, thirteenth part: Begin, Status. Conditions: what a Model always keeps (Few). -/
namespace Go.Proofs.Ytkkjofefjepodaa
open Go.ChangeShapes Go.WideShapes Go.ChangeAt Go.RowKit
set_option linter.unusedVariables false
set_option linter.unusedSimpArgs false

section
variable {w w' W : World} {m : Nat} {vv vv' : Value} {sw sr sw' sr' : Nat → Value} {x y : MoI} {T : Nat → Prop}
theorem RmAt.mades (h : RmAt w m vv sw sr x) (t : Int) : RmAt (w.setCell ⟨m, 52, none⟩ (.int .i64 t)) m vv sw sr { x with made := t } := by
 have k := keep_one w ⟨m, 52, none⟩ (.int .i64 t)
 have far : ∀ i u, i ≠ 52 → w.cell? ⟨m, i, none⟩ = some u → (w.setCell ⟨m, 52, none⟩ (.int .i64 t)).cell? ⟨m, i, none⟩ = some u := fun i u ne hu => by rw [World.cell?_setCell_other _ _ _ _ (by first | (simp; done) | (simp; omega))]; exact hu
 exact {
  c0 := far 0 _ (by omega) h.c0, c1 := far 1 _ (by omega) h.c1, c2 := far 2 _ (by omega) h.c2
  s0 := fun i hi => far _ _ (by omega) (h.s0 i hi), s1 := fun i hi => far _ _ (by omega) (h.s1 i hi), s2 := fun i hi => far _ _ (by omega) (h.s2 i hi)
  s3 := fun i hi => far _ _ (by omega) (h.s3 i hi), s4 := fun i hi => far _ _ (by omega) (h.s4 i hi), s5 := fun i hi => far _ _ (by omega) (h.s5 i hi)
  c51 := far 51 _ (by omega) h.c51, c52 := World.cell?_setCell_same _ _ _ h.c52
  fz := fun i => by rw [World.frozen?_setCell]; exact h.fz i
  ov := h.ov.keep k (fun g hg e => h.vm (by rw [hg]; exact congrArg some e))
  ow := fun i hi => OwnN.keep (h.ow i hi) k (fun g hg e => h.wm i hi (by rw [hg]; exact congrArg some e))
  or' := fun i hi => (h.or' i hi).keep k (fun g hg e => h.rm i hi (by rw [hg]; exact congrArg some e))
  vm := h.vm, wm := h.wm, rm := h.rm, vw := h.vw, vr := h.vr, ww := h.ww, rr := h.rr, wr := h.wr }
/-- What Begin answers. -/
def DidB (w : World) (m : Nat) (vv : Value) (sw sr : Nat → Value) (n e0 : Int) (y : MoI) (e : Ending) (w' : World) : Prop := e = .returned (.tuple #[.int .i64 n, .int .i64 e0]) ∧ RmTo w m vv sw sr y w'
set_option maxRecDepth 100000 in
set_option maxHeartbeats 2000000 in
theorem rbegin_arg (h : RmAt w m vv sw sr x) (s level : Int) (hb : s < 0 ∨ 7 < s ∨ level < 1 ∨ 3 < level) : Calls Try.prog 35 #[.pointer (some ⟨m, 0, none⟩), .int .i64 s, .int .i64 level] w (DidB w m vv sw sr 0 1 x) := by
 have H := Lib.hid (RmTo.same h (Keep.refl _ w))
 clear h
 unfold DidB
 by_cases h1 : s < 0
 ·have d1 : decide (s < 0) = true := decide_eq_true h1
  clear hb
  go_enter Try.func35, Try.ntmps35
  go_wp2
  go_ret2
  exact ⟨rfl, H.out⟩
 ·have d1 : decide (s < 0) = false := decide_eq_false h1
  by_cases h2 : 7 < s
  ·have d2 : decide (7 < s) = true := decide_eq_true h2
   clear hb
   go_enter Try.func35, Try.ntmps35
   go_wp2
   go_ret2
   exact ⟨rfl, H.out⟩
  ·have d2 : decide (7 < s) = false := decide_eq_false h2
   by_cases h3 : level < 1
   ·have d3 : decide (level < 1) = true := decide_eq_true h3
    clear hb
    go_enter Try.func35, Try.ntmps35
    go_wp2
    go_ret2
    exact ⟨rfl, H.out⟩
   ·have d3 : decide (level < 1) = false := decide_eq_false h3
    have h4 : 3 < level := by omega
    have d4 : decide (3 < level) = true := decide_eq_true h4
    clear hb
    go_enter Try.func35, Try.ntmps35
    go_wp2
    go_ret2
    exact ⟨rfl, H.out⟩
set_option maxRecDepth 100000 in
set_option maxHeartbeats 4000000 in
theorem rbegin_any (h : RmAt w m vv sw sr x) (f : Few x) (hm : 0 ≤ x.made ∧ x.made ≤ 2000) (s level : Int) : Calls Try.prog 35 #[.pointer (some ⟨m, 0, none⟩), .int .i64 s, .int .i64 level] w (DidB w m vv sw sr (x.begN s level) (x.begE s level) (x.beg s level)) := by
 by_cases hb : s < 0 ∨ 7 < s ∨ level < 1 ∨ 3 < level
 ·have e1 : x.begE s level = 1 := if_pos hb
  have e2 : x.begN s level = 0 := by unfold MoI.begN; rw [e1]; rfl
  have e3 : x.beg s level = x := by unfold MoI.beg; rw [e1]; rfl
  rw [e1, e2, e3]
  exact rbegin_arg h s level hb
 ·obtain ⟨q, rfl⟩ : ∃ q : Nat, s = (q : Int) := ⟨s.toNat, by omega⟩
  have hq : q < 8 := by omega
  have d1 : decide ((q : Int) < 0) = false := decide_eq_false (by omega)
  have d2 : decide ((7 : Int) < (q : Int)) = false := decide_eq_false (by omega)
  have d3 : decide (level < 1) = false := decide_eq_false (by omega)
  have d4 : decide (3 < level) = false := decide_eq_false (by omega)
  have g1 : ¬ (q : Int) < 0 := by omega
  have g2 : ¬ (7 : Int) < (q : Int) := by omega
  have hq2 : (q : Int) < 8 := by omega
  have s0 := h.s0 q hq
  obtain ⟨id', ei⟩ : ∃ z, (x.s q).id = z := ⟨_, rfl⟩
  rw [ei] at s0
  have EI := Lib.hid ei
  have E0 := Lib.hid (show x.begE q level = if id' ≠ 0 then 9 else if 2000 ≤ x.made then 65 else if x.limit ≤ x.time then 16 else 0 by unfold MoI.begE; rw [if_neg hb, Int.toNat_natCast, EI.out])
  have H := Lib.hid h
  have HB := Lib.hid hb
  have HS := Lib.hid (RmTo.same h (Keep.refl _ w))
  clear h hb ei
  by_cases hid : id' = 0
  ·subst hid
   have c52 := H.out.c52
   by_cases hmd : 2000 ≤ x.made
   ·have d5 : decide (2000 ≤ x.made) = true := decide_eq_true hmd
    have e1 : x.begE q level = 65 := by rw [E0.out, if_neg (by simp), if_pos hmd]
    have e2 : x.begN q level = 0 := by unfold MoI.begN; rw [e1]; rfl
    have e3 : x.beg q level = x := by unfold MoI.beg; rw [e1]; rfl
    rw [e1, e2, e3]
    unfold DidB
    clear e1 e2 e3
    go_enter Try.func35, Try.ntmps35
    go_wp2
    go_ret2
    exact ⟨rfl, HS.out⟩
   ·have d5 : decide (2000 ≤ x.made) = false := decide_eq_false hmd
    have c51 := H.out.c51
    have c1 := H.out.c1
    by_cases hlt : x.limit ≤ x.time
    ·have d6 : decide (x.limit ≤ x.time) = true := decide_eq_true hlt
     have e1 : x.begE q level = 16 := by rw [E0.out, if_neg (by simp), if_neg hmd, if_pos hlt]
     have e2 : x.begN q level = 0 := by unfold MoI.begN; rw [e1]; rfl
     have e3 : x.beg q level = x := by unfold MoI.beg; rw [e1]; rfl
     rw [e1, e2, e3]
     unfold DidB
     clear e1 e2 e3
     go_enter Try.func35, Try.ntmps35
     go_wp2_with fail
     refine wp_region_held_drew (S := fun w' => w'.cell? ⟨m, 51, none⟩ = some (.int .u64 x.time) ∧ w'.cell? ⟨m, 1, none⟩ = some (.int .u64 x.limit)) (by kernel_rfl) ⟨c51, c1⟩ (fun hHeld => ?_)
     refine tk 0 (v := ?qvu591) ?qyu591 ?qru591; case qyu591 => ((intro w hSw; (try dsimp only at hSw); go_simp); try (with_reducible rfl))
     (try simp only [tA, tS, tZ, Act.put, uA, uS, uZ])
     refine tk 1 (v := ?qvu592) ?qyu592 ?qru592; case qyu592 => ((intro w hSw; (try dsimp only at hSw); go_simp); try (with_reducible rfl))
     (try simp only [tA, tS, tZ, Act.put, uA, uS, uZ])
     refine tk 2 (v := ?qvu593) ?qyu593 ?qru593; case qyu593 => ((intro w hSw; (try dsimp only at hSw); go_simp); try (with_reducible rfl))
     (try simp only [tA, tS, tZ, Act.put, uA, uS, uZ])
     refine tk 3 (v := ?qvu594) ?qyu594 ?qru594; case qyu594 => ((intro w hSw; (try dsimp only at hSw); go_simp); try (with_reducible rfl))
     (try simp only [tA, tS, tZ, Act.put, uA, uS, uZ])
     refine tk 4 (v := ?qvu595) ?qyu595 ?qru595; case qyu595 => ((intro w hSw; (try dsimp only at hSw); go_simp); try (with_reducible rfl))
     (try simp only [tA, tS, tZ, Act.put, uA, uS, uZ])
     refine tk 5 (v := ?qvu596) ?qyu596 ?qru596; case qyu596 => ((intro w hSw; (try dsimp only at hSw); go_simp); try (with_reducible rfl))
     (try simp only [tA, tS, tZ, Act.put, uA, uS, uZ])
     refine tk 6 (v := ?qvu597) ?qyu597 ?qru597; case qyu597 => ((intro w hSw; (try dsimp only at hSw); go_simp); try (with_reducible rfl))
     (try simp only [tA, tS, tZ, Act.put, uA, uS, uZ])
     refine tk 7 (v := ?qvu598) ?qyu598 ?qru598; case qyu598 => ((intro w hSw; (try dsimp only at hSw); go_simp); try (with_reducible rfl))
     (try simp only [tA, tS, tZ, Act.put, uA, uS, uZ])
     refine tk 8 (v := ?qvu599) ?qyu599 ?qru599; case qyu599 => ((intro w hSw; (try dsimp only at hSw); go_simp); try (with_reducible rfl))
     (try simp only [tA, tS, tZ, Act.put, uA, uS, uZ])
     refine tk 9 (v := ?qvu600) ?qyu600 ?qru600; case qyu600 => ((intro w hSw; (try dsimp only at hSw); go_simp); try (with_reducible rfl))
     (try simp only [tA, tS, tZ, Act.put, uA, uS, uZ])
     refine tk 10 (v := ?qvu601) ?qyu601 ?qru601; case qyu601 => ((intro w hSw; (try dsimp only at hSw); go_simp); try (with_reducible rfl))
     (try simp only [tA, tS, tZ, Act.put, uA, uS, uZ])
     refine wpAnyH_done (by kernel_rfl) ?_ _
     go_wp2
     go_ret2
     exact ⟨rfl, RmTo.same (H.out.same (Keep.refl _ w).drew) (Keep.refl _ w).drew⟩
    ·have d6 : decide (x.limit ≤ x.time) = false := decide_eq_false hlt
     obtain ⟨f0, f1, f2⟩ := f.t
     have e1 : x.begE q level = 0 := by rw [E0.out, if_neg (by simp), if_neg hmd, if_neg hlt]
     have e2 : x.begN q level = x.made + 1 := by unfold MoI.begN; rw [if_pos e1]
     have e3 : x.beg q level = { x with time := x.time + 1, made := x.made + 1, s := putS x.s q ⟨x.made + 1, level, 0, x.time + 1, [], []⟩ } := by unfold MoI.beg; rw [if_pos e1, Int.toNat_natCast]
     rw [e1, e2, e3]
     obtain ⟨tm, etm⟩ : ∃ tm, x.time + 1 = tm := ⟨_, rfl⟩
     obtain ⟨md, emd⟩ : ∃ md, x.made + 1 = md := ⟨_, rfl⟩
     have wt : IntKind.u64.wrap (x.time + 1) = tm := by rw [IntKind.wrap_u64, ← etm]; omega
     have wm : IntKind.i64.wrap (x.made + 1) = md := (IntWalk.i64_in _ (by omega)).trans emd
     rw [etm, emd]
     have kd := (Keep.refl (fun _ => False) w).drew
     have H2 := ((H.out.clock tm).mades md)
     obtain ⟨wz, ewz⟩ : ∃ wz, (w.setCell ⟨m, 51, none⟩ (.int .u64 tm)).setCell ⟨m, 52, none⟩ (.int .i64 md) = wz := ⟨_, rfl⟩
     have kz : Keep (fun j => j = m) w wz := by rw [← ewz]; exact ((Keep.refl (fun j => j = m) w).setCell (p := ⟨m, 51, none⟩) rfl _).setCell (p := ⟨m, 52, none⟩) rfl _
     rw [ewz] at H2
     have fz0 := H.out.fz
     have f51 := fz0 51
     have f52 := fz0 52
     have z0 := H2.s0 q hq
     have z1 := H2.s1 q hq
     have z2 := H2.s2 q hq
     have z3 := H2.s3 q hq
     have z4 := H2.s4 q hq
     have z5 := H2.s5 q hq
     have z51 := H2.c51
     have z52 := H2.c52
     have fz := H2.fz
     clear fz0
     have P6 := H2.six hq ⟨md, level, 0, tm, [], []⟩ (.slice none 0 0) (.slice none 0 0) (World.ownsRow_nil _ _ _ _) OwnM.nil (by simp [Value.ownBlock]) (by simp [Value.ownBlock]) (by simp [Value.ownBlock]) (by simp [Value.ownBlock]) (by simp [Value.ownBlock])
     have K6 := kz.trans (six_keep wz m q ⟨md, level, 0, tm, [], []⟩ (.slice none 0 0) (.slice none 0 0))
     unfold sixW at P6 K6
     obtain ⟨X, eX⟩ : ∃ X, ((((((wz.setCell ⟨m, 3 + q * 6, none⟩ (.int .i64 md)).setCell ⟨m, 3 + q * 6 + 1, none⟩ (.int .i64 level)).setCell ⟨m, 3 + q * 6 + 2, none⟩ (.int .i64 0)).setCell ⟨m, 3 + q * 6 + 3, none⟩ (.int .u64 tm)).setCell ⟨m, 3 + q * 6 + 4, none⟩ (.slice none 0 0)).setCell ⟨m, 3 + q * 6 + 5, none⟩ (.slice none 0 0)) = X := ⟨_, rfl⟩
     simp only [] at P6 K6
     rw [eX] at P6 K6
     have E51 : X.cell? ⟨m, 51, none⟩ = some (.int .u64 tm) := P6.c51
     have E52 : X.cell? ⟨m, 52, none⟩ = some (.int .i64 md) := P6.c52
     have D51 : X.drew.drew.cell? ⟨m, 51, none⟩ = some (.int .u64 tm) := E51
     have D52 : X.drew.drew.cell? ⟨m, 52, none⟩ = some (.int .i64 md) := E52
     have D51 := Lib.hid D51
     have D52 := Lib.hid D52
     have FIN := Lib.hid (fun (we : World) (k : Keep (fun _ => False) X we) => (show RmTo w m vv sw sr { x with time := tm, made := md, s := putS x.s q ⟨md, level, 0, tm, [], []⟩ } we from ⟨_, _, _, P6.same k, (K6.mono (fun g e => .inl e)).trans (k.mono (fun _ e => e.elim)), fun g hg => by
      left
      rcases hg with e | e | ⟨i, hi, e⟩
      ·exact .inl e
      ·exact .inr (.inl e)
      ·by_cases ei : i = q
       ·subst ei; rw [updV_self, updV_self] at e; rcases e with e | e <;> cases e
       ·rw [updV_ne _ _ ei, updV_ne _ _ ei] at e; exact .inr (.inr ⟨i, hi, e⟩)⟩))
     have H2 := Lib.hid H2
     clear P6 K6 kz E51 E52
     unfold DidB
     clear e1 e2 e3 etm emd
     go_enter Try.func35, Try.ntmps35
     go_wp2_with fail
     refine wp_region_held_drew (S := fun w' => w'.cell? ⟨m, 51, none⟩ = some (.int .u64 x.time) ∧ w'.cell? ⟨m, 1, none⟩ = some (.int .u64 x.limit)) (by kernel_rfl) ⟨c51, c1⟩ (fun hHeld => ?_)
     refine tk 0 (v := ?qvu602) ?qyu602 ?qru602; case qyu602 => ((intro w hSw; (try dsimp only at hSw); go_simp); try (with_reducible rfl))
     (try simp only [tA, tS, tZ, Act.put, uA, uS, uZ])
     refine tk 1 (v := ?qvu603) ?qyu603 ?qru603; case qyu603 => ((intro w hSw; (try dsimp only at hSw); go_simp); try (with_reducible rfl))
     (try simp only [tA, tS, tZ, Act.put, uA, uS, uZ])
     refine tk 2 (v := ?qvu604) ?qyu604 ?qru604; case qyu604 => ((intro w hSw; (try dsimp only at hSw); go_simp); try (with_reducible rfl))
     (try simp only [tA, tS, tZ, Act.put, uA, uS, uZ])
     refine tk 3 (v := ?qvu605) ?qyu605 ?qru605; case qyu605 => ((intro w hSw; (try dsimp only at hSw); go_simp); try (with_reducible rfl))
     (try simp only [tA, tS, tZ, Act.put, uA, uS, uZ])
     refine tk 4 (v := ?qvu606) ?qyu606 ?qru606; case qyu606 => ((intro w hSw; (try dsimp only at hSw); go_simp); try (with_reducible rfl))
     (try simp only [tA, tS, tZ, Act.put, uA, uS, uZ])
     refine tk 5 (v := ?qvu607) ?qyu607 ?qru607; case qyu607 => ((intro w hSw; (try dsimp only at hSw); go_simp); try (with_reducible rfl))
     (try simp only [tA, tS, tZ, Act.put, uA, uS, uZ])
     refine tk 6 (v := ?qvu608) ?qyu608 ?qru608; case qyu608 => ((intro w hSw; (try dsimp only at hSw); go_simp); try (with_reducible rfl))
     (try simp only [tA, tS, tZ, Act.put, uA, uS, uZ])
     refine tk 7 (v := ?qvu609) ?qyu609 ?qru609; case qyu609 => ((intro w hSw; (try dsimp only at hSw); go_simp); try (with_reducible rfl))
     (try simp only [tA, tS, tZ, Act.put, uA, uS, uZ])
     refine tk 8 (v := ?qvu610) ?qyu610 ?qru610; case qyu610 => ((intro w hSw; (try dsimp only at hSw); go_simp); try (with_reducible rfl))
     (try simp only [tA, tS, tZ, Act.put, uA, uS, uZ])
     refine tk 9 (v := ?qvu611) ?qyu611 ?qru611; case qyu611 => ((intro w hSw; (try dsimp only at hSw); go_simp); try (with_reducible rfl))
     (try simp only [tA, tS, tZ, Act.put, uA, uS, uZ])
     refine tk 10 (v := ?qvu612) ?qyu612 ?qru612; case qyu612 => ((intro w hSw; (try dsimp only at hSw); go_simp); try (with_reducible rfl))
     (try simp only [tA, tS, tZ, Act.put, uA, uS, uZ])
     refine wpAnyH_done (by kernel_rfl) ?_ _
     go_wp2_with fail
     refine wp_region_held_drew (S := fun w' => w'.cell? ⟨m, 51, none⟩ = some (.int .u64 tm) ∧ w'.cell? ⟨m, 52, none⟩ = some (.int .i64 md)) (by kernel_rfl) ⟨z51, z52⟩ (fun hHeld => ?_)
     refine tk 0 (v := ?qvu613) ?qyu613 ?qru613; case qyu613 => ((intro w hSw; (try dsimp only at hSw); go_simp); try (with_reducible rfl))
     (try simp only [tA, tS, tZ, Act.put, uA, uS, uZ])
     refine tk 1 (v := ?qvu614) ?qyu614 ?qru614; case qyu614 => ((intro w hSw; (try dsimp only at hSw); go_simp); try (with_reducible rfl))
     (try simp only [tA, tS, tZ, Act.put, uA, uS, uZ])
     refine tk 2 (v := ?qvu615) ?qyu615 ?qru615; case qyu615 => ((intro w hSw; (try dsimp only at hSw); go_simp); try (with_reducible rfl))
     (try simp only [tA, tS, tZ, Act.put, uA, uS, uZ])
     refine tk 3 (v := ?qvu616) ?qyu616 ?qru616; case qyu616 => ((intro w hSw; (try dsimp only at hSw); go_simp); try (with_reducible rfl))
     (try simp only [tA, tS, tZ, Act.put, uA, uS, uZ])
     refine tk 4 (v := ?qvu617) ?qyu617 ?qru617; case qyu617 => ((intro w hSw; (try dsimp only at hSw); go_simp); try (with_reducible rfl))
     (try simp only [tA, tS, tZ, Act.put, uA, uS, uZ])
     refine tk 5 (v := ?qvu618) ?qyu618 ?qru618; case qyu618 => ((intro w hSw; (try dsimp only at hSw); go_simp); try (with_reducible rfl))
     (try simp only [tA, tS, tZ, Act.put, uA, uS, uZ])
     refine tk 6 (v := ?qvu619) ?qyu619 ?qru619; case qyu619 => ((intro w hSw; (try dsimp only at hSw); go_simp); try (with_reducible rfl))
     (try simp only [tA, tS, tZ, Act.put, uA, uS, uZ])
     refine tk 7 (v := ?qvu620) ?qyu620 ?qru620; case qyu620 => ((intro w hSw; (try dsimp only at hSw); go_simp); try (with_reducible rfl))
     (try simp only [tA, tS, tZ, Act.put, uA, uS, uZ])
     refine tk 8 (v := ?qvu621) ?qyu621 ?qru621; case qyu621 => ((intro w hSw; (try dsimp only at hSw); go_simp); try (with_reducible rfl))
     (try simp only [tA, tS, tZ, Act.put, uA, uS, uZ])
     refine tk 9 (v := ?qvu622) ?qyu622 ?qru622; case qyu622 => ((intro w hSw; (try dsimp only at hSw); go_simp); try (with_reducible rfl))
     (try simp only [tA, tS, tZ, Act.put, uA, uS, uZ])
     refine tk 10 (v := ?qvu623) ?qyu623 ?qru623; case qyu623 => ((intro w hSw; (try dsimp only at hSw); go_simp); try (with_reducible rfl))
     (try simp only [tA, tS, tZ, Act.put, uA, uS, uZ])
     refine tk 11 (v := ?qvu624) ?qyu624 ?qru624; case qyu624 => ((intro w hSw; (try dsimp only at hSw); go_simp); try (with_reducible rfl))
     (try simp only [tA, tS, tZ, Act.put, uA, uS, uZ])
     refine tk 12 (v := ?qvu625) ?qyu625 ?qru625; case qyu625 => ((intro w hSw; (try dsimp only at hSw); go_simp); try (with_reducible rfl))
     (try simp only [tA, tS, tZ, Act.put, uA, uS, uZ])
     refine tk 13 (v := ?qvu626) ?qyu626 ?qru626; case qyu626 => ((intro w hSw; (try dsimp only at hSw); go_simp); try (with_reducible rfl))
     (try simp only [tA, tS, tZ, Act.put, uA, uS, uZ])
     refine tk 14 (v := ?qvu627) ?qyu627 ?qru627; case qyu627 => ((intro w hSw; (try dsimp only at hSw); go_simp); try (with_reducible rfl))
     (try simp only [tA, tS, tZ, Act.put, uA, uS, uZ])
     refine wpAnyH_ready (rs := [15]) (by kernel_rfl) (by simp) ?_
     refine AllReadyH.cons rfl (fun K hK => ?_) AllReadyH.nil
     go_simp
     refine hK.out _ _ ⟨D51.out, D52.out⟩ (fun hHeld => ?_)
     clear hK K
     (try simp only [tA, tS, tZ, Act.put, uA, uS, uZ])
     refine wpAnyH_done (by kernel_rfl) ?_ _
     go_wp2
     go_ret2
     exact ⟨rfl, FIN.out _ (((Keep.refl _ _).drew).drew)⟩
  ·have d5 : (id' != 0) = true := by simpa using hid
   have e1 : x.begE q level = 9 := by rw [E0.out, if_pos hid]
   have e2 : x.begN q level = 0 := by unfold MoI.begN; rw [e1]; rfl
   have e3 : x.beg q level = x := by unfold MoI.beg; rw [e1]; rfl
   rw [e1, e2, e3]
   unfold DidB
   clear e1 e2 e3
   go_enter Try.func35, Try.ntmps35
   go_wp2
   go_ret2
   exact ⟨rfl, HS.out⟩
end
end Go.Proofs.Ytkkjofefjepodaa
/- The document's own Model, fourteenth part: Status. No condition. -/
namespace Go.Proofs.Ytkkjofefjepodaa
open Go.ChangeShapes Go.WideShapes Go.ChangeAt Go.RowKit
set_option linter.unusedVariables false
set_option linter.unusedSimpArgs false

section
variable {w w' W : World} {m : Nat} {vv vv' : Value} {sw sr sw' sr' : Nat → Value} {x y : MoI} {T : Nat → Prop}
set_option maxRecDepth 100000 in
set_option maxHeartbeats 2000000 in
theorem rstatus_any (h : RmAt w m vv sw sr x) (s : Int) : Calls Try.prog 41 #[.pointer (some ⟨m, 0, none⟩), .int .i64 s] w fun e w' => e = .returned (x.statV s) ∧ Keep (fun _ => False) w w' := by
 obtain ⟨W, eW, rb, kW⟩ := st_box w
 obtain ⟨N, eN⟩ : ∃ N, w.heap.size = N := ⟨_, rfl⟩
 have H := Lib.hid (h.same kW)
 rw [eN] at rb
 have ES := Lib.hid eN
 have KW := Lib.hid kW
 have FIN := Lib.hid (fun (wz : World) (k : Keep (fun j => j = N) W wz) => (show Keep (fun _ => False) w wz from kW.older k (fun j e => by rw [e]; exact Nat.le_of_eq eN)))
 have RB := Lib.hid rb
 obtain ⟨r0, r1, r2, r3, r4, r5, r6, r7, r8, rfz⟩ := rb
 clear h kW
 by_cases h1 : s < 0
 ·have d1 : decide (s < 0) = true := decide_eq_true h1
  have e1 : x.statV s = stV false 0 0 0 0 0 := if_pos (.inl h1)
  rw [e1]
  clear e1
  go_enter Try.func41, Try.ntmps41
  go_wp2
  (obtain ⟨W7, eW7⟩ : ∃ W7, (((((((((W.setCell ⟨N, 0, none⟩ (.bool false)).setCell ⟨N, 1, none⟩ (.bool false)).setCell ⟨N, 2, none⟩ (.bool false)).setCell ⟨N, 3, none⟩ (.int .i64 (0))).setCell ⟨N, 4, none⟩ (.int .i64 (0))).setCell ⟨N, 5, none⟩ (.int .i64 (0))).setCell ⟨N, 6, none⟩ (.int .u64 (0))).setCell ⟨N, 7, none⟩ (.int .u64 0)).setCell ⟨N, 8, none⟩ (.int .i64 (0))) = W7 := ⟨_, rfl⟩; obtain ⟨⟨v0, v1, v2, v3, v4, v5, v6, v7, v8, _⟩, k7⟩ := st_set RB.out _ _ _ _ _ _ _ _ _ eW7; rw [eW7]; refine bodyPost_ret (v := stV false (0) (0) (0) (0) (0)) (by simp [stV, results, Try.results41, go_sem, v0, v1, v2, v3, v4, v5, v6, v7, v8]) rfl ⟨rfl, ?_⟩)
  exact FIN.out _ k7
 ·have d1 : decide (s < 0) = false := decide_eq_false h1
  by_cases h2 : 7 < s
  ·have d2 : decide (7 < s) = true := decide_eq_true h2
   have e1 : x.statV s = stV false 0 0 0 0 0 := if_pos (.inr h2)
   rw [e1]
   clear e1
   go_enter Try.func41, Try.ntmps41
   go_wp2
   (obtain ⟨W7, eW7⟩ : ∃ W7, (((((((((W.setCell ⟨N, 0, none⟩ (.bool false)).setCell ⟨N, 1, none⟩ (.bool false)).setCell ⟨N, 2, none⟩ (.bool false)).setCell ⟨N, 3, none⟩ (.int .i64 (0))).setCell ⟨N, 4, none⟩ (.int .i64 (0))).setCell ⟨N, 5, none⟩ (.int .i64 (0))).setCell ⟨N, 6, none⟩ (.int .u64 (0))).setCell ⟨N, 7, none⟩ (.int .u64 0)).setCell ⟨N, 8, none⟩ (.int .i64 (0))) = W7 := ⟨_, rfl⟩; obtain ⟨⟨v0, v1, v2, v3, v4, v5, v6, v7, v8, _⟩, k7⟩ := st_set RB.out _ _ _ _ _ _ _ _ _ eW7; rw [eW7]; refine bodyPost_ret (v := stV false (0) (0) (0) (0) (0)) (by simp [stV, results, Try.results41, go_sem, v0, v1, v2, v3, v4, v5, v6, v7, v8]) rfl ⟨rfl, ?_⟩)
   exact FIN.out _ k7
  ·have d2 : decide (7 < s) = false := decide_eq_false h2
   obtain ⟨q, rfl⟩ : ∃ q : Nat, s = (q : Int) := ⟨s.toNat, by omega⟩
   have hq : q < 8 := by omega
   have hq2 : (q : Int) < 8 := by omega
   have g1 : ¬ (q : Int) < 0 := by omega
   have g2 : ¬ (7 : Int) < (q : Int) := by omega
   have s0 := H.out.s0 q hq
   obtain ⟨t, et⟩ : ∃ t, x.s q = t := ⟨_, rfl⟩
   rw [et] at s0
   by_cases hid : t.id = 0
   ·have e1 : x.statV q = stV false 0 0 0 0 0 := by unfold MoI.statV; rw [if_neg (by omega), Int.toNat_natCast, et, if_pos hid]
    rw [e1]
    rw [hid] at s0
    clear e1 et hid
    go_enter Try.func41, Try.ntmps41
    go_wp2
    (obtain ⟨W7, eW7⟩ : ∃ W7, (((((((((W.setCell ⟨N, 0, none⟩ (.bool false)).setCell ⟨N, 1, none⟩ (.bool false)).setCell ⟨N, 2, none⟩ (.bool false)).setCell ⟨N, 3, none⟩ (.int .i64 (0))).setCell ⟨N, 4, none⟩ (.int .i64 (0))).setCell ⟨N, 5, none⟩ (.int .i64 (0))).setCell ⟨N, 6, none⟩ (.int .u64 (0))).setCell ⟨N, 7, none⟩ (.int .u64 0)).setCell ⟨N, 8, none⟩ (.int .i64 (0))) = W7 := ⟨_, rfl⟩; obtain ⟨⟨v0, v1, v2, v3, v4, v5, v6, v7, v8, _⟩, k7⟩ := st_set RB.out _ _ _ _ _ _ _ _ _ eW7; rw [eW7]; refine bodyPost_ret (v := stV false (0) (0) (0) (0) (0)) (by simp [stV, results, Try.results41, go_sem, v0, v1, v2, v3, v4, v5, v6, v7, v8]) rfl ⟨rfl, ?_⟩)
    exact FIN.out _ k7
   ·have d3 : (t.id == 0) = false := by simpa using hid
    have e1 : x.statV q = stV true t.id t.level 1 t.start t.ops := by unfold MoI.statV; rw [if_neg (by omega), Int.toNat_natCast, et, if_neg hid]
    rw [e1]
    have s1 := H.out.s1 q hq
    have s2 := H.out.s2 q hq
    have s3 := H.out.s3 q hq
    have s4 := H.out.s4 q hq
    have s5 := H.out.s5 q hq
    rw [et] at s1 s2 s3
    obtain ⟨A4, c4, e4⟩ := own_n _ _ _ (H.out.ow q hq)
    obtain ⟨A5, c5, e5⟩ := own_r _ _ _ (H.out.or' q hq)
    rw [e4] at s4
    rw [e5] at s5
    obtain ⟨n4, en4⟩ : ∃ n, (x.s q).wrote.length = n := ⟨_, rfl⟩
    obtain ⟨n5, en5⟩ : ∃ n, (x.s q).reads.length = n := ⟨_, rfl⟩
    rw [en4] at s4
    rw [en5] at s5
    obtain ⟨W2, eW2, tb, k2⟩ := tx_box W t (.slice A4 n4 c4) (.slice A5 n5 c5)
    obtain ⟨M, eM⟩ : ∃ M, W.heap.size = M := ⟨_, rfl⟩
    rw [eM] at tb
    obtain ⟨b0, b1, b2, b3, b4, b5⟩ := tb
    have RB2 := RB.out.keep k2 id
    have RB := Lib.hid RB2
    obtain ⟨r0, r1, r2, r3, r4, r5, r6, r7, r8, rfz⟩ := RB2
    have K2 := Lib.hid k2
    clear e1 et hid e4 e5 en4 en5 k2
    go_enter Try.func41, Try.ntmps41
    go_wp2
    (obtain ⟨W7, eW7⟩ : ∃ W7, (((((((((W2.setCell ⟨N, 0, none⟩ (.bool true)).setCell ⟨N, 1, none⟩ (.bool false)).setCell ⟨N, 2, none⟩ (.bool false)).setCell ⟨N, 3, none⟩ (.int .i64 (t.id))).setCell ⟨N, 4, none⟩ (.int .i64 (t.level))).setCell ⟨N, 5, none⟩ (.int .i64 (1))).setCell ⟨N, 6, none⟩ (.int .u64 (t.start))).setCell ⟨N, 7, none⟩ (.int .u64 0)).setCell ⟨N, 8, none⟩ (.int .i64 (t.ops))) = W7 := ⟨_, rfl⟩; obtain ⟨⟨v0, v1, v2, v3, v4, v5, v6, v7, v8, _⟩, k7⟩ := st_set RB.out _ _ _ _ _ _ _ _ _ eW7; rw [eW7]; refine bodyPost_ret (v := stV true (t.id) (t.level) (1) (t.start) (t.ops)) (by simp [stV, results, Try.results41, go_sem, v0, v1, v2, v3, v4, v5, v6, v7, v8]) rfl ⟨rfl, ?_⟩)
    exact FIN.out _ ((K2.out.mono (fun _ e => e.elim)).trans k7)
end
end Go.Proofs.Ytkkjofefjepodaa
/- The document's own Model, its laws' face: each call over what a Model always keeps (Good), answers in plain lists. No further condition. -/
namespace Go.Proofs.Ytkkjofefjepodaa
open Go.ChangeShapes Go.WideShapes Go.ChangeAt Go.RowKit
set_option linter.unusedVariables false
section
variable {W w w' : World} {m : Nat} {vv : Value} {sw sr : Nat → Value} {x y : MoI} {S S' T : Nat → Prop}
theorem Good.few (h : Good x) : Few x := by
 have hc := h.conf
 have hl := h.len
 refine ⟨by omega, fun i hi => ?_, fun i hi => ⟨?_, fun r hr => ?_⟩, ⟨h.time.1, h.time.2, hc.2.2.2⟩⟩
 ·have := (h.ses i hi).wr
  have := (h.ses i hi).ops
  omega
 ·have := (h.ses i hi).rd
  have := (h.ses i hi).ops
  omega
 ·have := (h.ses i hi).rb r hr
  omega
/-- What Do answers, whatever the call. -/
def DidX (w : World) (m : Nat) (vv : Value) (sw sr : Nat → Value) (r : ReI) (e0 : Int) (y : MoI) (e : Ending) (w' : World) : Prop :=
 ∃ u, e = .returned (.tuple #[reV r u, .int .i64 e0]) ∧ OwnPr w' u r.pairs ∧ (∀ g, u.ownBlock = some g → w.heap.size ≤ g) ∧ RmTo w m vv sw sr y w'
theorem didD {r : ReI} {e0 : Int} (hp : r.pairs = []) {e : Ending} (h : DidD w m vv sw sr r e0 y e w') : DidX w m vv sw sr r e0 y e w' :=
 ⟨_, h.1, by rw [hp]; exact OwnM.nil, (fun g hg => by cases hg), h.2⟩
theorem write_pairs (x : MoI) (s : Nat) (o : OpI) : (x.write s o).1.pairs = [] := by
 unfold MoI.write
 simp only
 split
 ·rfl
 ·split
  ·rfl
  ·split <;> rfl
theorem commit_pairs (x : MoI) (s : Nat) : (x.commit s).1.pairs = [] := by
 unfold MoI.commit
 split
 ·rfl
 ·simp only
  split <;> rfl
theorem okI_le {o : OpI} (h : okI o = true) : 1 ≤ o.kind ∧ o.kind ≤ 7 := by
 unfold okI at h
 repeat' split at h
 all_goals first | omega | cases h
def gotR (x : MoI) (a : Option Nat) : ReI := match a with | some i => ⟨0, valI x.v i, [], 0, 0⟩ | none => ⟨11, 0, [], 0, 0⟩
theorem count_get (x : MoI) (n : Nat) (o : OpI) : (x.count n).get n o = (gotR x (seesI x.v (x.s n).id (x.s n).start o.key), if o.key ∈ (x.s n).wrote then x.count n else (x.count n).keepR n ⟨o.key, o.key, decide (seesI x.v (x.s n).id (x.s n).start o.key ≠ none), false⟩) := by
 have c1 := count_at x n
 unfold MoI.get gotR
 rw [c1]
 rfl
theorem rdo_any (h : RmAt w m vv sw sr x) (g : Good x) (s : Int) (o : OpI) :
  Calls Try.prog 37 #[.pointer (some ⟨m, 0, none⟩), .int .i64 s, opV o] w (DidX w m vv sw sr (x.doR s o) (x.doE s o) (x.doM s o)) := by
 have f := g.few
 by_cases hb : s < 0 ∨ 7 < s
 ·have e : x.doE s o = 1 := by unfold MoI.doE; rw [if_pos hb]
  have e1 : x.doR s o = re0 := by unfold MoI.doR; rw [e]; rfl
  have e2 : x.doM s o = x := by unfold MoI.doM; rw [e]; rfl
  rw [e, e1, e2]
  exact (rdo_arg h s hb o).mono fun e w' => didD rfl
 ·obtain ⟨n, rfl⟩ : ∃ n : Nat, s = (n : Int) := ⟨s.toNat, by omega⟩
  have n8 : n < 8 := by omega
  by_cases hbad : (x.s n).id = 0 ∨ okI o = false
  ·have e : x.doE n o = 9 := by unfold MoI.doE; rw [if_neg hb]; exact if_pos hbad
   have e1 : x.doR n o = re0 := by unfold MoI.doR; rw [e]; rfl
   have e2 : x.doM n o = x := by unfold MoI.doM; rw [e]; rfl
   rw [e, e1, e2]
   exact (rdo_bad h n n8 o hbad).mono fun e w' => didD rfl
  ·have hid : (x.s n).id ≠ 0 := fun c => hbad (.inl c)
   have hok : okI o = true := by
    cases c : okI o with
    | true => rfl
    | false => exact absurd (.inr c) hbad
   by_cases k67 : o.kind = 7 ∨ o.kind = 6
   ·have e : x.doE n o = 0 := by unfold MoI.doE; rw [if_neg hb]; exact (if_neg hbad).trans (if_pos k67)
    have e1 : x.doR n o = (x.run n o).1 := by unfold MoI.doR; rw [e]; rfl
    have e2 : x.doM n o = (x.run n o).2 := by unfold MoI.doM; rw [e]; rfl
    rw [e, e1, e2]
    rcases k67 with k | k
    ·have r : x.run n o = (⟨0, 0, [], 4, 1⟩, x.over n) := by unfold MoI.run; rw [if_pos k]
     rw [r]
     exact (rdo_over h f n n8 o hid hok k).mono fun e w' => didD rfl
    ·have r : x.run n o = x.commit n := by unfold MoI.run; rw [if_neg (by omega), if_pos k]
     rw [r]
     exact (rdo_commit h f n n8 o hid hok k).mono fun e w' => didD (commit_pairs x n)
   ·by_cases hm : 12 ≤ (x.s n).ops
    ·have e : x.doE n o = 65 := by unfold MoI.doE; rw [if_neg hb]; exact (if_neg hbad).trans ((if_neg k67).trans (if_pos hm))
     have e1 : x.doR n o = re0 := by unfold MoI.doR; rw [e]; rfl
     have e2 : x.doM n o = x := by unfold MoI.doM; rw [e]; rfl
     rw [e, e1, e2]
     exact (rdo_many h n n8 o hid hok (fun c => k67 (.inl c)) (fun c => k67 (.inr c)) hm).mono fun e w' => didD rfl
    ·have e : x.doE n o = 0 := by unfold MoI.doE; rw [if_neg hb]; exact (if_neg hbad).trans ((if_neg k67).trans (if_neg hm))
     have e1 : x.doR n o = (x.run n o).1 := by unfold MoI.doR; rw [e]; rfl
     have e2 : x.doM n o = (x.run n o).2 := by unfold MoI.doM; rw [e]; rfl
     have ho := (g.ses n n8).ops.1
     have c1 := count_at x n
     rw [e, e1, e2]
     by_cases k1 : o.kind = 1
     ·have r : x.run n o = (x.count n).get n o := by unfold MoI.run; rw [if_neg (by omega), if_neg (by omega), if_pos k1]
      rw [r, count_get]
      cases hat : seesI x.v (x.s n).id (x.s n).start o.key with
      | none => exact (rdo_get h f n n8 o hid hok k1 ho hm none hat _ rfl).mono fun e w' => didD rfl
      | some i => exact (rdo_get h f n n8 o hid hok k1 ho hm (some i) hat _ rfl).mono fun e w' => didD rfl
     ·by_cases k5 : o.kind = 5
      ·have r : x.run n o = (x.count n).scan n o := by unfold MoI.run; rw [if_neg (by omega), if_neg (by omega), if_neg k1, if_pos k5]
       have G : (x.count n).scan n o = (⟨0, 0, scanI x.v (x.s n).id (x.s n).start o.key o.hi, 0, 0⟩, (x.count n).keepR n ⟨o.key, o.hi, false, true⟩) := by
        unfold MoI.scan
        rw [c1]
        rfl
       rw [r, G]
       refine (rdo_scan h f n n8 o hid hok k5 ho hm).mono ?_
       rintro e w' ⟨u, rfl, o1, g1, t1⟩
       exact ⟨u, rfl, o1, g1, t1⟩
      ·have r : x.run n o = (x.count n).write n o := by unfold MoI.run; rw [if_neg (by omega), if_neg (by omega), if_neg k1, if_neg k5]
       have hkk : o.kind ≤ 5 := by have := okI_le hok; omega
       have h1 := (okI_key hok hkk).1
       have hk : o.kind = 2 ∨ o.kind = 3 ∨ o.kind = 4 := by omega
       have gc := good_count g n8 hid (by omega)
       have hidc : ((x.count n).s n).id ≠ 0 := by rw [c1]; exact hid
       rw [r]
       refine (rdo_write h n n8 o hid hok hk ho hm _ _ fun w1 h1 => rwrite_any h1 gc.few n n8 o hk (fun hm => gc.own_none n8 hidc hm) (fun i hm hs => gc.own_seen n8 hidc hm hs)).mono fun e w' => didD (write_pairs _ _ _)
theorem keysI_len (lo : Int) : ∀ n, (keysI lo n).length = n := fun n => by
 induction n generalizing lo with
 | zero => rfl
 | succ n ih => show (keysI (lo + 1) n).length + 1 = n + 1; rw [ih]
theorem flat_one {α β : Type} (f : α → List β) (h : ∀ a, (f a).length ≤ 1) (l : List α) : (l.flatMap f).length ≤ l.length := by
 induction l with
 | nil => exact Nat.le_refl _
 | cons a l ih => rw [List.flatMap_cons, List.length_append, List.length_cons]; have := h a; omega
/-- An answer has 64 Pairs at most. -/
theorem doR_len (x : MoI) (s : Int) (o : OpI) : (x.doR s o).pairs.length ≤ 64 := by
 unfold MoI.doR
 by_cases he : x.doE s o = 0
 ·rw [if_pos he]
  obtain ⟨_, _, _, hok, _⟩ := doE_zero he
  obtain ⟨n, hn⟩ : ∃ n, s.toNat = n := ⟨_, rfl⟩
  rw [hn]
  unfold MoI.run
  split
  ·exact Nat.zero_le _
  ·split
   ·rw [commit_pairs]; exact Nat.zero_le _
   ·split
    ·rw [count_get]; unfold gotR; simp only; split <;> exact Nat.zero_le _
    ·split
     ·next k5 =>
      obtain ⟨_, h0, h1, h2, _⟩ := okI_key hok (by omega)
      have := h2 k5
      show (scanI _ _ _ o.key o.hi).length ≤ 64
      unfold scanI
      refine Nat.le_trans (flat_one _ (fun k => ?_) _) (by rw [keysI_len]; omega)
      unfold pairI
      split
      ·exact Nat.le_refl _
      ·exact Nat.zero_le _
     ·rw [write_pairs]; exact Nat.zero_le _
 ·rw [if_neg he]; exact Nat.zero_le _
/-- Since W the document's own Model m stands, in new blocks S; it is x; nothing of W has turned. -/
structure Rm (W w : World) (m : Nat) (S : Nat → Prop) (x : MoI) : Prop where
 gd : Good x
 g : ∀ k, S k → W.heap.size ≤ k
 lt : ∀ k, S k → k < w.heap.size
 b : Below W.heap.size W w
 o : ∃ vv sw sr, RmAt w m vv sw sr x ∧ ∀ k, S k ↔ FootR m vv sw sr k
theorem Rm.own (h : Rm W w m S x) {X : Nat → Prop} (kk : Keep X w w') (hX : ∀ g, X g → ¬ S g ∧ W.heap.size ≤ g) : Rm W w' m S x := by
 obtain ⟨vv, sw, sr, h1, h2⟩ := h.o
 exact ⟨h.gd, h.g, fun x hx => Nat.lt_of_lt_of_le (h.lt x hx) kk.size, h.b.trans (kk.below h.b.size (fun g hg => (hX g hg).2)), vv, sw, sr, h1.keep kk (fun g hg y => (hX g y).1 ((h2 g).2 hg)), h2⟩
theorem Rm.quiet (h : Rm W w m S x) (kk : Keep (fun _ => False) w w') : Rm W w' m S x := h.own kk (fun g hg => hg.elim)
theorem Rm.went (h : Rm W w m S x) {vv : Value} {sw sr : Nat → Value} (h2 : ∀ k, S k ↔ FootR m vv sw sr k) (gy : Good y) (hw : RmTo w m vv sw sr y w') : ∃ S', Rm W w' m S' y ∧ VKeep S S' w w' := by
 obtain ⟨vv', sw', sr', a1, a2, a3⟩ := hw
 have k4 : Keep S w w' := a2.mono (fun k hk => (h2 k).2 hk)
 have sz := h.b.size
 refine ⟨FootR m vv' sw' sr', ⟨gy, fun k hk => ?_, a1.lt, h.b.trans (k4.below sz h.g), vv', sw', sr', a1, fun k => Iff.rfl⟩, k4, fun k hk => ?_⟩
 ·rcases a3 k hk with a | a
  ·exact h.g k ((h2 k).2 a)
  ·omega
 ·rcases a3 k hk with a | a
  ·exact .inl ((h2 k).2 a)
  ·exact .inr a
def RmPost (W w : World) (m : Nat) (S : Nat → Prop) (v : Value) (y : MoI) (e : Ending) (w' : World) : Prop := e = .returned v ∧ ∃ S', Rm W w' m S' y ∧ VKeep S S' w w'
def RmTold (W w : World) (m : Nat) (S : Nat → Prop) (v : Value → Value) (P : World → Value → Prop) (y : MoI) (e : Ending) (w' : World) : Prop :=
 ∃ u S', e = .returned (v u) ∧ P w' u ∧ (∀ g, u.ownBlock = some g → w.heap.size ≤ g) ∧ Rm W w' m S' y ∧ VKeep S S' w w'
theorem rm_new (w : World) (slots limit : Int) (h : confI slots limit = true) : Calls Try.prog 34 #[cfV slots limit] w fun e w' => ∃ m S, e = .returned (.pointer (some ⟨m, 0, none⟩)) ∧ Rm w w' m S (new0 slots limit) := by
 refine (rnew_yes slots limit h w).mono ?_
 rintro e w' ⟨m, rfl, hm, h1, k⟩
 refine ⟨m, FootR m (.slice none 0 0) (fun _ => .slice none 0 0) (fun _ => .slice none 0 0), rfl, good_new h, fun g hg => ?_, h1.lt, k.below (Nat.le_refl _) (fun _ e => e.elim), _, _, _, h1, fun _ => Iff.rfl⟩
 rcases hg with rfl | hg | ⟨i, _, hg | hg⟩
 ·exact hm
 ·cases hg
 ·cases hg
 ·cases hg
theorem rm_none (w : World) (slots limit : Int) (h : confI slots limit = false) : Calls Try.prog 34 #[cfV slots limit] w fun e w' => e = .returned (.pointer none) ∧ Keep (fun _ => False) w w' := rnew_no slots limit h w
theorem rm_begin (h : Rm W w m S x) (s level : Int) (n e0 : Int) (y : MoI) (hn : x.begN s level = n) (he : x.begE s level = e0) (hy : x.beg s level = y) :
  Calls Try.prog 35 #[.pointer (some ⟨m, 0, none⟩), .int .i64 s, .int .i64 level] w (RmPost W w m S (.tuple #[.int .i64 n, .int .i64 e0]) y) := by
 obtain ⟨vv, sw, sr, h1, h2⟩ := h.o
 subst hn he hy
 refine (rbegin_any h1 h.gd.few h.gd.made s level).mono ?_
 rintro e w' ⟨rfl, hw⟩
 exact ⟨rfl, h.went h2 (good_beg h.gd s level) hw⟩
theorem rm_do (h : Rm W w m S x) (s : Int) (o : OpI) (r : ReI) (e0 : Int) (y : MoI) (hr : x.doR s o = r) (he : x.doE s o = e0) (hy : x.doM s o = y) :
  Calls Try.prog 37 #[.pointer (some ⟨m, 0, none⟩), .int .i64 s, opV o] w (RmTold W w m S (fun u => .tuple #[reV r u, .int .i64 e0]) (fun w' u => OwnPr w' u r.pairs) y) := by
 obtain ⟨vv, sw, sr, h1, h2⟩ := h.o
 subst hr he hy
 refine (rdo_any h1 h.gd s o).mono ?_
 rintro e w' ⟨u, rfl, o1, g1, hw⟩
 obtain ⟨S', R, k⟩ := h.went h2 (good_do h.gd s o) hw
 exact ⟨u, S', rfl, o1, g1, R, k⟩
theorem rm_collect (h : Rm W w m S x) (n : Int) (y : MoI) (hn : x.collected = n) (hy : x.collect = y) :
  Calls Try.prog 36 #[.pointer (some ⟨m, 0, none⟩)] w (RmPost W w m S (.int .i64 n) y) := by
 obtain ⟨vv, sw, sr, h1, h2⟩ := h.o
 subst hy
 refine (rcollect_any h1 h.gd.few.v n hn).mono ?_
 rintro e w' ⟨rfl, hw⟩
 exact ⟨rfl, h.went h2 (good_collect h.gd) hw⟩
theorem Rm.told (h : Rm W w m S x) (k : Keep (fun _ => False) w w') : Rm W w' m S x ∧ VKeep S S w w' := ⟨h.quiet k, k.mono (fun _ e => e.elim), fun _ e => .inl e⟩
theorem rm_pairs (h : Rm W w m S x) (at' : Int) (l : List (Int × Int)) (hl : x.pairs at' = l) :
  Calls Try.prog 42 #[.pointer (some ⟨m, 0, none⟩), .int .u64 at'] w (RmTold W w m S id (fun w' u => OwnPr w' u l) x) := by
 obtain ⟨vv, sw, sr, h1, h2⟩ := h.o
 subst hl
 refine (rpairs_any h1 h.gd.few.v at').mono ?_
 rintro e w' ⟨u, rfl, o1, g1, k⟩
 exact ⟨u, S, rfl, o1, g1, h.told k⟩
theorem rm_pairs' (h : Rm W w m S x) (at' : Int) (l : List (Int × Int)) (hl : x.pairs at' = l) :
  Calls Try.prog 42 #[.pointer (some ⟨m, 0, none⟩), .int .u64 at'] w fun e w' => ∃ u, e = .returned u ∧ OwnPr w' u l ∧ Keep (fun _ => False) w w' := by
 obtain ⟨vv, sw, sr, h1, h2⟩ := h.o
 subst hl
 refine (rpairs_any h1 h.gd.few.v at').mono ?_
 rintro e w' ⟨u, rfl, o1, g1, k⟩
 exact ⟨u, rfl, o1, k⟩
theorem prs_le (h : Good x) (at' : Int) : (x.pairs at').length ≤ 100000 := by
 have := pairs_len x.v at' x.v.length (Nat.le_refl _) (keysI 0 64)
 rw [keysI_len] at this
 have hf := h.few.v
 have : (x.pairs at').length ≤ 64 * x.v.length := this
 have : 64 * x.v.length ≤ 64 * 1000 := Nat.mul_le_mul_left 64 hf
 omega
theorem live_le (x : MoI) : x.live.length ≤ 100000 := by
 unfold MoI.live
 rw [List.length_map]
 exact Nat.le_trans (List.length_filter_le _ _) (by simp)
theorem stat_form (x : MoI) (s : Int) : ∃ l a b c d f, x.statV s = .agg #[.bool l, .bool false, .bool false, .int .i64 a, .int .i64 b, .int .i64 c, .int .u64 d, .int .u64 0, .int .i64 f] := by
 unfold MoI.statV
 split
 ·exact ⟨_, _, _, _, _, _, rfl⟩
 ·split <;> exact ⟨_, _, _, _, _, _, rfl⟩
theorem st_neq (l : Bool) (a b c d f : Int) (w : World) : (binOp .neq 56 (.agg #[.bool l, .bool false, .bool false, .int .i64 a, .int .i64 b, .int .i64 c, .int .u64 d, .int .u64 0, .int .i64 f]) (.agg #[.bool l, .bool false, .bool false, .int .i64 a, .int .i64 b, .int .i64 c, .int .u64 d, .int .u64 0, .int .i64 f])).run Try.prog w = .ok (.bool false) w := by
 simp [go_sem]
theorem below_of {W1 : World} (k : Keep (fun _ => False) w W1) (b : Below W1.heap.size W1 w') : Below w.heap.size w w' :=
 (k.below (Nat.le_refl _) (fun _ e => e.elim)).trans (b.mono k.size)
theorem rm_live (h : Rm W w m S x) (l : List Int) (hl : x.live = l) :
  Calls Try.prog 40 #[.pointer (some ⟨m, 0, none⟩)] w fun e w' => ∃ u, e = .returned u ∧ OwnN w.heap.size w' u l ∧ Rm W w' m S x ∧ Keep (fun _ => False) w w' := by
 obtain ⟨vv, sw, sr, h1, h2⟩ := h.o
 subst hl
 refine (rlive_any h1).mono ?_
 rintro e w' ⟨u, rfl, o1, k⟩
 exact ⟨u, rfl, o1, h.quiet k, k⟩
theorem rm_status (h : Rm W w m S x) (s : Int) (v : Value) (hv : x.statV s = v) :
  Calls Try.prog 41 #[.pointer (some ⟨m, 0, none⟩), .int .i64 s] w fun e w' => e = .returned v ∧ Rm W w' m S x ∧ Keep (fun _ => False) w w' := by
 obtain ⟨vv, sw, sr, h1, h2⟩ := h.o
 subst hv
 refine (rstatus_any h1 s).mono ?_
 rintro e w' ⟨rfl, k⟩
 exact ⟨rfl, h.quiet k, k⟩
/-- What the statements read of it themselves: the clock, the versions' slice. -/
theorem Rm.time (h : Rm W w m S x) : w.cell? ⟨m, 51, none⟩ = some (.int .u64 x.time) := by
 obtain ⟨vv, sw, sr, h1, h2⟩ := h.o
 exact h1.c51
theorem Rm.vers (h : Rm W w m S x) : ∃ A c, w.cell? ⟨m, 2, none⟩ = some (.slice A x.v.length c) := by
 obtain ⟨vv, sw, sr, h1, h2⟩ := h.o
 have c := h1.c2
 rcases OwnM.form h1.ov with ⟨e, e2⟩ | ⟨g, cc, e, _⟩
 ·rw [e] at c; rw [e2]; exact ⟨_, _, c⟩
 ·rw [e] at c; exact ⟨_, _, c⟩
end
end Go.Proofs.Ytkkjofefjepodaa
/- A Model of package model beside the document's own (layer 19's statements ModelPlays, ModelBounds): what stays while one of the two is called. No further condition. -/
namespace Go.Proofs.Ytkkjofefjepodaa
open Go.ChangeShapes Go.WideShapes Go.ChangeAt Go.RowKit
set_option linter.unusedVariables false
section
variable {W W1 w w' : World} {m r N : Nat} {S S' T T' : Nat → Prop} {x x' y y' : MoI} {o : ActI}
structure Duo (W w : World) (m : Nat) (S : Nat → Prop) (r : Nat) (T : Nat → Prop) (x y : MoI) : Prop where
 md : Md W w m S x
 rm : Rm W w r T y
 ds : ∀ k, S k → ¬ T k
theorem Rm.root (h : Rm W w r T y) : T r := by
 obtain ⟨vv, sw, sr, h1, h2⟩ := h.o
 exact (h2 r).2 (.inl rfl)
theorem Duo.nr (h : Duo W w m S r T x y) : ¬ S r := fun e => h.ds r e h.rm.root
theorem Duo.stepM (h : Duo W w m S r T x y) (M : Md W w' m S' x') (k : VKeep S S' w w') : Duo W w' m S' r T x' y :=
 ⟨M, h.rm.own k.1 (fun g hg => ⟨h.ds g hg, h.md.g g hg⟩), fun g hg ht => by
  rcases k.2 g hg with c | c
  ·exact h.ds g c ht
  ·have := h.rm.lt g ht; omega⟩
theorem Duo.stepR (h : Duo W w m S r T x y) (R : Rm W w' r T' y') (k : VKeep T T' w w') : Duo W w' m S r T' x y' :=
 ⟨h.md.own k.1 (fun g hg => ⟨fun hs => h.ds g hs hg, h.rm.g g hg⟩), R, fun g hg ht => by
  rcases k.2 g ht with c | c
  ·exact h.ds g hg c
  ·have := h.md.lt g hg; omega⟩
theorem Duo.quiet (h : Duo W w m S r T x y) (k : Keep (fun _ => False) w w') : Duo W w' m S r T x y := ⟨h.md.quiet k, h.rm.quiet k, h.ds⟩
/-- A call of the script in a block of its own. -/
structure Bx7 (w : World) (N : Nat) (o : ActI) : Prop where
 c0 : w.cell? ⟨N, 0, none⟩ = some (.int .i64 o.kind)
 c1 : w.cell? ⟨N, 1, none⟩ = some (.int .i64 o.s)
 c2 : w.cell? ⟨N, 2, none⟩ = some (.int .i64 o.level)
 c3 : w.cell? ⟨N, 3, none⟩ = some (.int .i64 o.o.kind)
 c4 : w.cell? ⟨N, 4, none⟩ = some (.int .i64 o.o.key)
 c5 : w.cell? ⟨N, 5, none⟩ = some (.int .i64 o.o.hi)
 c6 : w.cell? ⟨N, 6, none⟩ = some (.int .i64 o.o.val)
/-- .. and a call of the script in a box. -/
structure Rnd (W w : World) (m : Nat) (S : Nat → Prop) (r : Nat) (T : Nat → Prop) (x y : MoI) (N : Nat) (o : ActI) : Prop where
 d : Duo W w m S r T x y
 bx : Bx7 w N o
 z : N < w.heap.size
 n1 : ¬ S N
 n2 : ¬ T N
theorem ActAt.keep {b i : Nat} (h : ActAt w b i o) (k : Keep S w w') (hn : ¬ S b) : ActAt w' b i o := ⟨k.cell h.c0 hn, k.cell h.c1 hn, k.cell h.c2 hn, k.cell h.c3 hn, k.cell h.c4 hn, k.cell h.c5 hn, k.cell h.c6 hn⟩
theorem Bx7.keep (h : Bx7 w N o) (k : Keep S w w') (hn : ¬ S N) : Bx7 w' N o := ⟨k.cell h.c0 hn, k.cell h.c1 hn, k.cell h.c2 hn, k.cell h.c3 hn, k.cell h.c4 hn, k.cell h.c5 hn, k.cell h.c6 hn⟩
theorem Rnd.stepM (h : Rnd W w m S r T x y N o) (M : Md W w' m S' x') (k : VKeep S S' w w') : Rnd W w' m S' r T x' y N o :=
 ⟨h.d.stepM M k, h.bx.keep k.1 h.n1, Nat.lt_of_lt_of_le h.z k.1.size, fun e => by rcases k.2 N e with c | c; exact h.n1 c; have := h.z; omega, h.n2⟩
theorem Rnd.stepR (h : Rnd W w m S r T x y N o) (R : Rm W w' r T' y') (k : VKeep T T' w w') : Rnd W w' m S r T' x y' N o :=
 ⟨h.d.stepR R k, h.bx.keep k.1 h.n2, Nat.lt_of_lt_of_le h.z k.1.size, h.n1, fun e => by rcases k.2 N e with c | c; exact h.n2 c; have := h.z; omega⟩
theorem Rnd.quiet (h : Rnd W w m S r T x y N o) (k : Keep (fun _ => False) w w') : Rnd W w' m S r T x y N o := ⟨h.d.quiet k, h.bx.keep k id, Nat.lt_of_lt_of_le h.z k.size, h.n1, h.n2⟩
theorem Duo.box (h : Duo W w m S r T x y) (o : ActI) : Rnd W (w.alloc (.cells #[.int .i64 o.kind, .int .i64 o.s, .int .i64 o.level, .int .i64 o.o.kind, .int .i64 o.o.key, .int .i64 o.o.hi, .int .i64 o.o.val] 62)) m S r T x y w.heap.size o :=
 ⟨h.quiet ((Keep.refl _ _).alloc _), ⟨by simp, by simp, by simp, by simp, by simp, by simp, by simp⟩, by rw [World.size_alloc]; omega, fun e => absurd (h.md.lt _ e) (Nat.lt_irrefl _), fun e => absurd (h.rm.lt _ e) (Nat.lt_irrefl _)⟩
theorem Rm.base (h : Rm W1 w r T y) (b : Below W.heap.size W W1) : Rm W w r T y :=
 ⟨h.gd, fun k hk => Nat.le_trans b.size (h.g k hk), h.lt, b.trans (h.b.mono b.size), h.o⟩
/-- Both made, one behind the other. -/
theorem Duo.made (M : Md W W1 m S x) (R : Rm W1 w r T y) : Duo W w m S r T x y :=
 ⟨M.quiet (Keep.of_below R.b _), R.base M.b, fun k hk ht => by have := M.lt k hk; have := R.g k ht; omega⟩
/-- A result in a box, its slice with it. -/
structure Res5 (w : World) (N : Nat) (A : Option Addr) (q c : Nat) (v : ReI) : Prop where
 a : w.cell? ⟨N, 0, none⟩ = some (.int .i64 v.e)
 b : w.cell? ⟨N, 1, none⟩ = some (.int .i64 v.val)
 s : w.cell? ⟨N, 2, none⟩ = some (.slice A q c)
 c : w.cell? ⟨N, 3, none⟩ = some (.int .i64 v.over)
 d : w.cell? ⟨N, 4, none⟩ = some (.int .i64 v.reason)
theorem res5 {A : Option Addr} {q c : Nat} {v : ReI} (hl : ∀ k, T k → k < w.heap.size) (k : Keep T (w.alloc (.cells #[.int .i64 v.e, .int .i64 v.val, .slice A q c, .int .i64 v.over, .int .i64 v.reason] 30)) w') : Res5 w' w.heap.size A q c v := by
 have nS : ¬ T w.heap.size := fun e => absurd (hl _ e) (Nat.lt_irrefl _)
 exact ⟨k.cell (by simp) nS, k.cell (by simp) nS, k.cell (by simp) nS, k.cell (by simp) nS, k.cell (by simp) nS⟩
theorem conf_any (a : Int) (b : Int) (m0 q : Int) (h0 : a % 256 % 40 = m0) (h1 : bits .and .u64 b 255 = q) (h2 : 0 ≤ q ∧ q ≤ 255) (w : World) :
  Calls Try.prog 33 #[.int .i64 a, .int .u64 b] w fun e w' => e = .returned (cfV (m0 + 1) (q + 20)) ∧ Keep (fun _ => False) w w' := by
 obtain ⟨q0, e0, e1, e2, l0, l1, p0, p1, w00, w01⟩ := levN a 40 m0 (by decide) (by decide) h0
 unfold cfV
 clear h0
 go_enter Try.func33, Try.ntmps33
 go_wp2
 first | go_ret | refine bodyPost_ret (v := .agg #[.int .i64 (m0 + 1), .int .u64 (q + 20)]) (by simp [results, Try.results33, go_sem]) rfl ?_
 exact ⟨rfl, by repeat (first | exact Keep.refl _ _ | refine Keep.alloc ?_ _)⟩
end
end Go.Proofs.Ytkkjofefjepodaa
/- ModelPlays: its pieces of code and what they leave. Conditions: what the parts before it have laid. -/
namespace Go.Proofs.Ytkkjofefjepodaa.modelPlays
open Go.ChangeShapes Go.WideShapes Go.ChangeAt Go.RowKit
set_option linter.unusedVariables false
set_option linter.unusedSimpArgs false
theorem mask_u8 (n : Int) (h0 : 0 ≤ n) (h1 : n ≤ 18446744073709551615) : bits .and .u64 n 255 = n % 256 := by
 rw [u64_and n 255 h0 (by omega) (by decide) (by decide)]
 show ((n.toNat &&& 255 : Nat) : Int) = _
 rw [show n.toNat &&& 255 = n.toNat % 256 from Nat.and_two_pow_sub_one_eq_mod n.toNat 8]; omega
def Din (W : World) (m r : Nat) (wx : World) : Prop := ∃ (S T : Nat → Prop) (y : MoI), Duo W wx m S r T y y
def Mid (W : World) (m r N : Nat) (o : ActI) (wx : World) : Prop := ∃ (S T : Nat → Prop) (y : MoI), Rnd W wx m S r T y y N o
noncomputable def cB : Code := (Try.f13.body.bind (blockIn 2)).getD .skip
noncomputable def cR : Code := (Try.f13.body.bind (regIn 23)).getD .skip
set_option maxRecDepth 1000000 in
def PMB (W : World) (m r N : Nat) (o : ActI) (s0 s1 s2 s3 s4 s5 s7 s9 s11 s21 s22 s23 s24 s25 s26 s27 s28 s29 s30 s31 s32 s33 s34 s35 s36 s37 s38 s39 s40 s41 s42 s43 s44 s45 s46 s47 s48 s49 s50 s51 s52 s53 s54 s55 s56 s57 s58 s59 s123 s124 s125 s126 s127 s128 s129 s130 s131 s132 s133 s134 s135 s136 s137 s138 s139 s140 s141 s142 s143 s144 s145 s146 s147 s148 s149 s150 s151 s152 s153 s154 s155 s156 s157 s158 s159 s160 s161 s162 s163 s164 s165 s166 s167 s168 s169 s170 s171 s172 s173 s174 s175 s176 s177 s178 s179 s180 s181 s182 s183 s184 s185 s186 s187 s188 s189 s190 s191 s192 s193 s194 : Value) (a' : Act) (w' : World) : Prop :=
 ∃ u6 u13 u14 u15 u16 u17 u18 u19 u20 u61 u62 u63 u64 u65 u66 u67 u68 u69 u70 u71 u72 u73 u74 u75 u76 u77 u78 u79 u80 u81 u82 u83 u84 u85 u86 u87 u88 u89 u90 u91 u92 u93 u94 u95 u96 u97 u98 u99 u100 u101 u102 u103 u104 u105 u106 u107 u108 u109 u110 u111 u112 u113 u114 u115 u116 u117 u118 u119 u120 u121 u122 : Value, Mid W m r N o w' ∧ a' = ⟨#[s0, s1, s2, s3, s4, s5, u6, s7, .pointer (some ⟨m, 0, none⟩), s9, .pointer (some ⟨r, 0, none⟩), s11, .pointer (some ⟨N, 0, none⟩), u13, u14, u15, u16, u17, u18, u19, u20, s21, s22, s23, s24, s25, s26, s27, s28, s29, s30, s31, s32, s33, s34, s35, s36, s37, s38, s39, s40, s41, s42, s43, s44, s45, s46, s47, s48, s49, s50, s51, s52, s53, s54, s55, s56, s57, s58, s59, .int .i64 o.kind, u61, u62, u63, u64, u65, u66, u67, u68, u69, u70, u71, u72, u73, u74, u75, u76, u77, u78, u79, u80, u81, u82, u83, u84, u85, u86, u87, u88, u89, u90, u91, u92, u93, u94, u95, u96, u97, u98, u99, u100, u101, u102, u103, u104, u105, u106, u107, u108, u109, u110, u111, u112, u113, u114, u115, u116, u117, u118, u119, u120, u121, u122, s123, s124, s125, s126, s127, s128, s129, s130, s131, s132, s133, s134, s135, s136, s137, s138, s139, s140, s141, s142, s143, s144, s145, s146, s147, s148, s149, s150, s151, s152, s153, s154, s155, s156, s157, s158, s159, s160, s161, s162, s163, s164, s165, s166, s167, s168, s169, s170, s171, s172, s173, s174, s175, s176, s177, s178, s179, s180, s181, s182, s183, s184, s185, s186, s187, s188, s189, s190, s191, s192, s193, s194], []⟩
set_option maxRecDepth 1000000 in
def PMR (W : World) (m r N k : Nat) (s0 s1 s2 s3 s4 s5 s6 s7 s9 s13 s14 s15 s16 s17 s18 s19 s20 s21 s22 s23 s24 s25 s26 s27 s28 s29 s30 s31 s32 s33 s34 s35 s36 s37 s38 s39 s40 s41 s42 s43 s44 s45 s46 s47 s48 s49 s50 s51 s52 s53 s54 s55 s56 s57 s58 s59 s60 s61 s62 s63 s64 s65 s66 s67 s68 s69 s70 s71 s72 s73 s74 s75 s76 s77 s78 s79 s80 s81 s82 s83 s84 s85 s86 s87 s88 s89 s90 s91 s92 s93 s94 s95 s96 s97 s98 s99 s100 s101 s102 s103 s104 s105 s106 s107 s108 s109 s110 s111 s112 s113 s114 s115 s116 s117 s118 s119 s120 s121 s122 s180 s181 s182 s183 s184 s185 s186 s187 s188 s189 s190 s191 s192 s193 s194 : Value) (a' : Act) (w' : World) : Prop :=
 ∃ u123 u124 u125 u126 u127 u128 u129 u130 u131 u132 u133 u134 u135 u136 u137 u138 u139 u140 u141 u142 u143 u144 u145 u146 u147 u148 u149 u150 u151 u152 u153 u154 u155 u156 u157 u158 u159 u160 u161 u162 u163 u164 u165 u166 u167 u168 u169 u170 u171 u172 u173 u174 u175 u176 u177 u178 u179 : Value, (u179 = .bool false ∧ Din W m r w') ∧ a' = ⟨#[s0, s1, s2, s3, s4, s5, s6, s7, .pointer (some ⟨m, 0, none⟩), s9, .pointer (some ⟨r, 0, none⟩), .int .i64 k, .pointer (some ⟨N, 0, none⟩), s13, s14, s15, s16, s17, s18, s19, s20, s21, s22, s23, s24, s25, s26, s27, s28, s29, s30, s31, s32, s33, s34, s35, s36, s37, s38, s39, s40, s41, s42, s43, s44, s45, s46, s47, s48, s49, s50, s51, s52, s53, s54, s55, s56, s57, s58, s59, s60, s61, s62, s63, s64, s65, s66, s67, s68, s69, s70, s71, s72, s73, s74, s75, s76, s77, s78, s79, s80, s81, s82, s83, s84, s85, s86, s87, s88, s89, s90, s91, s92, s93, s94, s95, s96, s97, s98, s99, s100, s101, s102, s103, s104, s105, s106, s107, s108, s109, s110, s111, s112, s113, s114, s115, s116, s117, s118, s119, s120, s121, s122, u123, u124, u125, u126, u127, u128, u129, u130, u131, u132, u133, u134, u135, u136, u137, u138, u139, u140, u141, u142, u143, u144, u145, u146, u147, u148, u149, u150, u151, u152, u153, u154, u155, u156, u157, u158, u159, u160, u161, u162, u163, u164, u165, u166, u167, u168, u169, u170, u171, u172, u173, u174, u175, u176, u177, u178, u179, s180, s181, s182, s183, s184, s185, s186, s187, s188, s189, s190, s191, s192, s193, s194], []⟩
end Go.Proofs.Ytkkjofefjepodaa.modelPlays
/- ModelPlays: one call of the script, of both. Conditions: what the parts before it have laid. -/
namespace Go.Proofs.Ytkkjofefjepodaa.modelPlays
open Go.ChangeShapes Go.WideShapes Go.ChangeAt Go.RowKit
set_option linter.unusedVariables false
set_option linter.unusedSimpArgs false
section
variable {W V : World} {m r N : Nat} {S T : Nat → Prop} {x : MoI} {kd s lv ok oy oh ov : Int} {Q : Exit → Act → World → Prop} {J K : Act → World → Prop}
set_option maxRecDepth 1000000 in
set_option maxHeartbeats 8000000 in
theorem b0 { s0 s1 s2 s3 s4 s5 s6 s7 s9 s11 s13 s14 s15 s16 s17 s18 s19 s20 s21 s22 s23 s24 s25 s26 s27 s28 s29 s30 s31 s32 s33 s34 s35 s36 s37 s38 s39 s40 s41 s42 s43 s44 s45 s46 s47 s48 s49 s50 s51 s52 s53 s54 s55 s56 s57 s58 s59 s61 s62 s63 s64 s65 s66 s67 s68 s69 s70 s71 s72 s73 s74 s75 s76 s77 s78 s79 s80 s81 s82 s83 s84 s85 s86 s87 s88 s89 s90 s91 s92 s93 s94 s95 s96 s97 s98 s99 s100 s101 s102 s103 s104 s105 s106 s107 s108 s109 s110 s111 s112 s113 s114 s115 s116 s117 s118 s119 s120 s121 s122 s123 s124 s125 s126 s127 s128 s129 s130 s131 s132 s133 s134 s135 s136 s137 s138 s139 s140 s141 s142 s143 s144 s145 s146 s147 s148 s149 s150 s151 s152 s153 s154 s155 s156 s157 s158 s159 s160 s161 s162 s163 s164 s165 s166 s167 s168 s169 s170 s171 s172 s173 s174 s175 s176 s177 s178 s179 s180 s181 s182 s183 s184 s185 s186 s187 s188 s189 s190 s191 s192 s193 s194 : Value} (hJ : ∀ a' w', PMB W m r N ⟨0, s, lv, ok, oy, oh, ov⟩ s0 s1 s2 s3 s4 s5 s7 s9 s11 s21 s22 s23 s24 s25 s26 s27 s28 s29 s30 s31 s32 s33 s34 s35 s36 s37 s38 s39 s40 s41 s42 s43 s44 s45 s46 s47 s48 s49 s50 s51 s52 s53 s54 s55 s56 s57 s58 s59 s123 s124 s125 s126 s127 s128 s129 s130 s131 s132 s133 s134 s135 s136 s137 s138 s139 s140 s141 s142 s143 s144 s145 s146 s147 s148 s149 s150 s151 s152 s153 s154 s155 s156 s157 s158 s159 s160 s161 s162 s163 s164 s165 s166 s167 s168 s169 s170 s171 s172 s173 s174 s175 s176 s177 s178 s179 s180 s181 s182 s183 s184 s185 s186 s187 s188 s189 s190 s191 s192 s193 s194 a' w' → J a' w') (hK : ∀ a' w', Met J a' w' → K a' w') (hQp : RowKit.Hid (∀ c a d v w, Q (.panic c) (a.put d v) w → Q (.panic c) a w))
  (B0 : Rnd W V m S r T x x N ⟨0, s, lv, ok, oy, oh, ov⟩) (b1 : I64 s) (b2 : I64 lv) (b3 : I64 ok) (b4 : I64 oy) (b5 : I64 oh) (b6 : I64 ov) : Code.wp Try.prog cB (Exit.then K Q) ⟨#[s0, s1, s2, s3, s4, s5, s6, s7, .pointer (some ⟨m, 0, none⟩), s9, .pointer (some ⟨r, 0, none⟩), s11, .pointer (some ⟨N, 0, none⟩), s13, s14, s15, s16, s17, s18, s19, s20, s21, s22, s23, s24, s25, s26, s27, s28, s29, s30, s31, s32, s33, s34, s35, s36, s37, s38, s39, s40, s41, s42, s43, s44, s45, s46, s47, s48, s49, s50, s51, s52, s53, s54, s55, s56, s57, s58, s59, .int .i64 0, s61, s62, s63, s64, s65, s66, s67, s68, s69, s70, s71, s72, s73, s74, s75, s76, s77, s78, s79, s80, s81, s82, s83, s84, s85, s86, s87, s88, s89, s90, s91, s92, s93, s94, s95, s96, s97, s98, s99, s100, s101, s102, s103, s104, s105, s106, s107, s108, s109, s110, s111, s112, s113, s114, s115, s116, s117, s118, s119, s120, s121, s122, s123, s124, s125, s126, s127, s128, s129, s130, s131, s132, s133, s134, s135, s136, s137, s138, s139, s140, s141, s142, s143, s144, s145, s146, s147, s148, s149, s150, s151, s152, s153, s154, s155, s156, s157, s158, s159, s160, s161, s162, s163, s164, s165, s166, s167, s168, s169, s170, s171, s172, s173, s174, s175, s176, s177, s178, s179, s180, s181, s182, s183, s184, s185, s186, s187, s188, s189, s190, s191, s192, s193, s194], []⟩ V := by
 obtain ⟨c0, c1, c2', c3, c4, c5, c6⟩ := B0.bx
 dsimp only at c0 c1 c2' c3 c4 c5 c6
 conv => arg 2; whnf
 dsimp only
 obtain ⟨n, hn⟩ : ∃ n, x.begN s lv = n := ⟨_, rfl⟩
 obtain ⟨e0, he⟩ : ∃ n, x.begE s lv = n := ⟨_, rfl⟩
 have MB := md_begin B0.d.md s lv b1 b2 n e0 _ hn he rfl
 have q0 : (n != n) = false := by simp
 have q1 : (e0 != e0) = false := by simp
 have HN := Lib.hid hn
 have HE := Lib.hid he
 clear hn he
 go_wp2_with fail
 refine MB.mono ?_
 rintro e w1 ⟨rfl, S1, M1, k1⟩
 clear c0 c1 c2' c3 c4 c5 c6 MB
 have R1 := B0.stepM M1 k1
 clear B0 M1 k1
 have c1 := R1.bx.c1
 have c2' := R1.bx.c2
 dsimp only at c1 c2'
 go_wp2_with fail
 refine (rm_begin R1.d.rm s lv n e0 _ HN.out HE.out rfl).mono ?_
 rintro e w2 ⟨rfl, T1, M2, k2⟩
 have R2 := R1.stepR M2 k2
 clear R1 M2 k2 c1 c2'
 go_wp2_with fail
 go_meet
 case rel => exact ⟨S1, T1, _, R2⟩
set_option maxRecDepth 1000000 in
set_option maxHeartbeats 8000000 in
theorem b2 { s0 s1 s2 s3 s4 s5 s6 s7 s9 s11 s13 s14 s15 s16 s17 s18 s19 s20 s21 s22 s23 s24 s25 s26 s27 s28 s29 s30 s31 s32 s33 s34 s35 s36 s37 s38 s39 s40 s41 s42 s43 s44 s45 s46 s47 s48 s49 s50 s51 s52 s53 s54 s55 s56 s57 s58 s59 s61 s62 s63 s64 s65 s66 s67 s68 s69 s70 s71 s72 s73 s74 s75 s76 s77 s78 s79 s80 s81 s82 s83 s84 s85 s86 s87 s88 s89 s90 s91 s92 s93 s94 s95 s96 s97 s98 s99 s100 s101 s102 s103 s104 s105 s106 s107 s108 s109 s110 s111 s112 s113 s114 s115 s116 s117 s118 s119 s120 s121 s122 s123 s124 s125 s126 s127 s128 s129 s130 s131 s132 s133 s134 s135 s136 s137 s138 s139 s140 s141 s142 s143 s144 s145 s146 s147 s148 s149 s150 s151 s152 s153 s154 s155 s156 s157 s158 s159 s160 s161 s162 s163 s164 s165 s166 s167 s168 s169 s170 s171 s172 s173 s174 s175 s176 s177 s178 s179 s180 s181 s182 s183 s184 s185 s186 s187 s188 s189 s190 s191 s192 s193 s194 : Value} (hJ : ∀ a' w', PMB W m r N ⟨2, s, lv, ok, oy, oh, ov⟩ s0 s1 s2 s3 s4 s5 s7 s9 s11 s21 s22 s23 s24 s25 s26 s27 s28 s29 s30 s31 s32 s33 s34 s35 s36 s37 s38 s39 s40 s41 s42 s43 s44 s45 s46 s47 s48 s49 s50 s51 s52 s53 s54 s55 s56 s57 s58 s59 s123 s124 s125 s126 s127 s128 s129 s130 s131 s132 s133 s134 s135 s136 s137 s138 s139 s140 s141 s142 s143 s144 s145 s146 s147 s148 s149 s150 s151 s152 s153 s154 s155 s156 s157 s158 s159 s160 s161 s162 s163 s164 s165 s166 s167 s168 s169 s170 s171 s172 s173 s174 s175 s176 s177 s178 s179 s180 s181 s182 s183 s184 s185 s186 s187 s188 s189 s190 s191 s192 s193 s194 a' w' → J a' w') (hK : ∀ a' w', Met J a' w' → K a' w') (hQp : RowKit.Hid (∀ c a d v w, Q (.panic c) (a.put d v) w → Q (.panic c) a w))
  (B0 : Rnd W V m S r T x x N ⟨2, s, lv, ok, oy, oh, ov⟩) (b1 : I64 s) (b2 : I64 lv) (b3 : I64 ok) (b4 : I64 oy) (b5 : I64 oh) (b6 : I64 ov) : Code.wp Try.prog cB (Exit.then K Q) ⟨#[s0, s1, s2, s3, s4, s5, s6, s7, .pointer (some ⟨m, 0, none⟩), s9, .pointer (some ⟨r, 0, none⟩), s11, .pointer (some ⟨N, 0, none⟩), s13, s14, s15, s16, s17, s18, s19, s20, s21, s22, s23, s24, s25, s26, s27, s28, s29, s30, s31, s32, s33, s34, s35, s36, s37, s38, s39, s40, s41, s42, s43, s44, s45, s46, s47, s48, s49, s50, s51, s52, s53, s54, s55, s56, s57, s58, s59, .int .i64 2, s61, s62, s63, s64, s65, s66, s67, s68, s69, s70, s71, s72, s73, s74, s75, s76, s77, s78, s79, s80, s81, s82, s83, s84, s85, s86, s87, s88, s89, s90, s91, s92, s93, s94, s95, s96, s97, s98, s99, s100, s101, s102, s103, s104, s105, s106, s107, s108, s109, s110, s111, s112, s113, s114, s115, s116, s117, s118, s119, s120, s121, s122, s123, s124, s125, s126, s127, s128, s129, s130, s131, s132, s133, s134, s135, s136, s137, s138, s139, s140, s141, s142, s143, s144, s145, s146, s147, s148, s149, s150, s151, s152, s153, s154, s155, s156, s157, s158, s159, s160, s161, s162, s163, s164, s165, s166, s167, s168, s169, s170, s171, s172, s173, s174, s175, s176, s177, s178, s179, s180, s181, s182, s183, s184, s185, s186, s187, s188, s189, s190, s191, s192, s193, s194], []⟩ V := by
 obtain ⟨c0, c1, c2', c3, c4, c5, c6⟩ := B0.bx
 dsimp only at c0 c1 c2' c3 c4 c5 c6
 conv => arg 2; whnf
 dsimp only
 obtain ⟨n, hn⟩ : ∃ n, x.collected = n := ⟨_, rfl⟩
 have MB := md_collect B0.d.md n _ hn rfl
 have q0 : (n != n) = false := by simp
 have HN := Lib.hid hn
 clear hn
 go_wp2_with fail
 refine MB.mono ?_
 rintro e w1 ⟨rfl, S1, M1, k1⟩
 clear c0 c1 c2' c3 c4 c5 c6 MB
 have R1 := B0.stepM M1 k1
 clear B0 M1 k1
 go_wp2_with fail
 refine (rm_collect R1.d.rm n _ HN.out rfl).mono ?_
 rintro e w2 ⟨rfl, T1, M2, k2⟩
 have R2 := R1.stepR M2 k2
 clear R1 M2 k2
 go_wp2_with fail
 go_meet
 case rel => exact ⟨S1, T1, _, R2⟩
set_option maxRecDepth 1000000 in
set_option maxHeartbeats 8000000 in
theorem bd { s0 s1 s2 s3 s4 s5 s6 s7 s9 s11 s13 s14 s15 s16 s17 s18 s19 s20 s21 s22 s23 s24 s25 s26 s27 s28 s29 s30 s31 s32 s33 s34 s35 s36 s37 s38 s39 s40 s41 s42 s43 s44 s45 s46 s47 s48 s49 s50 s51 s52 s53 s54 s55 s56 s57 s58 s59 s61 s62 s63 s64 s65 s66 s67 s68 s69 s70 s71 s72 s73 s74 s75 s76 s77 s78 s79 s80 s81 s82 s83 s84 s85 s86 s87 s88 s89 s90 s91 s92 s93 s94 s95 s96 s97 s98 s99 s100 s101 s102 s103 s104 s105 s106 s107 s108 s109 s110 s111 s112 s113 s114 s115 s116 s117 s118 s119 s120 s121 s122 s123 s124 s125 s126 s127 s128 s129 s130 s131 s132 s133 s134 s135 s136 s137 s138 s139 s140 s141 s142 s143 s144 s145 s146 s147 s148 s149 s150 s151 s152 s153 s154 s155 s156 s157 s158 s159 s160 s161 s162 s163 s164 s165 s166 s167 s168 s169 s170 s171 s172 s173 s174 s175 s176 s177 s178 s179 s180 s181 s182 s183 s184 s185 s186 s187 s188 s189 s190 s191 s192 s193 s194 : Value} (hJ : ∀ a' w', PMB W m r N ⟨kd, s, lv, ok, oy, oh, ov⟩ s0 s1 s2 s3 s4 s5 s7 s9 s11 s21 s22 s23 s24 s25 s26 s27 s28 s29 s30 s31 s32 s33 s34 s35 s36 s37 s38 s39 s40 s41 s42 s43 s44 s45 s46 s47 s48 s49 s50 s51 s52 s53 s54 s55 s56 s57 s58 s59 s123 s124 s125 s126 s127 s128 s129 s130 s131 s132 s133 s134 s135 s136 s137 s138 s139 s140 s141 s142 s143 s144 s145 s146 s147 s148 s149 s150 s151 s152 s153 s154 s155 s156 s157 s158 s159 s160 s161 s162 s163 s164 s165 s166 s167 s168 s169 s170 s171 s172 s173 s174 s175 s176 s177 s178 s179 s180 s181 s182 s183 s184 s185 s186 s187 s188 s189 s190 s191 s192 s193 s194 a' w' → J a' w') (hK : ∀ a' w', Met J a' w' → K a' w') (hQp : RowKit.Hid (∀ c a d v w, Q (.panic c) (a.put d v) w → Q (.panic c) a w))
  (B0 : Rnd W V m S r T x x N ⟨kd, s, lv, ok, oy, oh, ov⟩) (b1 : I64 s) (b2 : I64 lv) (b3 : I64 ok) (b4 : I64 oy) (b5 : I64 oh) (b6 : I64 ov) (hk0 : kd ≠ 0) (hk2 : kd ≠ 2) : Code.wp Try.prog cB (Exit.then K Q) ⟨#[s0, s1, s2, s3, s4, s5, s6, s7, .pointer (some ⟨m, 0, none⟩), s9, .pointer (some ⟨r, 0, none⟩), s11, .pointer (some ⟨N, 0, none⟩), s13, s14, s15, s16, s17, s18, s19, s20, s21, s22, s23, s24, s25, s26, s27, s28, s29, s30, s31, s32, s33, s34, s35, s36, s37, s38, s39, s40, s41, s42, s43, s44, s45, s46, s47, s48, s49, s50, s51, s52, s53, s54, s55, s56, s57, s58, s59, .int .i64 kd, s61, s62, s63, s64, s65, s66, s67, s68, s69, s70, s71, s72, s73, s74, s75, s76, s77, s78, s79, s80, s81, s82, s83, s84, s85, s86, s87, s88, s89, s90, s91, s92, s93, s94, s95, s96, s97, s98, s99, s100, s101, s102, s103, s104, s105, s106, s107, s108, s109, s110, s111, s112, s113, s114, s115, s116, s117, s118, s119, s120, s121, s122, s123, s124, s125, s126, s127, s128, s129, s130, s131, s132, s133, s134, s135, s136, s137, s138, s139, s140, s141, s142, s143, s144, s145, s146, s147, s148, s149, s150, s151, s152, s153, s154, s155, s156, s157, s158, s159, s160, s161, s162, s163, s164, s165, s166, s167, s168, s169, s170, s171, s172, s173, s174, s175, s176, s177, s178, s179, s180, s181, s182, s183, s184, s185, s186, s187, s188, s189, s190, s191, s192, s193, s194], []⟩ V := by
 obtain ⟨c0, c1, c2', c3, c4, c5, c6⟩ := B0.bx
 dsimp only at c0 c1 c2' c3 c4 c5 c6
 conv => arg 2; whnf
 dsimp only
 have e0' : (kd == 0) = false := by simpa using hk0
 have e2' : (kd == 2) = false := by simpa using hk2
 obtain ⟨rs, hr⟩ : ∃ n, x.doR s ⟨ok, oy, oh, ov⟩ = n := ⟨_, rfl⟩
 obtain ⟨e0, he⟩ : ∃ n, x.doE s ⟨ok, oy, oh, ov⟩ = n := ⟨_, rfl⟩
 have MB := md_do B0.d.md s ⟨ok, oy, oh, ov⟩ b1 ⟨b3, b4, b5, b6⟩ rs e0 _ hr he rfl
 have q1 : (e0 != e0) = false := by simp
 have rl : rs.pairs.length ≤ 100000 := by rw [← hr]; exact Nat.le_trans (doR_len _ _ _) (by decide)
 have tl := Lib.hid B0.d.rm.lt
 have HR := Lib.hid hr
 have HE := Lib.hid he
 clear hr he
 unfold reV opV at MB
 go_wp2_with fail
 refine MB.mono ?_
 rintro e w1 ⟨u1, S1, rfl, o1, n1, M1, k1⟩
 clear c0 c1 c2' c3 c4 c5 c6 MB
 obtain ⟨A1, q1', cc1, rfl⟩ := ownPr_shape o1
 have R1 := B0.stepM M1 k1
 clear B0 M1 k1
 have kb : Keep (fun _ => False) w1 (w1.alloc (.cells #[.int .i64 rs.e, .int .i64 rs.val, .slice A1 q1' cc1, .int .i64 rs.over, .int .i64 rs.reason] 30)) := (Keep.refl _ _).alloc _
 have R1b := R1.quiet kb
 have c1 := R1.bx.c1
 have c3 := R1.bx.c3
 have c4 := R1.bx.c4
 have c5 := R1.bx.c5
 have c6 := R1.bx.c6
 have z1 := R1.z
 dsimp only at c1 c3 c4 c5 c6
 have RB := rm_do R1b.d.rm s ⟨ok, oy, oh, ov⟩ rs e0 _ HR.out HE.out rfl
 unfold reV opV at RB
 go_wp2_with fail
 refine RB.mono ?_
 rintro e w2 ⟨u2, T1, rfl, o2, n2', M2, k2⟩
 obtain ⟨A2, q2', cc2, rfl⟩ := ownPr_shape o2
 have R2 := R1b.stepR M2 k2
 have bx := res5 (v := rs) R1.d.rm.lt k2.1
 have o1b := (o1.keep kb (fun _ _ => id)).keep k2.1 (fun g hg ht => by have := (n1 g hg).1; have := tl.out g ht; omega)
 have zz : w1.heap.size < w2.heap.size := by have := k2.1.size; rw [World.size_alloc] at this; omega
 have kc : Keep (fun _ => False) w2 (w2.alloc (.cells #[.int .i64 rs.e, .int .i64 rs.val, .slice A2 q2' cc2, .int .i64 rs.over, .int .i64 rs.reason] 30)) := (Keep.refl _ _).alloc _
 have SR := same_res (o1b.keep kc (fun _ _ => id)) (o2.keep kc (fun _ _ => id)) rl
 unfold reV at SR
 obtain ⟨xa, xb, xs, xc, xd⟩ := bx
 have R2b := R2.quiet kc
 clear R1 R1b R2 o1 o2 o1b M2 k2 n1 n2' c1 c3 c4 c5 c6 RB tl
 go_wp2_with fail
 refine SR.mono ?_
 rintro e w3 ⟨rfl, k3⟩
 have R3 := R2b.quiet k3
 clear SR R2b xa xb xs xc xd k3
 go_wp2_with fail
 go_meet
 case rel => exact ⟨S1, T1, _, R3⟩
end
end Go.Proofs.Ytkkjofefjepodaa.modelPlays
/- ModelPlays: what is asked of both behind a call. Conditions: what the parts before it have laid. -/
namespace Go.Proofs.Ytkkjofefjepodaa.modelPlays
open Go.ChangeShapes Go.WideShapes Go.ChangeAt Go.RowKit
set_option linter.unusedVariables false
set_option linter.unusedSimpArgs false
set_option maxRecDepth 1000000 in
set_option maxHeartbeats 16000000 in
theorem r0 {W wc : World} {m r N k : Nat} {S5 T5 : Nat → Prop} {y : MoI} {kd s lv ok oy oh ov : Int} {Q : Exit → Act → World → Prop} {J K : Act → World → Prop} { s0 s1 s2 s3 s4 s5 s6 s7 s9 s13 s14 s15 s16 s17 s18 s19 s20 s21 s22 s23 s24 s25 s26 s27 s28 s29 s30 s31 s32 s33 s34 s35 s36 s37 s38 s39 s40 s41 s42 s43 s44 s45 s46 s47 s48 s49 s50 s51 s52 s53 s54 s55 s56 s57 s58 s59 s60 s61 s62 s63 s64 s65 s66 s67 s68 s69 s70 s71 s72 s73 s74 s75 s76 s77 s78 s79 s80 s81 s82 s83 s84 s85 s86 s87 s88 s89 s90 s91 s92 s93 s94 s95 s96 s97 s98 s99 s100 s101 s102 s103 s104 s105 s106 s107 s108 s109 s110 s111 s112 s113 s114 s115 s116 s117 s118 s119 s120 s121 s122 s123 s124 s125 s126 s127 s128 s129 s130 s131 s132 s133 s134 s135 s136 s137 s138 s139 s140 s141 s142 s143 s144 s145 s146 s147 s148 s149 s150 s151 s152 s153 s154 s155 s156 s157 s158 s159 s160 s161 s162 s163 s164 s165 s166 s167 s168 s169 s170 s171 s172 s173 s174 s175 s176 s177 s178 s179 s180 s181 s182 s183 s184 s185 s186 s187 s188 s189 s190 s191 s192 s193 s194 : Value} (hJ : ∀ a' w', PMR W m r N k s0 s1 s2 s3 s4 s5 s6 s7 s9 s13 s14 s15 s16 s17 s18 s19 s20 s21 s22 s23 s24 s25 s26 s27 s28 s29 s30 s31 s32 s33 s34 s35 s36 s37 s38 s39 s40 s41 s42 s43 s44 s45 s46 s47 s48 s49 s50 s51 s52 s53 s54 s55 s56 s57 s58 s59 s60 s61 s62 s63 s64 s65 s66 s67 s68 s69 s70 s71 s72 s73 s74 s75 s76 s77 s78 s79 s80 s81 s82 s83 s84 s85 s86 s87 s88 s89 s90 s91 s92 s93 s94 s95 s96 s97 s98 s99 s100 s101 s102 s103 s104 s105 s106 s107 s108 s109 s110 s111 s112 s113 s114 s115 s116 s117 s118 s119 s120 s121 s122 s180 s181 s182 s183 s184 s185 s186 s187 s188 s189 s190 s191 s192 s193 s194 a' w' → J a' w') (hK : ∀ a' w', Met J a' w' → K a' w') (hQp : RowKit.Hid (∀ c a d v w, Q (.panic c) (a.put d v) w → Q (.panic c) a w))
  (R5 : Rnd W wc m S5 r T5 y y N ⟨kd, s, lv, ok, oy, oh, ov⟩) (b1 : I64 s) (k80 : k < 80) (h4 : k % 4 = 0) : Code.wp Try.prog cR (Exit.then K Q) ⟨#[s0, s1, s2, s3, s4, s5, s6, s7, .pointer (some ⟨m, 0, none⟩), s9, .pointer (some ⟨r, 0, none⟩), .int .i64 k, .pointer (some ⟨N, 0, none⟩), s13, s14, s15, s16, s17, s18, s19, s20, s21, s22, s23, s24, s25, s26, s27, s28, s29, s30, s31, s32, s33, s34, s35, s36, s37, s38, s39, s40, s41, s42, s43, s44, s45, s46, s47, s48, s49, s50, s51, s52, s53, s54, s55, s56, s57, s58, s59, s60, s61, s62, s63, s64, s65, s66, s67, s68, s69, s70, s71, s72, s73, s74, s75, s76, s77, s78, s79, s80, s81, s82, s83, s84, s85, s86, s87, s88, s89, s90, s91, s92, s93, s94, s95, s96, s97, s98, s99, s100, s101, s102, s103, s104, s105, s106, s107, s108, s109, s110, s111, s112, s113, s114, s115, s116, s117, s118, s119, s120, s121, s122, s123, s124, s125, s126, s127, s128, s129, s130, s131, s132, s133, s134, s135, s136, s137, s138, s139, s140, s141, s142, s143, s144, s145, s146, s147, s148, s149, s150, s151, s152, s153, s154, s155, s156, s157, s158, s159, s160, s161, s162, s163, s164, s165, s166, s167, s168, s169, s170, s171, s172, s173, s174, s175, s176, s177, s178, s179, s180, s181, s182, s183, s184, s185, s186, s187, s188, s189, s190, s191, s192, s193, s194], []⟩ wc := by
 obtain ⟨A, c, cV⟩ := R5.d.rm.vers
 have cT := R5.d.rm.time
 have cS := R5.bx.c1
 dsimp only at cS
 obtain ⟨L, eL⟩ : ∃ L, y.v.length = L := ⟨_, rfl⟩
 obtain ⟨tm, eT⟩ : ∃ t, y.time = t := ⟨_, rfl⟩
 have tb : 0 ≤ tm ∧ tm ≤ 1099511627776 := by have := R5.d.md.gd.time; have := R5.d.md.gd.conf; omega
 obtain ⟨l, ids, lvs, st, sr, ops, hst⟩ := stat_form y s
 have ll := live_le y
 have pl := prs_le R5.d.md.gd tm
 rw [eL] at cV
 rw [eT] at cT
 have EL := Lib.hid eL
 have ET := Lib.hid eT
 have HST := Lib.hid hst
 have LL := Lib.hid ll
 have PL := Lib.hid pl
 have SN := st_neq
 clear eL eT hst ll pl
 obtain ⟨z, hz⟩ : ∃ z : Nat, k % 4 = z := ⟨_, rfl⟩
 have m1 : (k : Int).tmod 4 = (z : Int) := by rw [Int.tmod_eq_emod_of_nonneg (by omega)]; omega
 have m2 : (k : Int) % 4 = (z : Int) := by omega
 have R5d := R5.quiet (Keep.refl (fun _ => False) wc).drew
 clear R5
 obtain rfl : z = 0 := by omega
 clear hz h4
 conv => arg 2; whnf
 dsimp only
 go_wp2_with fail
 refine wp_region_held_drew (S := (fun w' => w'.cell? ⟨r, 2, none⟩ = some (.slice A L c) ∧ w'.cell? ⟨r, 51, none⟩ = some (.int .u64 tm) ∧ w'.cell? ⟨N, 1, none⟩ = some (.int .i64 s))) (by kernel_rfl) ⟨cV, cT, cS⟩ (fun hHeld => ?_)
 refine tk 0 (v := ?qvu1163) ?qyu1163 ?qru1163 (hQ := by intro _ _ _ h; exact hQp.out _ _ _ _ _ h); case qyu1163 => ((intro w hSw; (try dsimp only at hSw); go_simp); try (with_reducible rfl))
 (try simp only [tA, tS, tZ, Act.put, uA, uS, uZ])
 refine tk 2 (v := ?qvu1164) ?qyu1164 ?qru1164 (hQ := by intro _ _ _ h; exact hQp.out _ _ _ _ _ h); case qyu1164 => ((intro w hSw; (try dsimp only at hSw); go_simp); try (with_reducible rfl))
 (try simp only [tA, tS, tZ, Act.put, uA, uS, uZ])
 refine tk 3 (v := ?qvu1165) ?qyu1165 ?qru1165 (hQ := by intro _ _ _ h; exact hQp.out _ _ _ _ _ h); case qyu1165 => ((intro w hSw; (try dsimp only at hSw); go_simp); try (with_reducible rfl))
 (try simp only [tA, tS, tZ, Act.put, uA, uS, uZ])
 refine tk 4 (v := ?qvu1166) ?qyu1166 ?qru1166 (hQ := by intro _ _ _ h; exact hQp.out _ _ _ _ _ h); case qyu1166 => ((intro w hSw; (try dsimp only at hSw); go_simp); try (with_reducible rfl))
 (try simp only [tA, tS, tZ, Act.put, uA, uS, uZ])
 refine tk 5 (v := ?qvu1167) ?qyu1167 ?qru1167 (hQ := by intro _ _ _ h; exact hQp.out _ _ _ _ _ h); case qyu1167 => ((intro w hSw; (try dsimp only at hSw); go_simp); try (with_reducible rfl))
 (try simp only [tA, tS, tZ, Act.put, uA, uS, uZ])
 refine tk 6 (v := ?qvu1168) ?qyu1168 ?qru1168 (hQ := by intro _ _ _ h; exact hQp.out _ _ _ _ _ h); case qyu1168 => ((intro w hSw; (try dsimp only at hSw); go_simp); try (with_reducible rfl))
 (try simp only [tA, tS, tZ, Act.put, uA, uS, uZ])
 refine wpAnyH_ready (rs := [1]) (by kernel_rfl) (by simp) ?_
 refine AllReadyH.cons rfl (fun K hK => ?_) AllReadyH.nil
 go_simp
 refine (md_used R5d.d.md L (congrArg _ EL.out)).mono ?_
 rintro e v1 ⟨rfl, Sa, Ma, ka⟩
 have R1 := R5d.stepM Ma ka
 refine hK.out _ _ ⟨ka.1.cell hHeld.1 R5d.d.nr, ka.1.cell hHeld.2.1 R5d.d.nr, ka.1.cell hHeld.2.2 R5d.n1⟩ (fun hHeld => ?_)
 clear hK K
 (try simp only [tA, tS, tZ, Act.put, uA, uS, uZ])
 refine tk 7 (v := ?qvu1169) ?qyu1169 ?qru1169 (hQ := by intro _ _ _ h; exact hQp.out _ _ _ _ _ h); case qyu1169 => ((intro w hSw; (try dsimp only at hSw); go_simp); try (with_reducible rfl))
 (try simp only [tA, tS, tZ, Act.put, uA, uS, uZ])
 refine tk 8 (v := ?qvu1170) ?qyu1170 ?qru1170 (hQ := by intro _ _ _ h; exact hQp.out _ _ _ _ _ h); case qyu1170 => ((intro w hSw; (try dsimp only at hSw); go_simp); try (with_reducible rfl))
 (try simp only [tA, tS, tZ, Act.put, uA, uS, uZ])
 refine tk 9 (v := ?qvu1171) ?qyu1171 ?qru1171 (hQ := by intro _ _ _ h; exact hQp.out _ _ _ _ _ h); case qyu1171 => ((intro w hSw; (try dsimp only at hSw); go_simp); try (with_reducible rfl))
 (try simp only [tA, tS, tZ, Act.put, uA, uS, uZ])
 refine tk 11 (v := ?qvu1172) ?qyu1172 ?qru1172 (hQ := by intro _ _ _ h; exact hQp.out _ _ _ _ _ h); case qyu1172 => ((intro w hSw; (try dsimp only at hSw); go_simp); try (with_reducible rfl))
 (try simp only [tA, tS, tZ, Act.put, uA, uS, uZ])
 refine tk 12 (v := ?qvu1173) ?qyu1173 ?qru1173 (hQ := by intro _ _ _ h; exact hQp.out _ _ _ _ _ h); case qyu1173 => ((intro w hSw; (try dsimp only at hSw); go_simp); try (with_reducible rfl))
 (try simp only [tA, tS, tZ, Act.put, uA, uS, uZ])
 refine tk 13 (v := ?qvu1174) ?qyu1174 ?qru1174 (hQ := by intro _ _ _ h; exact hQp.out _ _ _ _ _ h); case qyu1174 => ((intro w hSw; (try dsimp only at hSw); go_simp); try (with_reducible rfl))
 (try simp only [tA, tS, tZ, Act.put, uA, uS, uZ])
 refine tk 14 (v := ?qvu1175) ?qyu1175 ?qru1175 (hQ := by intro _ _ _ h; exact hQp.out _ _ _ _ _ h); case qyu1175 => ((intro w hSw; (try dsimp only at hSw); go_simp); try (with_reducible rfl))
 (try simp only [tA, tS, tZ, Act.put, uA, uS, uZ])
 refine wpAnyH_ready (rs := [10]) (by kernel_rfl) (by simp) ?_
 refine AllReadyH.cons rfl (fun K hK => ?_) AllReadyH.nil
 go_simp
 refine (md_now R1.d.md tm ET.out).mono ?_
 rintro e v2 ⟨rfl, Sb, Mb, kb⟩
 have R2 := R1.stepM Mb kb
 refine hK.out _ _ ⟨kb.1.cell hHeld.1 R1.d.nr, kb.1.cell hHeld.2.1 R1.d.nr, kb.1.cell hHeld.2.2 R1.n1⟩ (fun hHeld => ?_)
 clear hK K
 (try simp only [tA, tS, tZ, Act.put, uA, uS, uZ])
 refine tk 15 (v := ?qvu1176) ?qyu1176 ?qru1176 (hQ := by intro _ _ _ h; exact hQp.out _ _ _ _ _ h); case qyu1176 => ((intro w hSw; (try dsimp only at hSw); go_simp); try (with_reducible rfl))
 (try simp only [tA, tS, tZ, Act.put, uA, uS, uZ])
 refine tk 16 (v := ?qvu1177) ?qyu1177 ?qru1177 (hQ := by intro _ _ _ h; exact hQp.out _ _ _ _ _ h); case qyu1177 => ((intro w hSw; (try dsimp only at hSw); go_simp); try (with_reducible rfl))
 (try simp only [tA, tS, tZ, Act.put, uA, uS, uZ])
 refine tk 17 (v := ?qvu1178) ?qyu1178 ?qru1178 (hQ := by intro _ _ _ h; exact hQp.out _ _ _ _ _ h); case qyu1178 => ((intro w hSw; (try dsimp only at hSw); go_simp); try (with_reducible rfl))
 (try simp only [tA, tS, tZ, Act.put, uA, uS, uZ])
 refine tk 18 (v := ?qvu1179) ?qyu1179 ?qru1179 (hQ := by intro _ _ _ h; exact hQp.out _ _ _ _ _ h); case qyu1179 => ((intro w hSw; (try dsimp only at hSw); go_simp); try (with_reducible rfl))
 (try simp only [tA, tS, tZ, Act.put, uA, uS, uZ])
 refine tk 20 (v := ?qvu1180) ?qyu1180 ?qru1180 (hQ := by intro _ _ _ h; exact hQp.out _ _ _ _ _ h); case qyu1180 => ((intro w hSw; (try dsimp only at hSw); go_simp); try (with_reducible rfl))
 (try simp only [tA, tS, tZ, Act.put, uA, uS, uZ])
 refine wpAnyH_ready (rs := [19]) (by kernel_rfl) (by simp) ?_
 refine AllReadyH.cons rfl (fun K hK => ?_) AllReadyH.nil
 go_simp
 refine (md_live R2.d.md y.live rfl).mono ?_
 rintro e v3 ⟨u3, Sc, rfl, o3, n3, Mc, kc⟩
 have R3 := R2.stepM Mc kc
 refine hK.out _ _ ⟨kc.1.cell hHeld.1 R2.d.nr, kc.1.cell hHeld.2.1 R2.d.nr, kc.1.cell hHeld.2.2 R2.n1⟩ (fun hHeld => ?_)
 clear hK K
 (try simp only [tA, tS, tZ, Act.put, uA, uS, uZ])
 refine wpAnyH_ready (rs := [21]) (by kernel_rfl) (by simp) ?_
 refine AllReadyH.cons rfl (fun K hK => ?_) AllReadyH.nil
 go_simp
 refine (rm_live R3.d.rm y.live rfl).mono ?_
 rintro e v4 ⟨u4, rfl, o4, _, kd⟩
 have R4 := R3.quiet kd
 have o3b := OwnN.keep o3 kd (fun _ _ => id)
 refine hK.out _ _ ⟨kd.cell hHeld.1 id, kd.cell hHeld.2.1 id, kd.cell hHeld.2.2 id⟩ (fun hHeld => ?_)
 clear hK K
 (try simp only [tA, tS, tZ, Act.put, uA, uS, uZ])
 refine wpAnyH_ready (rs := [22]) (by kernel_rfl) (by simp) ?_
 refine AllReadyH.cons rfl (fun K hK => ?_) AllReadyH.nil
 go_simp
 refine (sameN_own o3b o4 LL.out).mono ?_
 rintro e v5 ⟨rfl, d5, rfl⟩
 have ke := drewN_keep (fun _ => False) v4 d5
 have R5 := R4.quiet ke
 refine hK.out _ _ ⟨ke.cell hHeld.1 id, ke.cell hHeld.2.1 id, ke.cell hHeld.2.2 id⟩ (fun hHeld => ?_)
 clear hK K
 (try simp only [tA, tS, tZ, Act.put, uA, uS, uZ])
 refine tk 23 (v := ?qvu1181) ?qyu1181 ?qru1181 (hQ := by intro _ _ _ h; exact hQp.out _ _ _ _ _ h); case qyu1181 => ((intro w hSw; (try dsimp only at hSw); go_simp); try (with_reducible rfl))
 (try simp only [tA, tS, tZ, Act.put, uA, uS, uZ])
 refine tk 24 (v := ?qvu1182) ?qyu1182 ?qru1182 (hQ := by intro _ _ _ h; exact hQp.out _ _ _ _ _ h); case qyu1182 => ((intro w hSw; (try dsimp only at hSw); go_simp); try (with_reducible rfl))
 (try simp only [tA, tS, tZ, Act.put, uA, uS, uZ])
 refine tk 25 (v := ?qvu1183) ?qyu1183 ?qru1183 (hQ := by intro _ _ _ h; exact hQp.out _ _ _ _ _ h); case qyu1183 => ((intro w hSw; (try dsimp only at hSw); go_simp); try (with_reducible rfl))
 (try simp only [tA, tS, tZ, Act.put, uA, uS, uZ])
 refine tk 26 (v := ?qvu1184) ?qyu1184 ?qru1184 (hQ := by intro _ _ _ h; exact hQp.out _ _ _ _ _ h); case qyu1184 => ((intro w hSw; (try dsimp only at hSw); go_simp); try (with_reducible rfl))
 (try simp only [tA, tS, tZ, Act.put, uA, uS, uZ])
 refine tk 27 (v := ?qvu1185) ?qyu1185 ?qru1185 (hQ := by intro _ _ _ h; exact hQp.out _ _ _ _ _ h); case qyu1185 => ((intro w hSw; (try dsimp only at hSw); go_simp); try (with_reducible rfl))
 (try simp only [tA, tS, tZ, Act.put, uA, uS, uZ])
 refine tk 28 (v := ?qvu1186) ?qyu1186 ?qru1186 (hQ := by intro _ _ _ h; exact hQp.out _ _ _ _ _ h); case qyu1186 => ((intro w hSw; (try dsimp only at hSw); go_simp); try (with_reducible rfl))
 (try simp only [tA, tS, tZ, Act.put, uA, uS, uZ])
 refine tk 30 (v := ?qvu1187) ?qyu1187 ?qru1187 (hQ := by intro _ _ _ h; exact hQp.out _ _ _ _ _ h); case qyu1187 => ((intro w hSw; (try dsimp only at hSw); go_simp); try (with_reducible rfl))
 (try simp only [tA, tS, tZ, Act.put, uA, uS, uZ])
 refine tk 31 (v := ?qvu1188) ?qyu1188 ?qru1188 (hQ := by intro _ _ _ h; exact hQp.out _ _ _ _ _ h); case qyu1188 => ((intro w hSw; (try dsimp only at hSw); go_simp); try (with_reducible rfl))
 (try simp only [tA, tS, tZ, Act.put, uA, uS, uZ])
 refine tk 32 (v := ?qvu1189) ?qyu1189 ?qru1189 (hQ := by intro _ _ _ h; exact hQp.out _ _ _ _ _ h); case qyu1189 => ((intro w hSw; (try dsimp only at hSw); go_simp); try (with_reducible rfl))
 (try simp only [tA, tS, tZ, Act.put, uA, uS, uZ])
 refine wpAnyH_ready (rs := [29]) (by kernel_rfl) (by simp) ?_
 refine AllReadyH.cons rfl (fun K hK => ?_) AllReadyH.nil
 go_simp
 refine (md_status R5.d.md s b1 _ HST.out).mono ?_
 rintro e v6 ⟨rfl, Sf, Mf, kf⟩
 have R6 := R5.stepM Mf kf
 refine hK.out _ _ ⟨kf.1.cell hHeld.1 R5.d.nr, kf.1.cell hHeld.2.1 R5.d.nr, kf.1.cell hHeld.2.2 R5.n1⟩ (fun hHeld => ?_)
 clear hK K
 (try simp only [tA, tS, tZ, Act.put, uA, uS, uZ])
 refine wpAnyH_ready (rs := [33]) (by kernel_rfl) (by simp) ?_
 refine AllReadyH.cons rfl (fun K hK => ?_) AllReadyH.nil
 go_simp
 refine (rm_status R6.d.rm s _ HST.out).mono ?_
 rintro e v7 ⟨rfl, _, kg⟩
 have R9 := R6.quiet kg
 refine hK.out _ _ ⟨kg.cell hHeld.1 id, kg.cell hHeld.2.1 id, kg.cell hHeld.2.2 id⟩ (fun hHeld => ?_)
 clear hK K
 (try simp only [tA, tS, tZ, Act.put, uA, uS, uZ])
 refine tk 34 (v := ?qvu1190) ?qyu1190 ?qru1190 (hQ := by intro _ _ _ h; exact hQp.out _ _ _ _ _ h); case qyu1190 => ((intro w hSw; (try dsimp only at hSw); go_simp); try (with_reducible rfl))
 (try simp only [tA, tS, tZ, Act.put, uA, uS, uZ])
 refine tk 35 (v := ?qvu1191) ?qyu1191 ?qru1191 (hQ := by intro _ _ _ h; exact hQp.out _ _ _ _ _ h); case qyu1191 => ((intro w hSw; (try dsimp only at hSw); go_simp); try (with_reducible rfl))
 (try simp only [tA, tS, tZ, Act.put, uA, uS, uZ])
 refine tk 36 (v := ?qvu1192) ?qyu1192 ?qru1192 (hQ := by intro _ _ _ h; exact hQp.out _ _ _ _ _ h); case qyu1192 => ((intro w hSw; (try dsimp only at hSw); go_simp); try (with_reducible rfl))
 (try simp only [tA, tS, tZ, Act.put, uA, uS, uZ])
 refine tk 37 (v := ?qvu1193) ?qyu1193 ?qru1193 (hQ := by intro _ _ _ h; exact hQp.out _ _ _ _ _ h); case qyu1193 => ((intro w hSw; (try dsimp only at hSw); go_simp); try (with_reducible rfl))
 (try simp only [tA, tS, tZ, Act.put, uA, uS, uZ])
 refine tk 38 (v := ?qvu1194) ?qyu1194 ?qru1194 (hQ := by intro _ _ _ h; exact hQp.out _ _ _ _ _ h); case qyu1194 => ((intro w hSw; (try dsimp only at hSw); go_simp); try (with_reducible rfl))
 (try simp only [tA, tS, tZ, Act.put, uA, uS, uZ])
 refine tk 39 (v := ?qvu1195) ?qyu1195 ?qru1195 (hQ := by intro _ _ _ h; exact hQp.out _ _ _ _ _ h); case qyu1195 => ((intro w hSw; (try dsimp only at hSw); go_simp); try (with_reducible rfl))
 (try simp only [tA, tS, tZ, Act.put, uA, uS, uZ])
 refine tk 40 (v := ?qvu1196) ?qyu1196 ?qru1196 (hQ := by intro _ _ _ h; exact hQp.out _ _ _ _ _ h); case qyu1196 => ((intro w hSw; (try dsimp only at hSw); go_simp); try (with_reducible rfl))
 (try simp only [tA, tS, tZ, Act.put, uA, uS, uZ])
 refine tk 41 (v := ?qvu1197) ?qyu1197 ?qru1197 (hQ := by intro _ _ _ h; exact hQp.out _ _ _ _ _ h); case qyu1197 => ((intro w hSw; (try dsimp only at hSw); go_simp); try (with_reducible rfl))
 (try simp only [tA, tS, tZ, Act.put, uA, uS, uZ])
 refine tk 42 (v := ?qvu1198) ?qyu1198 ?qru1198 (hQ := by intro _ _ _ h; exact hQp.out _ _ _ _ _ h); case qyu1198 => ((intro w hSw; (try dsimp only at hSw); go_simp); try (with_reducible rfl))
 (try simp only [tA, tS, tZ, Act.put, uA, uS, uZ])
 refine tk 43 (v := ?qvu1199) ?qyu1199 ?qru1199 (hQ := by intro _ _ _ h; exact hQp.out _ _ _ _ _ h); case qyu1199 => ((intro w hSw; (try dsimp only at hSw); go_simp); try (with_reducible rfl))
 (try simp only [tA, tS, tZ, Act.put, uA, uS, uZ])
 refine tk 44 (v := ?qvu1200) ?qyu1200 ?qru1200 (hQ := by intro _ _ _ h; exact hQp.out _ _ _ _ _ h); case qyu1200 => ((intro w hSw; (try dsimp only at hSw); go_simp); try (with_reducible rfl))
 (try simp only [tA, tS, tZ, Act.put, uA, uS, uZ])
 refine tk 45 (v := ?qvu1201) ?qyu1201 ?qru1201 (hQ := by intro _ _ _ h; exact hQp.out _ _ _ _ _ h); case qyu1201 => ((intro w hSw; (try dsimp only at hSw); go_simp); try (with_reducible rfl))
 (try simp only [tA, tS, tZ, Act.put, uA, uS, uZ])
 refine tk 47 (v := ?qvu1202) ?qyu1202 ?qru1202 (hQ := by intro _ _ _ h; exact hQp.out _ _ _ _ _ h); case qyu1202 => ((intro w hSw; (try dsimp only at hSw); go_simp); try (with_reducible rfl))
 (try simp only [tA, tS, tZ, Act.put, uA, uS, uZ])
 refine tk 48 (v := ?qvu1203) ?qyu1203 ?qru1203 (hQ := by intro _ _ _ h; exact hQp.out _ _ _ _ _ h); case qyu1203 => ((intro w hSw; (try dsimp only at hSw); go_simp); try (with_reducible rfl))
 (try simp only [tA, tS, tZ, Act.put, uA, uS, uZ])
 refine tk 49 (v := ?qvu1204) ?qyu1204 ?qru1204 (hQ := by intro _ _ _ h; exact hQp.out _ _ _ _ _ h); case qyu1204 => ((intro w hSw; (try dsimp only at hSw); go_simp); try (with_reducible rfl))
 (try simp only [tA, tS, tZ, Act.put, uA, uS, uZ])
 refine tk 50 (v := ?qvu1205) ?qyu1205 ?qru1205 (hQ := by intro _ _ _ h; exact hQp.out _ _ _ _ _ h); case qyu1205 => ((intro w hSw; (try dsimp only at hSw); go_simp); try (with_reducible rfl))
 (try simp only [tA, tS, tZ, Act.put, uA, uS, uZ])
 refine tk 51 (v := ?qvu1206) ?qyu1206 ?qru1206 (hQ := by intro _ _ _ h; exact hQp.out _ _ _ _ _ h); case qyu1206 => ((intro w hSw; (try dsimp only at hSw); go_simp); try (with_reducible rfl))
 (try simp only [tA, tS, tZ, Act.put, uA, uS, uZ])
 refine wpAnyH_ready (rs := [46]) (by kernel_rfl) (by simp) ?_
 refine AllReadyH.cons rfl (fun K hK => ?_) AllReadyH.nil
 go_simp
 refine (md_pairs R9.d.md tm ⟨by omega, by omega⟩ _ rfl).mono ?_
 rintro e v8 ⟨u8, Sh, rfl, o8, n8, Mh, kh⟩
 have RA := R9.stepM Mh kh
 refine hK.out _ _ ⟨kh.1.cell hHeld.1 R9.d.nr, kh.1.cell hHeld.2.1 R9.d.nr, kh.1.cell hHeld.2.2 R9.n1⟩ (fun hHeld => ?_)
 clear hK K
 (try simp only [tA, tS, tZ, Act.put, uA, uS, uZ])
 refine wpAnyH_ready (rs := [52]) (by kernel_rfl) (by simp) ?_
 refine AllReadyH.cons rfl (fun K hK => ?_) AllReadyH.nil
 go_simp
 refine (rm_pairs' RA.d.rm tm _ rfl).mono ?_
 rintro e v9 ⟨u9, rfl, o9, ki⟩
 have RB := RA.quiet ki
 have o8b := o8.keep ki (fun _ _ => id)
 refine hK.out _ _ ⟨ki.cell hHeld.1 id, ki.cell hHeld.2.1 id, ki.cell hHeld.2.2 id⟩ (fun hHeld => ?_)
 clear hK K
 (try simp only [tA, tS, tZ, Act.put, uA, uS, uZ])
 refine wpAnyH_ready (rs := [53]) (by kernel_rfl) (by simp) ?_
 refine AllReadyH.cons rfl (fun K hK => ?_) AllReadyH.nil
 go_simp
 refine (same_pr o8b o9 PL.out).mono ?_
 rintro e vA ⟨rfl, dA, rfl⟩
 have kj := drewN_keep (fun _ => False) v9 dA
 have RC := RB.quiet kj
 refine hK.out _ _ ⟨kj.cell hHeld.1 id, kj.cell hHeld.2.1 id, kj.cell hHeld.2.2 id⟩ (fun hHeld => ?_)
 clear hK K
 (try simp only [tA, tS, tZ, Act.put, uA, uS, uZ])
 refine tk 54 (v := ?qvu1207) ?qyu1207 ?qru1207 (hQ := by intro _ _ _ h; exact hQp.out _ _ _ _ _ h); case qyu1207 => ((intro w hSw; (try dsimp only at hSw); go_simp); try (with_reducible rfl))
 (try simp only [tA, tS, tZ, Act.put, uA, uS, uZ])
 refine tk 55 (v := ?qvu1208) ?qyu1208 ?qru1208 (hQ := by intro _ _ _ h; exact hQp.out _ _ _ _ _ h); case qyu1208 => ((intro w hSw; (try dsimp only at hSw); go_simp); try (with_reducible rfl))
 (try simp only [tA, tS, tZ, Act.put, uA, uS, uZ])
 refine tk 56 (v := ?qvu1209) ?qyu1209 ?qru1209 (hQ := by intro _ _ _ h; exact hQp.out _ _ _ _ _ h); case qyu1209 => ((intro w hSw; (try dsimp only at hSw); go_simp); try (with_reducible rfl))
 (try simp only [tA, tS, tZ, Act.put, uA, uS, uZ])
 refine wpAnyH_done (by kernel_rfl) ?_ _
 go_wp2_with fail
 go_meet
 case rel => exact ⟨rfl, _, _, y, RC.d⟩
end Go.Proofs.Ytkkjofefjepodaa.modelPlays
