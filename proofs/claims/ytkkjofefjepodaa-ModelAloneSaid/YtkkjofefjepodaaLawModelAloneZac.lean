/- Several texts, one behind the other: MnA, MnB, MnC. -/
import Derived.Test.YtkkjofefjepodaaModelBaseZao
import Derived.Test.YtkkjofefjepodaaLawModelAloneZaa
import Derived.Test.YtkkjofefjepodaaModelBaseZab
import Derived.Test.YtkkjofefjepodaaLawModelAloneZab
import Derived.Test.YtkkjofefjepodaaModelBaseZae
import Derived.ChangeOld
import Derived.Deep.LoopGhost
import Derived.Deep.CutRange
import Derived.Deep.CutBlock
import Derived.Deep.RegionHeld3
import Derived.BigRegion
/- ModelAlone: what stands in memory while one call is looked at, and what stores make of it; its switch's code and what that leaves. Conditions: as told. -/
namespace Go.Proofs.Ytkkjofefjepodaa.modelAlone
open Go.ChangeShapes Go.WideShapes Go.ChangeAt Go.RowKit
set_option linter.unusedVariables false
set_option linter.unusedSimpArgs false
/-- The Model, two arrays, the call, what was answered (r, its Pairs told by u), what is wanted (so far r0, r1, v). -/
structure SwA (W w : World) (m : Nat) (S : Nat → Prop) (y : MoI) (B1 B2 N3 N4 N6 : Nat) (th : Nat → Bool) (vl : Nat → Int) (o : OpI) (r : ReI) (u : Value) (r0 r1 : Int) (v : Value) : Prop where
 md : Md W w m S y
 b1 : Bits64 w B1 th
 b2 : Ints64 w B2 vl
 b3 : OpAt w N3 o
 b4 : ResAt w N4 (.int .i64 r.e) (.int .i64 r.val) u (.int .i64 r.over) (.int .i64 r.reason)
 b6 : ResAt w N6 (.int .i64 r0) (.int .i64 r1) v (.int .i64 0) (.int .i64 0)
 ou : OwnPr w u r.pairs
 or : B1 < B2 ∧ B2 < N3 ∧ N3 < N4 ∧ N4 < N6 ∧ W.heap.size ≤ B1 ∧ N6 < w.heap.size
 us : ∀ g, u.ownBlock = some g → N3 < g ∧ g < N4
 ns : ¬ S B1 ∧ ¬ S B2 ∧ ¬ S N3 ∧ ¬ S N4 ∧ ¬ S N6
section
variable {W w w' : World} {m : Nat} {S : Nat → Prop} {y : MoI} {B1 B2 N3 N4 N6 : Nat} {th : Nat → Bool} {vl : Nat → Int} {o : OpI} {r : ReI} {u v : Value} {r0 r1 : Int}
theorem SwA.set0 (h : SwA W w m S y B1 B2 N3 N4 N6 th vl o r u r0 r1 v) (e : Int) : SwA W (w.setCell ⟨N6, 0, none⟩ (.int .i64 e)) m S y B1 B2 N3 N4 N6 th vl o r u e r1 v := by
 have k := (Keep.refl (fun g => g = N6) w).setCell (p := ⟨N6, 0, none⟩) rfl (.int .i64 e)
 have d := h.or
 refine ⟨h.md.own k fun g hg => by rw [hg]; exact ⟨h.ns.2.2.2.2, by omega⟩, h.b1.keep k (by omega), h.b2.keep k (by omega), h.b3.keep k (by omega), h.b4.keep k (by omega), ⟨World.cell?_setCell_same _ _ _ h.b6.r0, by rw [World.cell?_setCell_other _ _ _ _ (by first | (simp; done) | (simp; omega))]; exact h.b6.r1, by rw [World.cell?_setCell_other _ _ _ _ (by first | (simp; done) | (simp; omega))]; exact h.b6.r2, by rw [World.cell?_setCell_other _ _ _ _ (by first | (simp; done) | (simp; omega))]; exact h.b6.r3, by rw [World.cell?_setCell_other _ _ _ _ (by first | (simp; done) | (simp; omega))]; exact h.b6.r4, fun i => by rw [World.frozen?_setCell]; exact h.b6.fz i⟩, h.ou.keep k (fun g hg c => by have := h.us g hg; omega), ⟨d.1, d.2.1, d.2.2.1, d.2.2.2.1, d.2.2.2.2.1, Nat.lt_of_lt_of_le d.2.2.2.2.2 k.size⟩, h.us, h.ns⟩
theorem SwA.set1 (h : SwA W w m S y B1 B2 N3 N4 N6 th vl o r u r0 r1 v) (e : Int) : SwA W (w.setCell ⟨N6, 1, none⟩ (.int .i64 e)) m S y B1 B2 N3 N4 N6 th vl o r u r0 e v := by
 have k := (Keep.refl (fun g => g = N6) w).setCell (p := ⟨N6, 1, none⟩) rfl (.int .i64 e)
 have d := h.or
 refine ⟨h.md.own k fun g hg => by rw [hg]; exact ⟨h.ns.2.2.2.2, by omega⟩, h.b1.keep k (by omega), h.b2.keep k (by omega), h.b3.keep k (by omega), h.b4.keep k (by omega), ⟨by rw [World.cell?_setCell_other _ _ _ _ (by first | (simp; done) | (simp; omega))]; exact h.b6.r0, World.cell?_setCell_same _ _ _ h.b6.r1, by rw [World.cell?_setCell_other _ _ _ _ (by first | (simp; done) | (simp; omega))]; exact h.b6.r2, by rw [World.cell?_setCell_other _ _ _ _ (by first | (simp; done) | (simp; omega))]; exact h.b6.r3, by rw [World.cell?_setCell_other _ _ _ _ (by first | (simp; done) | (simp; omega))]; exact h.b6.r4, fun i => by rw [World.frozen?_setCell]; exact h.b6.fz i⟩, h.ou.keep k (fun g hg c => by have := h.us g hg; omega), ⟨d.1, d.2.1, d.2.2.1, d.2.2.2.1, d.2.2.2.2.1, Nat.lt_of_lt_of_le d.2.2.2.2.2 k.size⟩, h.us, h.ns⟩
theorem SwA.setB (h : SwA W w m S y B1 B2 N3 N4 N6 th vl o r u r0 r1 v) {i : Nat} (hi : i < 64) (b : Bool) : SwA W (w.setCell ⟨B1, i, none⟩ (.bool b)) m S y B1 B2 N3 N4 N6 (put1 th i b) vl o r u r0 r1 v := by
 have k := (Keep.refl (fun g => g = B1) w).setCell (p := ⟨B1, i, none⟩) rfl (.bool b)
 have d := h.or
 refine ⟨h.md.own k fun g hg => by rw [hg]; exact ⟨h.ns.1, by omega⟩, h.b1.set i hi b, h.b2.keep k (by omega), h.b3.keep k (by omega), h.b4.keep k (by omega), h.b6.keep k (by omega), h.ou.keep k (fun g hg c => by have := h.us g hg; omega), ⟨d.1, d.2.1, d.2.2.1, d.2.2.2.1, d.2.2.2.2.1, Nat.lt_of_lt_of_le d.2.2.2.2.2 k.size⟩, h.us, h.ns⟩
theorem SwA.setV (h : SwA W w m S y B1 B2 N3 N4 N6 th vl o r u r0 r1 v) {i : Nat} (hi : i < 64) (b : Int) : SwA W (w.setCell ⟨B2, i, none⟩ (.int .i64 b)) m S y B1 B2 N3 N4 N6 th (put1 vl i b) o r u r0 r1 v := by
 have k := (Keep.refl (fun g => g = B2) w).setCell (p := ⟨B2, i, none⟩) rfl (.int .i64 b)
 have d := h.or
 refine ⟨h.md.own k fun g hg => by rw [hg]; exact ⟨h.ns.2.1, by omega⟩, h.b1.keep k (by omega), h.b2.set i hi b, h.b3.keep k (by omega), h.b4.keep k (by omega), h.b6.keep k (by omega), h.ou.keep k (fun g hg c => by have := h.us g hg; omega), ⟨d.1, d.2.1, d.2.2.1, d.2.2.2.1, d.2.2.2.2.1, Nat.lt_of_lt_of_le d.2.2.2.2.2 k.size⟩, h.us, h.ns⟩
theorem SwA.quiet (h : SwA W w m S y B1 B2 N3 N4 N6 th vl o r u r0 r1 v) (k : Keep (fun _ => False) w w') : SwA W w' m S y B1 B2 N3 N4 N6 th vl o r u r0 r1 v :=
 ⟨h.md.quiet k, h.b1.keep k id, h.b2.keep k id, h.b3.keep k id, h.b4.keep k id, h.b6.keep k id, h.ou.keep k (fun _ _ => id), ⟨h.or.1, h.or.2.1, h.or.2.2.1, h.or.2.2.2.1, h.or.2.2.2.2.1, Nat.lt_of_lt_of_le h.or.2.2.2.2.2 k.size⟩, h.us, h.ns⟩
/-- Blocks turn that were made since: v's own; then its place in the wanted result. -/
theorem SwA.push (h : SwA W w m S y B1 B2 N3 N4 N6 th vl o r u r0 r1 v) {T : Nat → Prop} (k : Keep T w w') (hT : ∀ g, T g → N6 < g ∧ ¬ S g) (v' : Value) : SwA W (w'.setCell ⟨N6, 2, none⟩ v') m S y B1 B2 N3 N4 N6 th vl o r u r0 r1 v' := by
 have d := h.or
 have q := (Keep.refl (fun g => g = N6) w').setCell (p := ⟨N6, 2, none⟩) rfl v'
 have K : Keep (fun g => T g ∨ g = N6) w (w'.setCell ⟨N6, 2, none⟩ v') := (k.mono fun _ hg => .inl hg).trans (q.mono fun _ hg => .inr hg)
 have no : ∀ g, g < N6 → ¬ (T g ∨ g = N6) := fun g hg c => by rcases c with c | c; have := (hT g c).1; omega; omega
 have n6 : ¬ T N6 := fun c => by have := (hT _ c).1; omega
 have b6 := h.b6.keep k n6
 refine ⟨h.md.own K fun g hg => ?_, h.b1.keep K (no _ (by omega)), h.b2.keep K (no _ (by omega)), h.b3.keep K (no _ (by omega)), h.b4.keep K (no _ (by omega)), ⟨by rw [World.cell?_setCell_other _ _ _ _ (by first | (simp; done) | (simp; omega))]; exact b6.r0, by rw [World.cell?_setCell_other _ _ _ _ (by first | (simp; done) | (simp; omega))]; exact b6.r1, World.cell?_setCell_same _ _ _ b6.r2, by rw [World.cell?_setCell_other _ _ _ _ (by first | (simp; done) | (simp; omega))]; exact b6.r3, by rw [World.cell?_setCell_other _ _ _ _ (by first | (simp; done) | (simp; omega))]; exact b6.r4, fun i => by rw [World.frozen?_setCell]; exact b6.fz i⟩, h.ou.keep K (fun g hg => no g (by have := h.us g hg; omega)), ⟨d.1, d.2.1, d.2.2.1, d.2.2.2.1, d.2.2.2.2.1, Nat.lt_of_lt_of_le d.2.2.2.2.2 K.size⟩, h.us, h.ns⟩
 rcases hg with c | c
 ·exact ⟨(hT g c).2, by have := (hT g c).1; omega⟩
 ·rw [c]; exact ⟨h.ns.2.2.2.2, by omega⟩
end
/-- Behind the switch: what is wanted is what was answered; the arrays are what one would write down. -/
def MidA (W : World) (m B1 B2 N3 N4 N6 : Nat) (l : Int) (n : Nat) (wx : World) : Prop :=
 ∃ (S : Nat → Prop) (y : MoI) (th : Nat → Bool) (vl : Nat → Int) (o : OpI) (r : ReI) (u v : Value), SwA W wx m S y B1 B2 N3 N4 N6 th vl o r u r.e r.val v ∧ OwnPr wx v r.pairs ∧ Al l n th vl y ∧ r.over = 0 ∧ r.reason = 0 ∧ r.pairs.length ≤ 64
theorem put1_id {α : Type} (f : Nat → α) (k : Nat) (a : α) (h : f k = a) : put1 f k a = f := by
 funext j
 by_cases c : j = k
 ·rw [c, put1_self, h]
 ·rw [put1_ne _ _ c]
noncomputable def cS : Code := (Try.f16.body.bind (blockIn 2)).getD .skip
set_option maxRecDepth 1000000 in
def PMS (W : World) (m B1 B2 N3 N4 N6 : Nat) (l : Int) (n : Nat) (kd : Int) (s0 s1 s2 s3 s4 s5 s6 s7 s8 s11 s12 s15 s18 s19 s20 s21 s22 s23 s24 s25 s26 s27 s28 s29 s30 s31 s32 s33 s34 s35 s36 s37 s38 s39 s40 s41 s42 s43 s44 s45 s46 s47 s48 s49 s50 s51 s52 s53 s54 s55 s56 s57 s58 s59 s60 s61 s62 s63 s64 s65 s66 s67 s68 s69 s70 s71 s72 s73 s74 s75 s76 s77 s78 s153 s154 s155 s156 s157 s158 s159 s160 s161 s162 s163 s164 s165 s166 s167 s168 s169 s170 s171 s172 s173 s174 s175 s176 s177 s178 s179 s180 s181 : Value) (a' : Act) (w' : World) : Prop :=
 ∃ u17 u80 u81 u82 u83 u84 u85 u86 u87 u88 u89 u90 u91 u92 u93 u94 u95 u96 u97 u98 u99 u100 u101 u102 u103 u104 u105 u106 u107 u108 u109 u110 u111 u112 u113 u114 u115 u116 u117 u118 u119 u120 u121 u122 u123 u124 u125 u126 u127 u128 u129 u130 u131 u132 u133 u134 u135 u136 u137 u138 u139 u140 u141 u142 u143 u144 u145 u146 u147 u148 u149 u150 u151 u152 : Value, MidA W m B1 B2 N3 N4 N6 l n w' ∧ a' = ⟨#[s0, s1, s2, s3, s4, s5, s6, s7, s8, .pointer (some ⟨B1, 0, none⟩), .pointer (some ⟨B2, 0, none⟩), s11, s12, .pointer (some ⟨N3, 0, none⟩), .pointer (some ⟨N4, 0, none⟩), s15, .pointer (some ⟨N6, 0, none⟩), u17, s18, s19, s20, s21, s22, s23, s24, s25, s26, s27, s28, s29, s30, s31, s32, s33, s34, s35, s36, s37, s38, s39, s40, s41, s42, s43, s44, s45, s46, s47, s48, s49, s50, s51, s52, s53, s54, s55, s56, s57, s58, s59, s60, s61, s62, s63, s64, s65, s66, s67, s68, s69, s70, s71, s72, s73, s74, s75, s76, s77, s78, .int .i64 kd, u80, u81, u82, u83, u84, u85, u86, u87, u88, u89, u90, u91, u92, u93, u94, u95, u96, u97, u98, u99, u100, u101, u102, u103, u104, u105, u106, u107, u108, u109, u110, u111, u112, u113, u114, u115, u116, u117, u118, u119, u120, u121, u122, u123, u124, u125, u126, u127, u128, u129, u130, u131, u132, u133, u134, u135, u136, u137, u138, u139, u140, u141, u142, u143, u144, u145, u146, u147, u148, u149, u150, u151, u152, s153, s154, s155, s156, s157, s158, s159, s160, s161, s162, s163, s164, s165, s166, s167, s168, s169, s170, s171, s172, s173, s174, s175, s176, s177, s178, s179, s180, s181], []⟩
end Go.Proofs.Ytkkjofefjepodaa.modelAlone
/- ModelAlone: its switch, the calls but the scan. Conditions: what the parts before it have laid. -/
namespace Go.Proofs.Ytkkjofefjepodaa.modelAlone
open Go.ChangeShapes Go.WideShapes Go.ChangeAt Go.RowKit
set_option linter.unusedVariables false
set_option linter.unusedSimpArgs false
section
variable {W V : World} {m B1 B2 N3 N4 N6 n k : Nat} {S : Nat → Prop} {y : MoI} {th : Nat → Bool} {vl : Nat → Int} {u : Value} {l vv : Int} {Q : Exit → Act → World → Prop} {J K : Act → World → Prop}
set_option maxRecDepth 1000000 in
set_option maxHeartbeats 8000000 in
theorem b1 { s0 s1 s2 s3 s4 s5 s6 s7 s8 s11 s12 s15 s17 s18 s19 s20 s21 s22 s23 s24 s25 s26 s27 s28 s29 s30 s31 s32 s33 s34 s35 s36 s37 s38 s39 s40 s41 s42 s43 s44 s45 s46 s47 s48 s49 s50 s51 s52 s53 s54 s55 s56 s57 s58 s59 s60 s61 s62 s63 s64 s65 s66 s67 s68 s69 s70 s71 s72 s73 s74 s75 s76 s77 s78 s80 s81 s82 s83 s84 s85 s86 s87 s88 s89 s90 s91 s92 s93 s94 s95 s96 s97 s98 s99 s100 s101 s102 s103 s104 s105 s106 s107 s108 s109 s110 s111 s112 s113 s114 s115 s116 s117 s118 s119 s120 s121 s122 s123 s124 s125 s126 s127 s128 s129 s130 s131 s132 s133 s134 s135 s136 s137 s138 s139 s140 s141 s142 s143 s144 s145 s146 s147 s148 s149 s150 s151 s152 s153 s154 s155 s156 s157 s158 s159 s160 s161 s162 s163 s164 s165 s166 s167 s168 s169 s170 s171 s172 s173 s174 s175 s176 s177 s178 s179 s180 s181 : Value} (hJ : ∀ a' w', PMS W m B1 B2 N3 N4 N6 l n 1 s0 s1 s2 s3 s4 s5 s6 s7 s8 s11 s12 s15 s18 s19 s20 s21 s22 s23 s24 s25 s26 s27 s28 s29 s30 s31 s32 s33 s34 s35 s36 s37 s38 s39 s40 s41 s42 s43 s44 s45 s46 s47 s48 s49 s50 s51 s52 s53 s54 s55 s56 s57 s58 s59 s60 s61 s62 s63 s64 s65 s66 s67 s68 s69 s70 s71 s72 s73 s74 s75 s76 s77 s78 s153 s154 s155 s156 s157 s158 s159 s160 s161 s162 s163 s164 s165 s166 s167 s168 s169 s170 s171 s172 s173 s174 s175 s176 s177 s178 s179 s180 s181 a' w' → J a' w') (hK : ∀ a' w', Met J a' w' → K a' w') (hQp : RowKit.Hid (∀ c a d v w, Q (.panic c) (a.put d v) w → Q (.panic c) a w)) (hk : k < 64)
    (H : SwA W V m S y B1 B2 N3 N4 N6 th vl ⟨1, k, 0, vv⟩ ⟨if th k = true then 0 else 11, if th k = true then vl k else 0, [], 0, 0⟩ u 0 0 (.slice none 0 0)) (A : Al l n th vl y) : Code.wp Try.prog cS (Exit.then K Q) ⟨#[s0, s1, s2, s3, s4, s5, s6, s7, s8, .pointer (some ⟨B1, 0, none⟩), .pointer (some ⟨B2, 0, none⟩), s11, s12, .pointer (some ⟨N3, 0, none⟩), .pointer (some ⟨N4, 0, none⟩), s15, .pointer (some ⟨N6, 0, none⟩), s17, s18, s19, s20, s21, s22, s23, s24, s25, s26, s27, s28, s29, s30, s31, s32, s33, s34, s35, s36, s37, s38, s39, s40, s41, s42, s43, s44, s45, s46, s47, s48, s49, s50, s51, s52, s53, s54, s55, s56, s57, s58, s59, s60, s61, s62, s63, s64, s65, s66, s67, s68, s69, s70, s71, s72, s73, s74, s75, s76, s77, s78, .int .i64 1, s80, s81, s82, s83, s84, s85, s86, s87, s88, s89, s90, s91, s92, s93, s94, s95, s96, s97, s98, s99, s100, s101, s102, s103, s104, s105, s106, s107, s108, s109, s110, s111, s112, s113, s114, s115, s116, s117, s118, s119, s120, s121, s122, s123, s124, s125, s126, s127, s128, s129, s130, s131, s132, s133, s134, s135, s136, s137, s138, s139, s140, s141, s142, s143, s144, s145, s146, s147, s148, s149, s150, s151, s152, s153, s154, s155, s156, s157, s158, s159, s160, s161, s162, s163, s164, s165, s166, s167, s168, s169, s170, s171, s172, s173, s174, s175, s176, s177, s178, s179, s180, s181], []⟩ V := by
  obtain ⟨o0, o1, o2, o3⟩ := H.b3; dsimp only at o0 o1 o2 o3; have q6 := H.b6.r0; have q61 := H.b6.r1; have f6 := H.b6.fz; have cb := H.b1.cell k hk; have cv := H.b2.cell k hk; have fb := H.b1.free; have fv := H.b2.free; have kz : (k : Int) < 64 := (by omega); have nn : B1 ≠ N3 ∧ B2 ≠ N3 ∧ B1 ≠ B2 ∧ N6 ≠ N3 ∧ N3 ≠ N6 ∧ N3 ≠ B1 := (by have := H.or; omega)
  conv => arg 2; whnf
  dsimp only
  cases t : th k with
  | true =>
    rw [t] at cb
    have H2 := H.set1 (vl k)
    obtain ⟨V2, eV⟩ : ∃ V2, V.setCell ⟨N6, 1, none⟩ (.int .i64 (vl k)) = V2 := ⟨_, rfl⟩
    rw [eV] at H2
    have HH := Lib.hid H2
    have HA := Lib.hid A
    clear H H2 A
    go_wp2_with fail
    go_meet
    case rel => exact ⟨S, y, th, vl, _, _, u, _, by have := HH.out; simp only [t, if_true] at this; exact this, OwnM.nil, HA.out, rfl, rfl, Nat.zero_le _⟩
  | false =>
    rw [t] at cb
    have H2 := H.set0 11
    obtain ⟨V2, eV⟩ : ∃ V2, V.setCell ⟨N6, 0, none⟩ (.int .i64 11) = V2 := ⟨_, rfl⟩
    rw [eV] at H2
    have HH := Lib.hid H2
    have HA := Lib.hid A
    clear H H2 A
    go_wp2_with fail
    go_meet
    case rel => exact ⟨S, y, th, vl, _, _, u, _, by have := HH.out; simp only [t] at this; exact this, OwnM.nil, HA.out, rfl, rfl, Nat.zero_le _⟩
set_option maxRecDepth 1000000 in
set_option maxHeartbeats 8000000 in
theorem b2 { s0 s1 s2 s3 s4 s5 s6 s7 s8 s11 s12 s15 s17 s18 s19 s20 s21 s22 s23 s24 s25 s26 s27 s28 s29 s30 s31 s32 s33 s34 s35 s36 s37 s38 s39 s40 s41 s42 s43 s44 s45 s46 s47 s48 s49 s50 s51 s52 s53 s54 s55 s56 s57 s58 s59 s60 s61 s62 s63 s64 s65 s66 s67 s68 s69 s70 s71 s72 s73 s74 s75 s76 s77 s78 s80 s81 s82 s83 s84 s85 s86 s87 s88 s89 s90 s91 s92 s93 s94 s95 s96 s97 s98 s99 s100 s101 s102 s103 s104 s105 s106 s107 s108 s109 s110 s111 s112 s113 s114 s115 s116 s117 s118 s119 s120 s121 s122 s123 s124 s125 s126 s127 s128 s129 s130 s131 s132 s133 s134 s135 s136 s137 s138 s139 s140 s141 s142 s143 s144 s145 s146 s147 s148 s149 s150 s151 s152 s153 s154 s155 s156 s157 s158 s159 s160 s161 s162 s163 s164 s165 s166 s167 s168 s169 s170 s171 s172 s173 s174 s175 s176 s177 s178 s179 s180 s181 : Value} (hJ : ∀ a' w', PMS W m B1 B2 N3 N4 N6 l n 2 s0 s1 s2 s3 s4 s5 s6 s7 s8 s11 s12 s15 s18 s19 s20 s21 s22 s23 s24 s25 s26 s27 s28 s29 s30 s31 s32 s33 s34 s35 s36 s37 s38 s39 s40 s41 s42 s43 s44 s45 s46 s47 s48 s49 s50 s51 s52 s53 s54 s55 s56 s57 s58 s59 s60 s61 s62 s63 s64 s65 s66 s67 s68 s69 s70 s71 s72 s73 s74 s75 s76 s77 s78 s153 s154 s155 s156 s157 s158 s159 s160 s161 s162 s163 s164 s165 s166 s167 s168 s169 s170 s171 s172 s173 s174 s175 s176 s177 s178 s179 s180 s181 a' w' → J a' w') (hK : ∀ a' w', Met J a' w' → K a' w') (hQp : RowKit.Hid (∀ c a d v w, Q (.panic c) (a.put d v) w → Q (.panic c) a w)) (hk : k < 64)
    (H : SwA W V m S y B1 B2 N3 N4 N6 th vl ⟨2, k, 0, vv⟩ ⟨wrE th 2 k, 0, [], 0, 0⟩ u 0 0 (.slice none 0 0)) (A : Al l n (wrT th 2 k) (wrV th vl 2 k vv) y) : Code.wp Try.prog cS (Exit.then K Q) ⟨#[s0, s1, s2, s3, s4, s5, s6, s7, s8, .pointer (some ⟨B1, 0, none⟩), .pointer (some ⟨B2, 0, none⟩), s11, s12, .pointer (some ⟨N3, 0, none⟩), .pointer (some ⟨N4, 0, none⟩), s15, .pointer (some ⟨N6, 0, none⟩), s17, s18, s19, s20, s21, s22, s23, s24, s25, s26, s27, s28, s29, s30, s31, s32, s33, s34, s35, s36, s37, s38, s39, s40, s41, s42, s43, s44, s45, s46, s47, s48, s49, s50, s51, s52, s53, s54, s55, s56, s57, s58, s59, s60, s61, s62, s63, s64, s65, s66, s67, s68, s69, s70, s71, s72, s73, s74, s75, s76, s77, s78, .int .i64 2, s80, s81, s82, s83, s84, s85, s86, s87, s88, s89, s90, s91, s92, s93, s94, s95, s96, s97, s98, s99, s100, s101, s102, s103, s104, s105, s106, s107, s108, s109, s110, s111, s112, s113, s114, s115, s116, s117, s118, s119, s120, s121, s122, s123, s124, s125, s126, s127, s128, s129, s130, s131, s132, s133, s134, s135, s136, s137, s138, s139, s140, s141, s142, s143, s144, s145, s146, s147, s148, s149, s150, s151, s152, s153, s154, s155, s156, s157, s158, s159, s160, s161, s162, s163, s164, s165, s166, s167, s168, s169, s170, s171, s172, s173, s174, s175, s176, s177, s178, s179, s180, s181], []⟩ V := by
  obtain ⟨o0, o1, o2, o3⟩ := H.b3; dsimp only at o0 o1 o2 o3; have q6 := H.b6.r0; have q61 := H.b6.r1; have f6 := H.b6.fz; have cb := H.b1.cell k hk; have cv := H.b2.cell k hk; have fb := H.b1.free; have fv := H.b2.free; have kz : (k : Int) < 64 := (by omega); have nn : B1 ≠ N3 ∧ B2 ≠ N3 ∧ B1 ≠ B2 ∧ N6 ≠ N3 ∧ N3 ≠ N6 ∧ N3 ≠ B1 := (by have := H.or; omega)
  conv => arg 2; whnf
  dsimp only
  cases t : th k with
  | true =>
    rw [t] at cb
    have H2 := H.set0 12
    obtain ⟨V2, eV2⟩ : ∃ V2, V.setCell ⟨N6, 0, none⟩ (.int .i64 12) = V2 := ⟨_, rfl⟩
    rw [eV2] at H2
    have hE : wrE th 2 k = 12 := by unfold wrE; simp [t]
    have hT : wrT th 2 k = th := by unfold wrT; simp; exact put1_id _ _ _ t
    have hV : wrV th vl 2 k vv = vl := by unfold wrV; simp [t]
    rw [hE] at H2
    rw [hT, hV] at A
    have HH := Lib.hid H2
    have HA := Lib.hid A
    clear A hE hT hV
    go_wp2_with fail
    go_meet
    case rel => exact ⟨S, y, _, _, _, _, u, _, HH.out, OwnM.nil, HA.out, rfl, rfl, Nat.zero_le _⟩
  | false =>
    rw [t] at cb
    have H2 := H.setB hk true
    obtain ⟨V2, eV2⟩ : ∃ V2, V.setCell ⟨B1, k, none⟩ (.bool true) = V2 := ⟨_, rfl⟩
    rw [eV2] at H2
    have o1b := H2.b3.o1
    have o3b := H2.b3.o3
    dsimp only at o1b o3b
    have cvb := H2.b2.cell k hk
    have fvb := H2.b2.free
    have H3 := H2.setV hk vv
    obtain ⟨V3, eV3⟩ : ∃ V3, V2.setCell ⟨B2, k, none⟩ (.int .i64 vv) = V3 := ⟨_, rfl⟩
    rw [eV3] at H3
    have hE : wrE th 2 k = 0 := by unfold wrE; simp [t]
    have hT : wrT th 2 k = put1 th k true := by unfold wrT; simp
    have hV : wrV th vl 2 k vv = put1 vl k vv := by unfold wrV; simp [t]
    rw [hE] at H3
    rw [hT, hV] at A
    have HH := Lib.hid H3
    have HA := Lib.hid A
    clear A hE hT hV
    go_wp2_with fail
    go_region
    go_wp2
    go_meet
    case rel => exact ⟨S, y, _, _, _, _, u, _, HH.out.quiet (Keep.refl _ _).drew, OwnM.nil, HA.out, rfl, rfl, Nat.zero_le _⟩
set_option maxRecDepth 1000000 in
set_option maxHeartbeats 8000000 in
theorem b3 { s0 s1 s2 s3 s4 s5 s6 s7 s8 s11 s12 s15 s17 s18 s19 s20 s21 s22 s23 s24 s25 s26 s27 s28 s29 s30 s31 s32 s33 s34 s35 s36 s37 s38 s39 s40 s41 s42 s43 s44 s45 s46 s47 s48 s49 s50 s51 s52 s53 s54 s55 s56 s57 s58 s59 s60 s61 s62 s63 s64 s65 s66 s67 s68 s69 s70 s71 s72 s73 s74 s75 s76 s77 s78 s80 s81 s82 s83 s84 s85 s86 s87 s88 s89 s90 s91 s92 s93 s94 s95 s96 s97 s98 s99 s100 s101 s102 s103 s104 s105 s106 s107 s108 s109 s110 s111 s112 s113 s114 s115 s116 s117 s118 s119 s120 s121 s122 s123 s124 s125 s126 s127 s128 s129 s130 s131 s132 s133 s134 s135 s136 s137 s138 s139 s140 s141 s142 s143 s144 s145 s146 s147 s148 s149 s150 s151 s152 s153 s154 s155 s156 s157 s158 s159 s160 s161 s162 s163 s164 s165 s166 s167 s168 s169 s170 s171 s172 s173 s174 s175 s176 s177 s178 s179 s180 s181 : Value} (hJ : ∀ a' w', PMS W m B1 B2 N3 N4 N6 l n 3 s0 s1 s2 s3 s4 s5 s6 s7 s8 s11 s12 s15 s18 s19 s20 s21 s22 s23 s24 s25 s26 s27 s28 s29 s30 s31 s32 s33 s34 s35 s36 s37 s38 s39 s40 s41 s42 s43 s44 s45 s46 s47 s48 s49 s50 s51 s52 s53 s54 s55 s56 s57 s58 s59 s60 s61 s62 s63 s64 s65 s66 s67 s68 s69 s70 s71 s72 s73 s74 s75 s76 s77 s78 s153 s154 s155 s156 s157 s158 s159 s160 s161 s162 s163 s164 s165 s166 s167 s168 s169 s170 s171 s172 s173 s174 s175 s176 s177 s178 s179 s180 s181 a' w' → J a' w') (hK : ∀ a' w', Met J a' w' → K a' w') (hQp : RowKit.Hid (∀ c a d v w, Q (.panic c) (a.put d v) w → Q (.panic c) a w)) (hk : k < 64)
    (H : SwA W V m S y B1 B2 N3 N4 N6 th vl ⟨3, k, 0, vv⟩ ⟨wrE th 3 k, 0, [], 0, 0⟩ u 0 0 (.slice none 0 0)) (A : Al l n (wrT th 3 k) (wrV th vl 3 k vv) y) : Code.wp Try.prog cS (Exit.then K Q) ⟨#[s0, s1, s2, s3, s4, s5, s6, s7, s8, .pointer (some ⟨B1, 0, none⟩), .pointer (some ⟨B2, 0, none⟩), s11, s12, .pointer (some ⟨N3, 0, none⟩), .pointer (some ⟨N4, 0, none⟩), s15, .pointer (some ⟨N6, 0, none⟩), s17, s18, s19, s20, s21, s22, s23, s24, s25, s26, s27, s28, s29, s30, s31, s32, s33, s34, s35, s36, s37, s38, s39, s40, s41, s42, s43, s44, s45, s46, s47, s48, s49, s50, s51, s52, s53, s54, s55, s56, s57, s58, s59, s60, s61, s62, s63, s64, s65, s66, s67, s68, s69, s70, s71, s72, s73, s74, s75, s76, s77, s78, .int .i64 3, s80, s81, s82, s83, s84, s85, s86, s87, s88, s89, s90, s91, s92, s93, s94, s95, s96, s97, s98, s99, s100, s101, s102, s103, s104, s105, s106, s107, s108, s109, s110, s111, s112, s113, s114, s115, s116, s117, s118, s119, s120, s121, s122, s123, s124, s125, s126, s127, s128, s129, s130, s131, s132, s133, s134, s135, s136, s137, s138, s139, s140, s141, s142, s143, s144, s145, s146, s147, s148, s149, s150, s151, s152, s153, s154, s155, s156, s157, s158, s159, s160, s161, s162, s163, s164, s165, s166, s167, s168, s169, s170, s171, s172, s173, s174, s175, s176, s177, s178, s179, s180, s181], []⟩ V := by
  obtain ⟨o0, o1, o2, o3⟩ := H.b3; dsimp only at o0 o1 o2 o3; have q6 := H.b6.r0; have q61 := H.b6.r1; have f6 := H.b6.fz; have cb := H.b1.cell k hk; have cv := H.b2.cell k hk; have fb := H.b1.free; have fv := H.b2.free; have kz : (k : Int) < 64 := (by omega); have nn : B1 ≠ N3 ∧ B2 ≠ N3 ∧ B1 ≠ B2 ∧ N6 ≠ N3 ∧ N3 ≠ N6 ∧ N3 ≠ B1 := (by have := H.or; omega)
  conv => arg 2; whnf
  dsimp only
  cases t : th k with
  | true =>
    rw [t] at cb
    have H2 := H.setV hk vv
    obtain ⟨V2, eV2⟩ : ∃ V2, V.setCell ⟨B2, k, none⟩ (.int .i64 vv) = V2 := ⟨_, rfl⟩
    rw [eV2] at H2
    have hE : wrE th 3 k = 0 := by unfold wrE; simp [t]
    have hT : wrT th 3 k = th := by unfold wrT; simp
    have hV : wrV th vl 3 k vv = put1 vl k vv := by unfold wrV; simp [t]
    rw [hE] at H2
    rw [hT, hV] at A
    have HH := Lib.hid H2
    have HA := Lib.hid A
    clear A hE hT hV
    go_wp2_with fail
    go_meet
    case rel => exact ⟨S, y, _, _, _, _, u, _, HH.out, OwnM.nil, HA.out, rfl, rfl, Nat.zero_le _⟩
  | false =>
    rw [t] at cb
    have H2 := H.set0 11
    obtain ⟨V2, eV2⟩ : ∃ V2, V.setCell ⟨N6, 0, none⟩ (.int .i64 11) = V2 := ⟨_, rfl⟩
    rw [eV2] at H2
    have hE : wrE th 3 k = 11 := by unfold wrE; simp [t]
    have hT : wrT th 3 k = th := by unfold wrT; simp
    have hV : wrV th vl 3 k vv = vl := by unfold wrV; simp [t]
    rw [hE] at H2
    rw [hT, hV] at A
    have HH := Lib.hid H2
    have HA := Lib.hid A
    clear A hE hT hV
    go_wp2_with fail
    go_meet
    case rel => exact ⟨S, y, _, _, _, _, u, _, HH.out, OwnM.nil, HA.out, rfl, rfl, Nat.zero_le _⟩
set_option maxRecDepth 1000000 in
set_option maxHeartbeats 8000000 in
theorem b4 { s0 s1 s2 s3 s4 s5 s6 s7 s8 s11 s12 s15 s17 s18 s19 s20 s21 s22 s23 s24 s25 s26 s27 s28 s29 s30 s31 s32 s33 s34 s35 s36 s37 s38 s39 s40 s41 s42 s43 s44 s45 s46 s47 s48 s49 s50 s51 s52 s53 s54 s55 s56 s57 s58 s59 s60 s61 s62 s63 s64 s65 s66 s67 s68 s69 s70 s71 s72 s73 s74 s75 s76 s77 s78 s80 s81 s82 s83 s84 s85 s86 s87 s88 s89 s90 s91 s92 s93 s94 s95 s96 s97 s98 s99 s100 s101 s102 s103 s104 s105 s106 s107 s108 s109 s110 s111 s112 s113 s114 s115 s116 s117 s118 s119 s120 s121 s122 s123 s124 s125 s126 s127 s128 s129 s130 s131 s132 s133 s134 s135 s136 s137 s138 s139 s140 s141 s142 s143 s144 s145 s146 s147 s148 s149 s150 s151 s152 s153 s154 s155 s156 s157 s158 s159 s160 s161 s162 s163 s164 s165 s166 s167 s168 s169 s170 s171 s172 s173 s174 s175 s176 s177 s178 s179 s180 s181 : Value} (hJ : ∀ a' w', PMS W m B1 B2 N3 N4 N6 l n 4 s0 s1 s2 s3 s4 s5 s6 s7 s8 s11 s12 s15 s18 s19 s20 s21 s22 s23 s24 s25 s26 s27 s28 s29 s30 s31 s32 s33 s34 s35 s36 s37 s38 s39 s40 s41 s42 s43 s44 s45 s46 s47 s48 s49 s50 s51 s52 s53 s54 s55 s56 s57 s58 s59 s60 s61 s62 s63 s64 s65 s66 s67 s68 s69 s70 s71 s72 s73 s74 s75 s76 s77 s78 s153 s154 s155 s156 s157 s158 s159 s160 s161 s162 s163 s164 s165 s166 s167 s168 s169 s170 s171 s172 s173 s174 s175 s176 s177 s178 s179 s180 s181 a' w' → J a' w') (hK : ∀ a' w', Met J a' w' → K a' w') (hQp : RowKit.Hid (∀ c a d v w, Q (.panic c) (a.put d v) w → Q (.panic c) a w)) (hk : k < 64)
    (H : SwA W V m S y B1 B2 N3 N4 N6 th vl ⟨4, k, 0, vv⟩ ⟨wrE th 4 k, 0, [], 0, 0⟩ u 0 0 (.slice none 0 0)) (A : Al l n (wrT th 4 k) (wrV th vl 4 k vv) y) : Code.wp Try.prog cS (Exit.then K Q) ⟨#[s0, s1, s2, s3, s4, s5, s6, s7, s8, .pointer (some ⟨B1, 0, none⟩), .pointer (some ⟨B2, 0, none⟩), s11, s12, .pointer (some ⟨N3, 0, none⟩), .pointer (some ⟨N4, 0, none⟩), s15, .pointer (some ⟨N6, 0, none⟩), s17, s18, s19, s20, s21, s22, s23, s24, s25, s26, s27, s28, s29, s30, s31, s32, s33, s34, s35, s36, s37, s38, s39, s40, s41, s42, s43, s44, s45, s46, s47, s48, s49, s50, s51, s52, s53, s54, s55, s56, s57, s58, s59, s60, s61, s62, s63, s64, s65, s66, s67, s68, s69, s70, s71, s72, s73, s74, s75, s76, s77, s78, .int .i64 4, s80, s81, s82, s83, s84, s85, s86, s87, s88, s89, s90, s91, s92, s93, s94, s95, s96, s97, s98, s99, s100, s101, s102, s103, s104, s105, s106, s107, s108, s109, s110, s111, s112, s113, s114, s115, s116, s117, s118, s119, s120, s121, s122, s123, s124, s125, s126, s127, s128, s129, s130, s131, s132, s133, s134, s135, s136, s137, s138, s139, s140, s141, s142, s143, s144, s145, s146, s147, s148, s149, s150, s151, s152, s153, s154, s155, s156, s157, s158, s159, s160, s161, s162, s163, s164, s165, s166, s167, s168, s169, s170, s171, s172, s173, s174, s175, s176, s177, s178, s179, s180, s181], []⟩ V := by
  obtain ⟨o0, o1, o2, o3⟩ := H.b3; dsimp only at o0 o1 o2 o3; have q6 := H.b6.r0; have q61 := H.b6.r1; have f6 := H.b6.fz; have cb := H.b1.cell k hk; have cv := H.b2.cell k hk; have fb := H.b1.free; have fv := H.b2.free; have kz : (k : Int) < 64 := (by omega); have nn : B1 ≠ N3 ∧ B2 ≠ N3 ∧ B1 ≠ B2 ∧ N6 ≠ N3 ∧ N3 ≠ N6 ∧ N3 ≠ B1 := (by have := H.or; omega)
  conv => arg 2; whnf
  dsimp only
  cases t : th k with
  | true =>
    rw [t] at cb
    have H2 := H.setB hk false
    obtain ⟨V2, eV2⟩ : ∃ V2, V.setCell ⟨B1, k, none⟩ (.bool false) = V2 := ⟨_, rfl⟩
    rw [eV2] at H2
    have hE : wrE th 4 k = 0 := by unfold wrE; simp [t]
    have hT : wrT th 4 k = put1 th k false := by unfold wrT; simp
    have hV : wrV th vl 4 k vv = vl := by unfold wrV; simp [t]
    rw [hE] at H2
    rw [hT, hV] at A
    have HH := Lib.hid H2
    have HA := Lib.hid A
    clear A hE hT hV
    go_wp2_with fail
    go_meet
    case rel => exact ⟨S, y, _, _, _, _, u, _, HH.out, OwnM.nil, HA.out, rfl, rfl, Nat.zero_le _⟩
  | false =>
    rw [t] at cb
    have H2 := H.set0 11
    obtain ⟨V2, eV2⟩ : ∃ V2, V.setCell ⟨N6, 0, none⟩ (.int .i64 11) = V2 := ⟨_, rfl⟩
    rw [eV2] at H2
    have o1b := H2.b3.o1
    have cbb := H2.b1.cell k hk
    have fbb := H2.b1.free
    dsimp only at o1b
    have H3 := H2.setB hk false
    obtain ⟨V3, eV3⟩ : ∃ V3, V2.setCell ⟨B1, k, none⟩ (.bool false) = V3 := ⟨_, rfl⟩
    rw [eV3] at H3
    have hE : wrE th 4 k = 11 := by unfold wrE; simp [t]
    have hT : wrT th 4 k = put1 th k false := by unfold wrT; simp
    have hV : wrV th vl 4 k vv = vl := by unfold wrV; simp [t]
    rw [hE] at H3
    rw [hT, hV] at A
    have HH := Lib.hid H3
    have HA := Lib.hid A
    clear A hE hT hV
    go_wp2_with fail
    go_meet
    case rel => exact ⟨S, y, _, _, _, _, u, _, HH.out, OwnM.nil, HA.out, rfl, rfl, Nat.zero_le _⟩
end
end Go.Proofs.Ytkkjofefjepodaa.modelAlone
/- ModelAlone: its switch, the scan. Conditions: what the parts before it have laid. -/
namespace Go.Proofs.Ytkkjofefjepodaa.modelAlone
open Go.ChangeShapes Go.WideShapes Go.ChangeAt Go.RowKit
set_option linter.unusedVariables false
set_option linter.unusedSimpArgs false
def preN (th : Nat → Bool) (vl : Nat → Int) (lo j : Nat) : List (Int × Int) := (List.range j).flatMap fun i => if th (lo + i) = true then [(((lo + i : Nat) : Int), vl (lo + i))] else []
theorem pre_succ (th : Nat → Bool) (vl : Nat → Int) (lo j : Nat) : preN th vl lo (j + 1) = preN th vl lo j ++ if th (lo + j) = true then [(((lo + j : Nat) : Int), vl (lo + j))] else [] := by
 unfold preN
 rw [List.range_succ, List.flatMap_append]
 simp
theorem pre_pairs (th : Nat → Bool) (vl : Nat → Int) (lo hi : Nat) : pairsN th vl lo hi = preN th vl lo (hi + 1 - lo) := by
 unfold pairsN keysN preN
 rw [List.flatMap_map]
theorem pre_len (th : Nat → Bool) (vl : Nat → Int) (lo j : Nat) : (preN th vl lo j).length ≤ j := by
  induction j with
  | zero => exact Nat.le_refl _
  | succ j ih =>
    rw [pre_succ, List.length_append]
    split
    · simp; omega
    · simp; omega
def RelK (W V : World) (m : Nat) (S : Nat → Prop) (y : MoI) (B1 B2 N3 N4 N6 : Nat) (th : Nat → Bool) (vl : Nat → Int) (o : OpI) (r : ReI) (u : Value) (lo hi j : Nat) (kv : Value) (wx : World) : Prop :=
 ∃ v, lo + j ≤ hi + 1 ∧ kv = .int .i64 ((lo + j : Nat) : Int) ∧ SwA W wx m S y B1 B2 N3 N4 N6 th vl o r u 0 0 v ∧ OwnPr wx v (preN th vl lo j) ∧ (∀ g, v.ownBlock = some g → V.heap.size ≤ g) ∧ V.heap.size ≤ wx.heap.size
section
variable {W V : World} {m B1 B2 N3 N4 N6 n lo hi : Nat} {S : Nat → Prop} {y : MoI} {th : Nat → Bool} {vl : Nat → Int} {u : Value} {l vv : Int} {Q : Exit → Act → World → Prop} {J K : Act → World → Prop}
set_option maxRecDepth 1000000 in
set_option maxHeartbeats 8000000 in
theorem b5 { s0 s1 s2 s3 s4 s5 s6 s7 s8 s11 s12 s15 s17 s18 s19 s20 s21 s22 s23 s24 s25 s26 s27 s28 s29 s30 s31 s32 s33 s34 s35 s36 s37 s38 s39 s40 s41 s42 s43 s44 s45 s46 s47 s48 s49 s50 s51 s52 s53 s54 s55 s56 s57 s58 s59 s60 s61 s62 s63 s64 s65 s66 s67 s68 s69 s70 s71 s72 s73 s74 s75 s76 s77 s78 s80 s81 s82 s83 s84 s85 s86 s87 s88 s89 s90 s91 s92 s93 s94 s95 s96 s97 s98 s99 s100 s101 s102 s103 s104 s105 s106 s107 s108 s109 s110 s111 s112 s113 s114 s115 s116 s117 s118 s119 s120 s121 s122 s123 s124 s125 s126 s127 s128 s129 s130 s131 s132 s133 s134 s135 s136 s137 s138 s139 s140 s141 s142 s143 s144 s145 s146 s147 s148 s149 s150 s151 s152 s153 s154 s155 s156 s157 s158 s159 s160 s161 s162 s163 s164 s165 s166 s167 s168 s169 s170 s171 s172 s173 s174 s175 s176 s177 s178 s179 s180 s181 : Value} (hJ : ∀ a' w', PMS W m B1 B2 N3 N4 N6 l n 5 s0 s1 s2 s3 s4 s5 s6 s7 s8 s11 s12 s15 s18 s19 s20 s21 s22 s23 s24 s25 s26 s27 s28 s29 s30 s31 s32 s33 s34 s35 s36 s37 s38 s39 s40 s41 s42 s43 s44 s45 s46 s47 s48 s49 s50 s51 s52 s53 s54 s55 s56 s57 s58 s59 s60 s61 s62 s63 s64 s65 s66 s67 s68 s69 s70 s71 s72 s73 s74 s75 s76 s77 s78 s153 s154 s155 s156 s157 s158 s159 s160 s161 s162 s163 s164 s165 s166 s167 s168 s169 s170 s171 s172 s173 s174 s175 s176 s177 s178 s179 s180 s181 a' w' → J a' w') (hK : ∀ a' w', Met J a' w' → K a' w') (hQp : RowKit.Hid (∀ c a d v w, Q (.panic c) (a.put d v) w → Q (.panic c) a w)) (hl : lo ≤ hi) (hh : hi < 64)
    (H : SwA W V m S y B1 B2 N3 N4 N6 th vl ⟨5, lo, hi, 0⟩ ⟨0, 0, pairsN th vl lo hi, 0, 0⟩ u 0 0 (.slice none 0 0)) (A : Al l n th vl y) : Code.wp Try.prog cS (Exit.then K Q) ⟨#[s0, s1, s2, s3, s4, s5, s6, s7, s8, .pointer (some ⟨B1, 0, none⟩), .pointer (some ⟨B2, 0, none⟩), s11, s12, .pointer (some ⟨N3, 0, none⟩), .pointer (some ⟨N4, 0, none⟩), s15, .pointer (some ⟨N6, 0, none⟩), s17, s18, s19, s20, s21, s22, s23, s24, s25, s26, s27, s28, s29, s30, s31, s32, s33, s34, s35, s36, s37, s38, s39, s40, s41, s42, s43, s44, s45, s46, s47, s48, s49, s50, s51, s52, s53, s54, s55, s56, s57, s58, s59, s60, s61, s62, s63, s64, s65, s66, s67, s68, s69, s70, s71, s72, s73, s74, s75, s76, s77, s78, .int .i64 5, s80, s81, s82, s83, s84, s85, s86, s87, s88, s89, s90, s91, s92, s93, s94, s95, s96, s97, s98, s99, s100, s101, s102, s103, s104, s105, s106, s107, s108, s109, s110, s111, s112, s113, s114, s115, s116, s117, s118, s119, s120, s121, s122, s123, s124, s125, s126, s127, s128, s129, s130, s131, s132, s133, s134, s135, s136, s137, s138, s139, s140, s141, s142, s143, s144, s145, s146, s147, s148, s149, s150, s151, s152, s153, s154, s155, s156, s157, s158, s159, s160, s161, s162, s163, s164, s165, s166, s167, s168, s169, s170, s171, s172, s173, s174, s175, s176, s177, s178, s179, s180, s181], []⟩ V := by
  have HS : ∀ g, S g → g < V.heap.size := H.md.lt
  have HA := Lib.hid A
  obtain ⟨o0, o1, o2, o3⟩ := H.b3
  dsimp only at o0 o1 o2 o3
  have HH := Lib.hid H
  clear A H
  conv => arg 2; whnf
  dsimp only
  go_wp2
  go_loopg [17] 65 (fun mm kv wx => ∃ j : Nat, mm + j = 65 ∧ RelK W V m S y B1 B2 N3 N4 N6 th vl ⟨5, lo, hi, 0⟩ ⟨0, 0, pairsN th vl lo hi, 0, 0⟩ u lo hi j kv wx)
  case atStart => exact ⟨0, by omega, _, by omega, by simp, HH.out, OwnM.nil, (fun g hg => by cases hg), Nat.le_refl _⟩
  case round =>
    obtain ⟨j, hgj, v, hj, rfl, R, ov, hv, hz⟩ := hrel
    clear o0 o1 o2 o3
    obtain ⟨o0, o1, o2, o3⟩ := R.b3
    dsimp only at o0 o1 o2 o3
    obtain ⟨k, hk⟩ : ∃ k, lo + j = k := ⟨_, rfl⟩
    rw [hk] at hj ⊢
    by_cases hlt : k ≤ hi
    · have dk : decide ((k : Int) ≤ hi) = true := decide_eq_true (by omega)
      have wk : IntKind.i64.wrap ((k : Int) + 1) = (k : Int) + 1 := IntWalk.i64_in _ (by omega)
      have k64 : k < 64 := by omega
      have kz : (k : Int) < 64 := by omega
      have cb := R.b1.cell k k64
      have cv := R.b2.cell k k64
      cases t : th k with
      | false =>
        rw [t] at cb
        go_wp2_with fail
        go_roundg (65 - (j + 1))
        case measure => omega
        case rel => exact ⟨j + 1, by omega, v, by omega, by rw [show lo + (j + 1) = k + 1 by omega]; go_num, R, by rw [pre_succ, hk, t]; simpa using ov, hv, hz⟩
      | true =>
        rw [t] at cb
        have c6 := R.b6.r2
        have R' := R.quiet (Keep.refl (fun _ => False) wr).drew
        have ov' := ov.keep (Keep.refl (fun _ => False) wr).drew (fun _ _ => id)
        have hz' : V.heap.size ≤ wr.drew.heap.size := hz
        have L5 : (preN th vl lo j).length ≤ 100000 := by have := pre_len th vl lo j; omega
        go_wp2_with fail
        clear o0 o1 o2 o3 cb
        refine wp_region_held_drew (S := fun w' => w'.cell? ⟨B2, k, none⟩ = some (.int .i64 (vl k))) (by kernel_rfl) cv (fun hHeld => ?_)
        obtain ⟨wd, ewd⟩ : ∃ wd, wr.drew = wd := ⟨_, rfl⟩
        have c6' := R'.b6.r2
        rw [ewd] at hHeld R' ov' hz' c6' ⊢
        have k6 : Keep (fun _ => False) wd (wd.alloc (.cells #[.int .i64 k, .int .i64 (vl k)] 53)) := (Keep.refl _ _).alloc _
        have c6a := k6.cell c6' id
        clear ewd R ov hz c6 cv
        refine wpAnyH_take (i := 0) (v := ?qvu0) rfl (by kernel_rfl) (by kernel_rfl) (by kernel_rfl) (by intro _ _ _ h; exact hQp.out _ _ _ _ _ h) (Or.inl ⟨by rfl, ?qyu0⟩) (by assumption) ?qru0; case qyu0 => ((intro w hSw; (try dsimp only at hSw); go_simp); try (with_reducible rfl))
        ((try simp only [List.getElem_toArray]); (try simp only [List.getElem_cons_succ]); (try simp only [List.getElem_cons_zero]); (try simp only [Act.put]); (try simp only [List.setIfInBounds_toArray]); (try simp only [List.set_cons_succ]); (try simp only [List.set_cons_zero]))
        refine wpAnyH_take (i := 2) (v := ?qvu1) rfl (by kernel_rfl) (by kernel_rfl) (by kernel_rfl) (by intro _ _ _ h; exact hQp.out _ _ _ _ _ h) (Or.inl ⟨by rfl, ?qyu1⟩) (by assumption) ?qru1; case qyu1 => ((intro w hSw; (try dsimp only at hSw); go_simp); try (with_reducible rfl))
        ((try simp only [List.getElem_toArray]); (try simp only [List.getElem_cons_succ]); (try simp only [List.getElem_cons_zero]); (try simp only [Act.put]); (try simp only [List.setIfInBounds_toArray]); (try simp only [List.set_cons_succ]); (try simp only [List.set_cons_zero]))
        refine wpAnyH_take (i := 3) (v := ?qvu2) rfl (by kernel_rfl) (by kernel_rfl) (by kernel_rfl) (by intro _ _ _ h; exact hQp.out _ _ _ _ _ h) (Or.inl ⟨by rfl, ?qyu2⟩) (by assumption) ?qru2; case qyu2 => ((intro w hSw; (try dsimp only at hSw); go_simp); try (with_reducible rfl))
        ((try simp only [List.getElem_toArray]); (try simp only [List.getElem_cons_succ]); (try simp only [List.getElem_cons_zero]); (try simp only [Act.put]); (try simp only [List.setIfInBounds_toArray]); (try simp only [List.set_cons_succ]); (try simp only [List.set_cons_zero]))
        refine wpAnyH_take (i := 4) (v := ?qvu3) rfl (by kernel_rfl) (by kernel_rfl) (by kernel_rfl) (by intro _ _ _ h; exact hQp.out _ _ _ _ _ h) (Or.inl ⟨by rfl, ?qyu3⟩) (by assumption) ?qru3; case qyu3 => ((intro w hSw; (try dsimp only at hSw); go_simp); try (with_reducible rfl))
        ((try simp only [List.getElem_toArray]); (try simp only [List.getElem_cons_succ]); (try simp only [List.getElem_cons_zero]); (try simp only [Act.put]); (try simp only [List.setIfInBounds_toArray]); (try simp only [List.set_cons_succ]); (try simp only [List.set_cons_zero]))
        refine wpAnyH_take (i := 5) (v := ?qvu4) rfl (by kernel_rfl) (by kernel_rfl) (by kernel_rfl) (by intro _ _ _ h; exact hQp.out _ _ _ _ _ h) (Or.inl ⟨by rfl, ?qyu4⟩) (by assumption) ?qru4; case qyu4 => ((intro w hSw; (try dsimp only at hSw); go_simp); try (with_reducible rfl))
        ((try simp only [List.getElem_toArray]); (try simp only [List.getElem_cons_succ]); (try simp only [List.getElem_cons_zero]); (try simp only [Act.put]); (try simp only [List.setIfInBounds_toArray]); (try simp only [List.set_cons_succ]); (try simp only [List.set_cons_zero]))
        refine wpAnyH_take (i := 6) (v := ?qvu5) rfl (by kernel_rfl) (by kernel_rfl) (by kernel_rfl) (by intro _ _ _ h; exact hQp.out _ _ _ _ _ h) (Or.inl ⟨by rfl, ?qyu5⟩) (by assumption) ?qru5; case qyu5 => ((intro w hSw; (try dsimp only at hSw); go_simp); try (with_reducible rfl))
        ((try simp only [List.getElem_toArray]); (try simp only [List.getElem_cons_succ]); (try simp only [List.getElem_cons_zero]); (try simp only [Act.put]); (try simp only [List.setIfInBounds_toArray]); (try simp only [List.set_cons_succ]); (try simp only [List.set_cons_zero]))
        refine wpAnyH_ready (rs := [1, 7]) (by kernel_rfl) (by simp) ?_
        refine AllReadyH.cons rfl (fun K hK => ?_) (AllReadyH.cons rfl (fun K hK => ?_) AllReadyH.nil)
        · go_simp
          refine hK.out _ _ hHeld (fun hHeld => ?_)
          clear hK K
          ((try simp only [List.getElem_toArray]); (try simp only [List.getElem_cons_succ]); (try simp only [List.getElem_cons_zero]); (try simp only [Act.put]); (try simp only [List.setIfInBounds_toArray]); (try simp only [List.set_cons_succ]); (try simp only [List.set_cons_zero]))
          refine wpAnyH_ready (rs := [7]) (by kernel_rfl) (by simp) ?_
          refine AllReadyH.cons rfl (fun K hK => ?_) AllReadyH.nil
          go_simp
          refine hK.out _ _ (k6.cell hHeld id) (fun hHeld => ?_)
          clear hK K
          ((try simp only [List.getElem_toArray]); (try simp only [List.getElem_cons_succ]); (try simp only [List.getElem_cons_zero]); (try simp only [Act.put]); (try simp only [List.setIfInBounds_toArray]); (try simp only [List.set_cons_succ]); (try simp only [List.set_cons_zero]))
          refine wpAnyH_ready (rs := [8]) (by kernel_rfl) (by simp) ?_
          refine AllReadyH.cons rfl (fun K hK => ?_) AllReadyH.nil
          refine step_pushM Try.underlying28 info_pr rfl (by decide) (by decide) prI_len (by intro p q hq; simp only [prI, List.mem_cons, List.not_mem_nil, or_false] at hq; rcases hq with rfl | rfl <;> rfl) rfl (.tmp 144) (.tmp 150) rfl v (preN th vl lo j) (by rfl) ov' ((k : Int), vl k) (by rfl) L5 ?_
          intro g c w8 o8' k8 hg
          have hvg : V.heap.size ≤ g := by rcases hg with q | q; exact hv g q; omega
          have hT : ∀ g, v.ownBlock = some g → N6 < g ∧ ¬ S g := fun g hg => ⟨by have := hv g hg; have := HH.out.or; omega, fun c => by have := HS g c; have := hv g hg; omega⟩
          have n6 : ¬ v.ownBlock = some N6 := fun c => by have := (hT N6 c).1; omega
          have nB : ¬ v.ownBlock = some B2 := fun c => by have := (hT B2 c).1; have := R'.or; omega
          have q6 := k8.cell R'.b6.r2 n6
          have z6 : ∀ i, w8.frozen? ⟨N6, i, none⟩ = false := fun i => (k8.frozen (a := ⟨N6, i, none⟩) (show N6 < wd.heap.size from lt_of_cell (a := ⟨N6, 2, none⟩) R'.b6.r2) n6).trans (R'.b6.fz i)
          have R8 := R'.push k8 hT (.slice (some ⟨g, 0, none⟩) ((preN th vl lo j).length + 1) c)
          have gN : g ≠ N6 := by have := HH.out.or; omega
          have o8 := o8'.keep ((Keep.refl (fun g => g = N6) w8).setCell (p := ⟨N6, 2, none⟩) rfl (.slice (some ⟨g, 0, none⟩) ((preN th vl lo j).length + 1) c)) (fun g' hg' => by cases hg'; exact gN)
          have s8 := k8.size
          have cB8 := k8.cell (R'.b2.cell k k64) nB
          refine hK.out _ _ cB8 (fun hHeld => ?_)
          clear hK K
          ((try simp only [List.getElem_toArray]); (try simp only [List.getElem_cons_succ]); (try simp only [List.getElem_cons_zero]); (try simp only [Act.put]); (try simp only [List.setIfInBounds_toArray]); (try simp only [List.set_cons_succ]); (try simp only [List.set_cons_zero]))
          refine wpAnyH_take (i := 9) (v := ?qvu6) rfl (by kernel_rfl) (by kernel_rfl) (by kernel_rfl) (by intro _ _ _ h; exact hQp.out _ _ _ _ _ h) (Or.inl ⟨by rfl, ?qyu6⟩) (by assumption) ?qru6; case qyu6 => ((intro w hSw; (try dsimp only at hSw); go_simp); try (with_reducible rfl))
          ((try simp only [List.getElem_toArray]); (try simp only [List.getElem_cons_succ]); (try simp only [List.getElem_cons_zero]); (try simp only [Act.put]); (try simp only [List.setIfInBounds_toArray]); (try simp only [List.set_cons_succ]); (try simp only [List.set_cons_zero]))
          refine wpAnyH_ready (rs := [10]) (by kernel_rfl) (by simp) ?_
          refine AllReadyH.cons rfl (fun K hK => ?_) AllReadyH.nil
          go_simp
          go_simp
          refine hK.out _ _ (by rw [World.cell?_setCell_other _ _ _ _ (by simp; have := HH.out.or; omega)]; exact hHeld) (fun hHeld => ?_)
          clear hK K
          ((try simp only [List.getElem_toArray]); (try simp only [List.getElem_cons_succ]); (try simp only [List.getElem_cons_zero]); (try simp only [Act.put]); (try simp only [List.setIfInBounds_toArray]); (try simp only [List.set_cons_succ]); (try simp only [List.set_cons_zero]))
          refine wpAnyH_done (by kernel_rfl) ?_ _
          go_wp2_with fail
          go_roundg (65 - (j + 1))
          case measure => omega
          case rel => exact ⟨j + 1, by omega, _, by omega, by rw [show lo + (j + 1) = k + 1 by omega]; go_num, R8, by rw [pre_succ, hk, t, if_pos rfl]; exact o8, (fun g' hg' => by cases hg'; exact hvg), by have q8 := ((Keep.refl (fun g => g = N6) w8).setCell (p := ⟨N6, 2, none⟩) rfl (.slice (some ⟨g, 0, none⟩) ((preN th vl lo j).length + 1) c)).size; omega⟩
        · go_simp
          refine hK.out _ _ (k6.cell hHeld id) (fun hHeld => ?_)
          clear hK K
          ((try simp only [List.getElem_toArray]); (try simp only [List.getElem_cons_succ]); (try simp only [List.getElem_cons_zero]); (try simp only [Act.put]); (try simp only [List.setIfInBounds_toArray]); (try simp only [List.set_cons_succ]); (try simp only [List.set_cons_zero]))
          refine wpAnyH_ready (rs := [1]) (by kernel_rfl) (by simp) ?_
          refine AllReadyH.cons rfl (fun K hK => ?_) AllReadyH.nil
          go_simp
          refine hK.out _ _ hHeld (fun hHeld => ?_)
          clear hK K
          ((try simp only [List.getElem_toArray]); (try simp only [List.getElem_cons_succ]); (try simp only [List.getElem_cons_zero]); (try simp only [Act.put]); (try simp only [List.setIfInBounds_toArray]); (try simp only [List.set_cons_succ]); (try simp only [List.set_cons_zero]))
          refine wpAnyH_ready (rs := [8]) (by kernel_rfl) (by simp) ?_
          refine AllReadyH.cons rfl (fun K hK => ?_) AllReadyH.nil
          refine step_pushM Try.underlying28 info_pr rfl (by decide) (by decide) prI_len (by intro p q hq; simp only [prI, List.mem_cons, List.not_mem_nil, or_false] at hq; rcases hq with rfl | rfl <;> rfl) rfl (.tmp 144) (.tmp 150) rfl v (preN th vl lo j) (by rfl) ov' ((k : Int), vl k) (by rfl) L5 ?_
          intro g c w8 o8' k8 hg
          have hvg : V.heap.size ≤ g := by rcases hg with q | q; exact hv g q; omega
          have hT : ∀ g, v.ownBlock = some g → N6 < g ∧ ¬ S g := fun g hg => ⟨by have := hv g hg; have := HH.out.or; omega, fun c => by have := HS g c; have := hv g hg; omega⟩
          have n6 : ¬ v.ownBlock = some N6 := fun c => by have := (hT N6 c).1; omega
          have nB : ¬ v.ownBlock = some B2 := fun c => by have := (hT B2 c).1; have := R'.or; omega
          have q6 := k8.cell R'.b6.r2 n6
          have z6 : ∀ i, w8.frozen? ⟨N6, i, none⟩ = false := fun i => (k8.frozen (a := ⟨N6, i, none⟩) (show N6 < wd.heap.size from lt_of_cell (a := ⟨N6, 2, none⟩) R'.b6.r2) n6).trans (R'.b6.fz i)
          have R8 := R'.push k8 hT (.slice (some ⟨g, 0, none⟩) ((preN th vl lo j).length + 1) c)
          have gN : g ≠ N6 := by have := HH.out.or; omega
          have o8 := o8'.keep ((Keep.refl (fun g => g = N6) w8).setCell (p := ⟨N6, 2, none⟩) rfl (.slice (some ⟨g, 0, none⟩) ((preN th vl lo j).length + 1) c)) (fun g' hg' => by cases hg'; exact gN)
          have s8 := k8.size
          have cB8 := k8.cell (R'.b2.cell k k64) nB
          refine hK.out _ _ cB8 (fun hHeld => ?_)
          clear hK K
          ((try simp only [List.getElem_toArray]); (try simp only [List.getElem_cons_succ]); (try simp only [List.getElem_cons_zero]); (try simp only [Act.put]); (try simp only [List.setIfInBounds_toArray]); (try simp only [List.set_cons_succ]); (try simp only [List.set_cons_zero]))
          refine wpAnyH_take (i := 9) (v := ?qvu7) rfl (by kernel_rfl) (by kernel_rfl) (by kernel_rfl) (by intro _ _ _ h; exact hQp.out _ _ _ _ _ h) (Or.inl ⟨by rfl, ?qyu7⟩) (by assumption) ?qru7; case qyu7 => ((intro w hSw; (try dsimp only at hSw); go_simp); try (with_reducible rfl))
          ((try simp only [List.getElem_toArray]); (try simp only [List.getElem_cons_succ]); (try simp only [List.getElem_cons_zero]); (try simp only [Act.put]); (try simp only [List.setIfInBounds_toArray]); (try simp only [List.set_cons_succ]); (try simp only [List.set_cons_zero]))
          refine wpAnyH_ready (rs := [10]) (by kernel_rfl) (by simp) ?_
          refine AllReadyH.cons rfl (fun K hK => ?_) AllReadyH.nil
          go_simp
          go_simp
          refine hK.out _ _ (by rw [World.cell?_setCell_other _ _ _ _ (by simp; have := HH.out.or; omega)]; exact hHeld) (fun hHeld => ?_)
          clear hK K
          ((try simp only [List.getElem_toArray]); (try simp only [List.getElem_cons_succ]); (try simp only [List.getElem_cons_zero]); (try simp only [Act.put]); (try simp only [List.setIfInBounds_toArray]); (try simp only [List.set_cons_succ]); (try simp only [List.set_cons_zero]))
          refine wpAnyH_done (by kernel_rfl) ?_ _
          go_wp2_with fail
          go_roundg (65 - (j + 1))
          case measure => omega
          case rel => exact ⟨j + 1, by omega, _, by omega, by rw [show lo + (j + 1) = k + 1 by omega]; go_num, R8, by rw [pre_succ, hk, t, if_pos rfl]; exact o8, (fun g' hg' => by cases hg'; exact hvg), by have q8 := ((Keep.refl (fun g => g = N6) w8).setCell (p := ⟨N6, 2, none⟩) rfl (.slice (some ⟨g, 0, none⟩) ((preN th vl lo j).length + 1) c)).size; omega⟩
    · obtain rfl : k = hi + 1 := by omega
      go_wp2_with fail
      go_meet
      case rel => exact ⟨S, y, th, vl, _, _, u, v, R, by rw [pre_pairs, show hi + 1 - lo = j by omega]; exact ov, HA.out, rfl, rfl, by show (pairsN th vl lo hi).length ≤ 64; rw [pre_pairs]; have := pre_len th vl lo (hi + 1 - lo); omega⟩
end
end Go.Proofs.Ytkkjofefjepodaa.modelAlone
