/- JudgeAll: the keys are looked through (a loop), then the ranges (a loop); conditions: what the parts before it have laid. -/
import Derived.Test.YtndpifkpgoeogaaJaA
import Derived.Test.YtndpifkpgoeogaaCodes
import Derived.ChangeOld
import Derived.Deep.CutRange
import Derived.Deep.CutBlock
import Derived.Deep.LoopGhost
import Derived.BigRegion
import Derived.BigQuiet
import Derived.Deep.QuietTactic
namespace Go.Proofs.Ytndpifkpgoeogaa.judgeAll
open Go.ChangeShapes Go.WideShapes Go.ChangeAt Go.RowKit
set_option linter.unusedVariables false
noncomputable def cKey : Code := (Try.f7.body.bind (blockIn 0)).getD .skip
noncomputable def cSpn : Code := (Try.f7.body.bind (blockIn 2)).getD .skip
set_option maxRecDepth 1000000 in
/-- Behind the keys. -/
def PK (r : Bool × Int) (wA : World) (s0 s1 s2 s3 s4 s5 s6 s7 s8 s9 s10 s11 s12 s13 s17 s18 s19 s20 s21 s22 s23 s24 s25 s26 s27 s28 s29 s30 s31 s32 s33 s34 s35 s36 s37 s38 s39 s40 s41 s42 s43 s44 s45 s46 s47 s48 s49 s50 s51 s81 s82 s83 s84 s85 s86 s87 s88 s89 s90 s91 s92 s93 s94 s95 s96 s97 s98 s99 s100 s101 s102 s103 s104 s105 s106 s107 s108 s109 s110 s111 s112 s113 s114 s115 s116 s117 s118 s119 s120 s121 s122 s123 s124 s125 s126 s127 s128 s129 s130 s131 s132 s133 s134 s135 s136 s137 s138 s139 s140 s141 s142 s143 s144 s145 s146 s147 s148 s149 s150 s151 s152 s153 s154 s155 s156 s157 s158 s159 s160 s161 s162 s163 s164 s165 s166 s167 s168 s169 s170 s171 s172 s173 s174 s175 s176 s177 s178 s179 s180 s181 s182 s183 s184 s185 s186 s187 s188 s189 s190 s191 s192 s193 s194 s195 s196 s197 s198 s199 s200 s201 s202 s203 s204 s205 s206 s207 s208 s209 s210 s211 s212 s213 s214 s215 s216 s217 s218 s219 s220 s221 s222 s223 s224 : Value) (a' : Act) (w' : World) : Prop :=
  ∃ u14 u15 u16 u52 u53 u54 u55 u56 u57 u58 u59 u60 u61 u62 u63 u64 u65 u66 u67 u68 u69 u70 u71 u72 u73 u74 u75 u76 u77 u78 u79 u80 : Value, (∃ q a, u14 = .bool q ∧ u15 = .int .i64 a ∧ r = (q, a) ∧ Keep (fun _ => False) wA w') ∧ a' = ⟨#[s0, s1, s2, s3, s4, s5, s6, s7, s8, s9, s10, s11, s12, s13, u14, u15, u16, s17, s18, s19, s20, s21, s22, s23, s24, s25, s26, s27, s28, s29, s30, s31, s32, s33, s34, s35, s36, s37, s38, s39, s40, s41, s42, s43, s44, s45, s46, s47, s48, s49, s50, s51, u52, u53, u54, u55, u56, u57, u58, u59, u60, u61, u62, u63, u64, u65, u66, u67, u68, u69, u70, u71, u72, u73, u74, u75, u76, u77, u78, u79, u80, s81, s82, s83, s84, s85, s86, s87, s88, s89, s90, s91, s92, s93, s94, s95, s96, s97, s98, s99, s100, s101, s102, s103, s104, s105, s106, s107, s108, s109, s110, s111, s112, s113, s114, s115, s116, s117, s118, s119, s120, s121, s122, s123, s124, s125, s126, s127, s128, s129, s130, s131, s132, s133, s134, s135, s136, s137, s138, s139, s140, s141, s142, s143, s144, s145, s146, s147, s148, s149, s150, s151, s152, s153, s154, s155, s156, s157, s158, s159, s160, s161, s162, s163, s164, s165, s166, s167, s168, s169, s170, s171, s172, s173, s174, s175, s176, s177, s178, s179, s180, s181, s182, s183, s184, s185, s186, s187, s188, s189, s190, s191, s192, s193, s194, s195, s196, s197, s198, s199, s200, s201, s202, s203, s204, s205, s206, s207, s208, s209, s210, s211, s212, s213, s214, s215, s216, s217, s218, s219, s220, s221, s222, s223, s224], []⟩
set_option maxRecDepth 1000000 in
/-- Behind the ranges. -/
def PS (r : Bool × Int) (wA : World) (s0 s1 s2 s3 s4 s5 s6 s7 s8 s9 s10 s11 s12 s13 s16 s18 s19 s20 s21 s22 s23 s24 s25 s26 s27 s28 s29 s30 s31 s32 s33 s34 s35 s36 s37 s38 s39 s40 s41 s42 s43 s44 s45 s46 s47 s48 s49 s50 s51 s52 s53 s54 s55 s56 s57 s58 s59 s60 s61 s62 s63 s64 s65 s66 s67 s68 s69 s70 s71 s72 s73 s74 s75 s76 s77 s78 s79 s80 s115 s116 s117 s118 s119 s120 s121 s122 s123 s124 s125 s126 s127 s128 s129 s130 s131 s132 s133 s134 s135 s136 s137 s138 s139 s140 s141 s142 s143 s144 s145 s146 s147 s148 s149 s150 s151 s152 s153 s154 s155 s156 s157 s158 s159 s160 s161 s162 s163 s164 s165 s166 s167 s168 s169 s170 s171 s172 s173 s174 s175 s176 s177 s178 s179 s180 s181 s182 s183 s184 s185 s186 s187 s188 s189 s190 s191 s192 s193 s194 s195 s196 s197 s198 s199 s200 s201 s202 s203 s204 s205 s206 s207 s208 s209 s210 s211 s212 s213 s214 s215 s216 s217 s218 s219 s220 s221 s222 s223 s224 : Value) (a' : Act) (w' : World) : Prop :=
  ∃ u14 u15 u17 u81 u82 u83 u84 u85 u86 u87 u88 u89 u90 u91 u92 u93 u94 u95 u96 u97 u98 u99 u100 u101 u102 u103 u104 u105 u106 u107 u108 u109 u110 u111 u112 u113 u114 : Value, (∃ q a, u14 = .bool q ∧ u15 = .int .i64 a ∧ r = (q, a) ∧ Keep (fun _ => False) wA w') ∧ a' = ⟨#[s0, s1, s2, s3, s4, s5, s6, s7, s8, s9, s10, s11, s12, s13, u14, u15, s16, u17, s18, s19, s20, s21, s22, s23, s24, s25, s26, s27, s28, s29, s30, s31, s32, s33, s34, s35, s36, s37, s38, s39, s40, s41, s42, s43, s44, s45, s46, s47, s48, s49, s50, s51, s52, s53, s54, s55, s56, s57, s58, s59, s60, s61, s62, s63, s64, s65, s66, s67, s68, s69, s70, s71, s72, s73, s74, s75, s76, s77, s78, s79, s80, u81, u82, u83, u84, u85, u86, u87, u88, u89, u90, u91, u92, u93, u94, u95, u96, u97, u98, u99, u100, u101, u102, u103, u104, u105, u106, u107, u108, u109, u110, u111, u112, u113, u114, s115, s116, s117, s118, s119, s120, s121, s122, s123, s124, s125, s126, s127, s128, s129, s130, s131, s132, s133, s134, s135, s136, s137, s138, s139, s140, s141, s142, s143, s144, s145, s146, s147, s148, s149, s150, s151, s152, s153, s154, s155, s156, s157, s158, s159, s160, s161, s162, s163, s164, s165, s166, s167, s168, s169, s170, s171, s172, s173, s174, s175, s176, s177, s178, s179, s180, s181, s182, s183, s184, s185, s186, s187, s188, s189, s190, s191, s192, s193, s194, s195, s196, s197, s198, s199, s200, s201, s202, s203, s204, s205, s206, s207, s208, s209, s210, s211, s212, s213, s214, s215, s216, s217, s218, s219, s220, s221, s222, s223, s224], []⟩
def KeyR (lv : Int) (N : Int → Int) (ks : List OpI) (wA : World) (qv av jv : Value) (wr : World) : Prop := ∃ (j : Nat) (q : Bool) (a : Int), j ≤ ks.length ∧ jv = .int .i64 j ∧ qv = .bool q ∧ av = .int .i64 a ∧ KSt lv N ks j q a ∧ Keep (fun _ => False) wA wr
def SpnR (lv : Int) (N : Int → Int) (SP : Int → Int → List Int) (ks ss : List OpI) (wA : World) (qv av jv : Value) (wr : World) : Prop := ∃ (j : Nat) (q : Bool) (a : Int), j ≤ ss.length ∧ jv = .int .i64 j ∧ qv = .bool q ∧ av = .int .i64 a ∧ SSt lv N SP ks ss j q a ∧ Keep (fun _ => False) wA wr
theorem lies_keep {w w' : World} {v : Value} {z : List Int} (h : Lies w v z) (k : Keep (fun _ => False) w w') : Lies w' v z := h.keep k (by simp) (by simp)
section
variable {W wA : World} {t nb sb B : Nat} {S : Nat → Prop} {s : RdS} {v1 v2 : Value} {ks ss : List OpI} {zn zs : List Int} {lv : Int} {Q : Exit → Act → World → Prop} {J K : Act → World → Prop} {An As : Option Addr} {cn cs : Nat}
set_option maxRecDepth 1000000 in
set_option maxHeartbeats 8000000 in
theorem keyLoop { s1 s2 s3 s4 s5 s6 s7 s8 s9 s11 s13 s17 s18 s19 s20 s21 s22 s23 s24 s25 s26 s27 s28 s29 s30 s31 s32 s33 s34 s35 s36 s37 s38 s39 s40 s41 s42 s43 s44 s45 s46 s47 s48 s49 s50 s51 s52 s53 s54 s55 s56 s57 s58 s59 s60 s61 s62 s63 s64 s65 s66 s67 s68 s69 s70 s71 s72 s73 s74 s75 s76 s77 s78 s79 s80 s81 s82 s83 s84 s85 s86 s87 s88 s89 s90 s91 s92 s93 s94 s95 s96 s97 s98 s99 s100 s101 s102 s103 s104 s105 s106 s107 s108 s109 s110 s111 s112 s113 s114 s115 s116 s117 s118 s119 s120 s121 s122 s123 s124 s125 s126 s127 s128 s129 s130 s131 s132 s133 s134 s135 s136 s137 s138 s139 s140 s141 s142 s143 s144 s145 s146 s147 s148 s149 s150 s151 s152 s153 s154 s155 s156 s157 s158 s159 s160 s161 s162 s163 s164 s165 s166 s167 s168 s169 s170 s171 s172 s173 s174 s175 s176 s177 s178 s179 s180 s181 s182 s183 s184 s185 s186 s187 s188 s189 s190 s191 s192 s193 s194 s195 s196 s197 s198 s199 s200 s201 s202 s203 s204 s205 s206 s207 s208 s209 s210 s211 s212 s213 s214 s215 s216 s217 s218 s219 s220 s221 s222 s223 s224 : Value}
    (hJ : ∀ a' w', PK (resK lv (nowA zn) ks) wA (.int .i64 lv) s1 s2 s3 s4 s5 s6 s7 s8 s9 v1 s11 (.func (.func 25) #[] #[.pointer (some ⟨nb, 0, none⟩)]) s13 s17 s18 s19 s20 s21 s22 s23 s24 s25 s26 s27 s28 s29 s30 s31 s32 s33 s34 s35 s36 s37 s38 s39 s40 s41 s42 s43 s44 s45 s46 s47 s48 s49 s50 s51 s81 s82 s83 s84 s85 s86 s87 s88 s89 s90 s91 s92 s93 s94 s95 s96 s97 s98 s99 s100 s101 s102 s103 s104 s105 s106 s107 s108 s109 s110 s111 s112 s113 s114 s115 s116 s117 s118 s119 s120 s121 s122 s123 s124 s125 s126 s127 s128 s129 s130 s131 s132 s133 s134 s135 s136 s137 s138 s139 s140 s141 s142 s143 s144 s145 s146 s147 s148 s149 s150 s151 s152 s153 s154 s155 s156 s157 s158 s159 s160 s161 s162 s163 s164 s165 s166 s167 s168 s169 s170 s171 s172 s173 s174 s175 s176 s177 s178 s179 s180 s181 s182 s183 s184 s185 s186 s187 s188 s189 s190 s191 s192 s193 s194 s195 s196 s197 s198 s199 s200 s201 s202 s203 s204 s205 s206 s207 s208 s209 s210 s211 s212 s213 s214 s215 s216 s217 s218 s219 s220 s221 s222 s223 s224 a' w' → J a' w') (hK : ∀ a' w', Met J a' w' → K a' w')
    (o1 : OwnR B wA v1 ks) (kl : ks.length ≤ 40) (kb : ∀ x ∈ ks, 0 ≤ x.lo ∧ x.lo ≤ 63 ∧ 0 ≤ x.link ∧ x.link ≤ 3)
    (cN : wA.cell? ⟨nb, 0, none⟩ = some (.slice An zn.length cn)) (hz : Lies wA (.slice An zn.length cn) zn) (un : ∀ j, j < zn.length → U64 (zn.getD j 0)) (hl : zn.length ≤ 9223372036854775807) :
    Code.wp Try.prog cKey (Exit.then K Q) ⟨#[.int .i64 lv, s1, s2, s3, s4, s5, s6, s7, s8, s9, v1, s11, (.func (.func 25) #[] #[.pointer (some ⟨nb, 0, none⟩)]), s13, .bool (inL lv), .int .i64 (-1), .int .i64 0, s17, s18, s19, s20, s21, s22, s23, s24, s25, s26, s27, s28, s29, s30, s31, s32, s33, s34, s35, s36, s37, s38, s39, s40, s41, s42, s43, s44, s45, s46, s47, s48, s49, s50, s51, s52, s53, s54, s55, s56, s57, s58, s59, s60, s61, s62, s63, s64, s65, s66, s67, s68, s69, s70, s71, s72, s73, s74, s75, s76, s77, s78, s79, s80, s81, s82, s83, s84, s85, s86, s87, s88, s89, s90, s91, s92, s93, s94, s95, s96, s97, s98, s99, s100, s101, s102, s103, s104, s105, s106, s107, s108, s109, s110, s111, s112, s113, s114, s115, s116, s117, s118, s119, s120, s121, s122, s123, s124, s125, s126, s127, s128, s129, s130, s131, s132, s133, s134, s135, s136, s137, s138, s139, s140, s141, s142, s143, s144, s145, s146, s147, s148, s149, s150, s151, s152, s153, s154, s155, s156, s157, s158, s159, s160, s161, s162, s163, s164, s165, s166, s167, s168, s169, s170, s171, s172, s173, s174, s175, s176, s177, s178, s179, s180, s181, s182, s183, s184, s185, s186, s187, s188, s189, s190, s191, s192, s193, s194, s195, s196, s197, s198, s199, s200, s201, s202, s203, s204, s205, s206, s207, s208, s209, s210, s211, s212, s213, s214, s215, s216, s217, s218, s219, s220, s221, s222, s223, s224], []⟩ wA := by
  obtain ⟨A, c, rfl, hA0, hA1⟩ := OwnR.shape o1
  have HC := Lib.hid (fun (w : World) (kp : Keep (fun _ => False) wA w) => @nowa_clo w nb zn An cn (kp.cell cN id) (lies_keep hz kp) un hl)
  clear hz un hl cN
  have ST := Lib.hid (KSt.start (lv := lv) (N := nowA zn) (ks := ks))
  obtain ⟨q0, eq0⟩ : ∃ q, inL lv = q := ⟨_, rfl⟩
  rw [eq0] at ST ⊢
  clear eq0
  conv => arg 2; whnf
  dsimp only
  go_wp2
  go_loopw [14, 15, 16] (fun qv av jv wr => KeyR lv (nowA zn) ks wA qv av jv wr) (fun _ _ jv _ => ks.length - (intOf jv).toNat)
  case atStart => exact ⟨0, q0, -1, Nat.zero_le _, rfl, rfl, rfl, ST.out, Keep.refl _ _⟩
  case round =>
    clear ST
    obtain ⟨j, q, a, hj, rfl, rfl, rfl, hS, hw⟩ := hrel
    have HW := Lib.hid hw
    have o1 := OwnR.keep o1 hw (by simp)
    clear hw
    cases q with
    | false =>
      have F := Lib.hid (hS.over (fun e => by cases e))
      clear o1 hA0 hA1 HC hS kb
      by_cases hlt : j < ks.length
      · go_wp2_with fail
        go_meet
        case rel => exact ⟨false, a, rfl, rfl, F.out, HW.out⟩
      · obtain rfl : j = ks.length := by omega
        go_wp2_with fail
        go_meet
        case rel => exact ⟨false, a, rfl, rfl, F.out, HW.out⟩
    | true =>
      by_cases hlt : j < ks.length
      · have wk : IntKind.i64.wrap ((j : Int) + 1) = (j : Int) + 1 := IntWalk.i64_in _ (by omega)
        cases A with
        | none => rw [hA0 rfl] at hlt; simp at hlt
        | some ad =>
          obtain ⟨g, rfl⟩ := hA1 _ rfl
          obtain ⟨y, hy⟩ : ∃ y, ks[j]? = some y := ⟨_, List.getElem?_eq_getElem hlt⟩
          obtain ⟨_, c1, _, c3, _⟩ := OwnR.cells o1 j y hy
          have hb := kb y (List.mem_of_getElem? hy)
          obtain ⟨k, ek⟩ : ∃ k : Nat, y.lo = k := ⟨y.lo.toNat, by omega⟩
          obtain ⟨l, el⟩ : ∃ l, y.link = l := ⟨_, rfl⟩
          have good := hS.good hy
          have bad := hS.bad hy
          have HC := HC.out
          have HC := fun w kp => HC w kp k (by omega)
          obtain ⟨x, ex⟩ : ∃ x, nowA zn (k : Int) = x := ⟨_, rfl⟩
          rw [ex] at HC
          rw [ek, el, ex] at good bad
          rw [ek] at c1
          rw [el] at c3
          have HK := fun w => rkey_any lv l x _ rfl w
          obtain ⟨r, er⟩ : ∃ r, keyJ lv l x = r := ⟨_, rfl⟩
          rw [er] at good bad HK
          have HC := Lib.hid HC
          have HK := Lib.hid HK
          clear o1 hA0 hA1 kb hb hS hy ek el ex er
          cases r with
          | true =>
            have F := Lib.hid (good rfl)
            clear good bad
            go_wp2_with fail
            go_quiet (first | (go_at_call 25; exact Calls.quiet_of (HC.out _ (HW.out.trans (drewN_keep _ _ _)))) | (go_at_call 21; exact Calls.quiet_of_same ((HK.out _).mono fun _ _ ⟨a, b⟩ => ⟨a, b.symm⟩)))
            go_wp2
            first | exact ⟨⟨j + 1, true, a, by omega, by go_num, rfl, rfl, F.out, HW.out.trans (drewN_keep _ _ _)⟩, by simp [intOf]; omega⟩ | (refine ⟨?rel2, ?meas2⟩; (case meas2 => (simp [intOf]; omega)); (case rel2 => ((repeat apply Exists.intro); exact ⟨⟨j + 1, true, a, by omega, by go_num, rfl, rfl, F.out, HW.out.trans (drewN_keep _ _ _)⟩, rfl⟩)))
          | false =>
            have F := Lib.hid (bad rfl (j + 1))
            clear good bad
            go_wp2_with fail
            go_quiet (first | (go_at_call 25; exact Calls.quiet_of (HC.out _ (HW.out.trans (drewN_keep _ _ _)))) | (go_at_call 21; exact Calls.quiet_of_same ((HK.out _).mono fun _ _ ⟨a, b⟩ => ⟨a, b.symm⟩)))
            go_wp2_with fail
            go_quiet (fail)
            go_wp2
            first | exact ⟨⟨j + 1, false, _, by omega, by go_num, rfl, rfl, F.out, HW.out.trans (drewN_keep _ _ _)⟩, by simp [intOf]; omega⟩ | (refine ⟨?rel2, ?meas2⟩; (case meas2 => (simp [intOf]; omega)); (case rel2 => ((repeat apply Exists.intro); exact ⟨⟨j + 1, false, _, by omega, by go_num, rfl, rfl, F.out, HW.out.trans (drewN_keep _ _ _)⟩, rfl⟩)))
      · obtain rfl : j = ks.length := by omega
        have F := Lib.hid (hS.over (fun _ => rfl))
        clear o1 hA0 hA1 HC hS kb
        go_wp2_with fail
        go_meet
        case rel => exact ⟨true, a, rfl, rfl, F.out, HW.out⟩
set_option maxRecDepth 1000000 in
set_option maxHeartbeats 8000000 in
theorem spnLoop {q0 : Bool} {a0 : Int} { s1 s2 s3 s4 s5 s6 s7 s8 s9 s10 s12 s16 s18 s19 s20 s21 s22 s23 s24 s25 s26 s27 s28 s29 s30 s31 s32 s33 s34 s35 s36 s37 s38 s39 s40 s41 s42 s43 s44 s45 s46 s47 s48 s49 s50 s51 s52 s53 s54 s55 s56 s57 s58 s59 s60 s61 s62 s63 s64 s65 s66 s67 s68 s69 s70 s71 s72 s73 s74 s75 s76 s77 s78 s79 s80 s81 s82 s83 s84 s85 s86 s87 s88 s89 s90 s91 s92 s93 s94 s95 s96 s97 s98 s99 s100 s101 s102 s103 s104 s105 s106 s107 s108 s109 s110 s111 s112 s113 s114 s115 s116 s117 s118 s119 s120 s121 s122 s123 s124 s125 s126 s127 s128 s129 s130 s131 s132 s133 s134 s135 s136 s137 s138 s139 s140 s141 s142 s143 s144 s145 s146 s147 s148 s149 s150 s151 s152 s153 s154 s155 s156 s157 s158 s159 s160 s161 s162 s163 s164 s165 s166 s167 s168 s169 s170 s171 s172 s173 s174 s175 s176 s177 s178 s179 s180 s181 s182 s183 s184 s185 s186 s187 s188 s189 s190 s191 s192 s193 s194 s195 s196 s197 s198 s199 s200 s201 s202 s203 s204 s205 s206 s207 s208 s209 s210 s211 s212 s213 s214 s215 s216 s217 s218 s219 s220 s221 s222 s223 s224 : Value}
    (hJ : ∀ a' w', PS (resA lv (nowA zn) (spA zs) ks ss) wA (.int .i64 lv) s1 s2 s3 s4 s5 s6 s7 s8 s9 s10 v2 s12 (.func (.func 26) #[] #[.pointer (some ⟨sb, 0, none⟩)]) s16 s18 s19 s20 s21 s22 s23 s24 s25 s26 s27 s28 s29 s30 s31 s32 s33 s34 s35 s36 s37 s38 s39 s40 s41 s42 s43 s44 s45 s46 s47 s48 s49 s50 s51 s52 s53 s54 s55 s56 s57 s58 s59 s60 s61 s62 s63 s64 s65 s66 s67 s68 s69 s70 s71 s72 s73 s74 s75 s76 s77 s78 s79 s80 s115 s116 s117 s118 s119 s120 s121 s122 s123 s124 s125 s126 s127 s128 s129 s130 s131 s132 s133 s134 s135 s136 s137 s138 s139 s140 s141 s142 s143 s144 s145 s146 s147 s148 s149 s150 s151 s152 s153 s154 s155 s156 s157 s158 s159 s160 s161 s162 s163 s164 s165 s166 s167 s168 s169 s170 s171 s172 s173 s174 s175 s176 s177 s178 s179 s180 s181 s182 s183 s184 s185 s186 s187 s188 s189 s190 s191 s192 s193 s194 s195 s196 s197 s198 s199 s200 s201 s202 s203 s204 s205 s206 s207 s208 s209 s210 s211 s212 s213 s214 s215 s216 s217 s218 s219 s220 s221 s222 s223 s224 a' w' → J a' w') (hK : ∀ a' w', Met J a' w' → K a' w')
    (hr : resK lv (nowA zn) ks = (q0, a0)) (o2 : OwnR B wA v2 ss) (sl : ss.length ≤ 40) (sb' : ∀ x ∈ ss, 0 ≤ x.lo ∧ x.lo ≤ x.hi ∧ x.hi ≤ 63 ∧ x.z.length ≤ 5 ∧ Lies wA x.v x.z)
    (cS : wA.cell? ⟨sb, 0, none⟩ = some (.slice As zs.length cs)) (hz : Lies wA (.slice As zs.length cs) zs) (hl : zs.length ≤ 100) :
    Code.wp Try.prog cSpn (Exit.then K Q) ⟨#[.int .i64 lv, s1, s2, s3, s4, s5, s6, s7, s8, s9, s10, v2, s12, (.func (.func 26) #[] #[.pointer (some ⟨sb, 0, none⟩)]), .bool q0, .int .i64 a0, s16, .int .i64 0, s18, s19, s20, s21, s22, s23, s24, s25, s26, s27, s28, s29, s30, s31, s32, s33, s34, s35, s36, s37, s38, s39, s40, s41, s42, s43, s44, s45, s46, s47, s48, s49, s50, s51, s52, s53, s54, s55, s56, s57, s58, s59, s60, s61, s62, s63, s64, s65, s66, s67, s68, s69, s70, s71, s72, s73, s74, s75, s76, s77, s78, s79, s80, s81, s82, s83, s84, s85, s86, s87, s88, s89, s90, s91, s92, s93, s94, s95, s96, s97, s98, s99, s100, s101, s102, s103, s104, s105, s106, s107, s108, s109, s110, s111, s112, s113, s114, s115, s116, s117, s118, s119, s120, s121, s122, s123, s124, s125, s126, s127, s128, s129, s130, s131, s132, s133, s134, s135, s136, s137, s138, s139, s140, s141, s142, s143, s144, s145, s146, s147, s148, s149, s150, s151, s152, s153, s154, s155, s156, s157, s158, s159, s160, s161, s162, s163, s164, s165, s166, s167, s168, s169, s170, s171, s172, s173, s174, s175, s176, s177, s178, s179, s180, s181, s182, s183, s184, s185, s186, s187, s188, s189, s190, s191, s192, s193, s194, s195, s196, s197, s198, s199, s200, s201, s202, s203, s204, s205, s206, s207, s208, s209, s210, s211, s212, s213, s214, s215, s216, s217, s218, s219, s220, s221, s222, s223, s224], []⟩ wA := by
  obtain ⟨A, c, rfl, hA0, hA1⟩ := OwnR.shape o2
  have HC := Lib.hid (fun (w : World) (kp : Keep (fun _ => False) wA w) => @spa_clo w sb zs As cs (kp.cell cS id) (lies_keep hz kp) hl)
  have HL := Lib.hid (fun (w : World) (kp : Keep (fun _ => False) wA w) => @spa_lies w zs As cs (lies_keep hz kp))
  have HN := Lib.hid (show ∀ a b, (spA zs a b).length ≤ 100000 from fun a b => by unfold spA; rw [List.length_drop, List.length_take]; omega)
  clear hz hl cS
  have ST := Lib.hid (SSt.start (SP := spA zs) (ss := ss) hr)
  clear hr
  conv => arg 2; whnf
  dsimp only
  go_wp2
  go_loopw [14, 15, 17] (fun qv av jv wr => SpnR lv (nowA zn) (spA zs) ks ss wA qv av jv wr) (fun _ _ jv _ => ss.length - (intOf jv).toNat)
  case atStart => exact ⟨0, q0, a0, Nat.zero_le _, rfl, rfl, rfl, ST.out, Keep.refl _ _⟩
  case round =>
    clear ST
    obtain ⟨j, q, a, hj, rfl, rfl, rfl, hS, hw⟩ := hrel
    have HW := Lib.hid hw
    have o2 := OwnR.keep o2 hw (by simp)
    clear hw
    cases q with
    | false =>
      have F := Lib.hid (hS.over (fun e => by cases e))
      clear o2 hA0 hA1 HC HL HN hS sb'
      by_cases hlt : j < ss.length
      · go_wp2_with fail
        go_meet
        case rel => exact ⟨false, a, rfl, rfl, F.out, HW.out⟩
      · obtain rfl : j = ss.length := by omega
        go_wp2_with fail
        go_meet
        case rel => exact ⟨false, a, rfl, rfl, F.out, HW.out⟩
    | true =>
      by_cases hlt : j < ss.length
      · have wk : IntKind.i64.wrap ((j : Int) + 1) = (j : Int) + 1 := IntWalk.i64_in _ (by omega)
        cases A with
        | none => rw [hA0 rfl] at hlt; simp at hlt
        | some ad =>
          obtain ⟨g, rfl⟩ := hA1 _ rfl
          obtain ⟨y, hy⟩ : ∃ y, ss[j]? = some y := ⟨_, List.getElem?_eq_getElem hlt⟩
          obtain ⟨_, c1, c2, _, c4⟩ := OwnR.cells o2 j y hy
          have hb := sb' y (List.mem_of_getElem? hy)
          obtain ⟨lo, ek⟩ : ∃ k : Nat, y.lo = k := ⟨y.lo.toNat, by omega⟩
          obtain ⟨hi, eh⟩ : ∃ k : Nat, y.hi = k := ⟨y.hi.toNat, by omega⟩
          have good := hS.good hy
          have bad := hS.bad hy
          have hyl := hb.2.2.2.2
          obtain ⟨Ay, cy, ev, _⟩ := id hyl
          rw [ev] at c4 hyl
          have HC := fun w kp => HC.out w kp lo hi (by omega) (by omega)
          have HS := fun (w : World) (kp : Keep (fun _ => False) wA w) => rspan_d lv _ _ y.z (spA zs lo hi) (by omega) (HN.out _ _) _ rfl w (lies_keep hyl kp) (HL.out w kp lo hi)
          rw [ek, eh] at good bad
          rw [ek] at c1
          rw [eh] at c2
          obtain ⟨r, er⟩ : ∃ r, spanJ lv y.z (spA zs lo hi) = r := ⟨_, rfl⟩
          rw [er] at good bad HS
          obtain ⟨m, em⟩ : ∃ m, y.z.length = m := ⟨_, rfl⟩
          rw [em] at c4 HS
          obtain ⟨x, ex⟩ : ∃ x, spV As cs (loP zs lo) (hiP zs lo hi) = x := ⟨_, rfl⟩
          rw [ex] at HC HS
          have HC := Lib.hid HC
          have HS := Lib.hid HS
          clear o2 hA0 hA1 sb' hb hS hy ek eh ex er em ev hyl HL HN
          cases r with
          | true =>
            have F := Lib.hid (good rfl)
            clear good bad
            go_wp2_with fail
            go_quiet (first | (go_at_call 26; exact Calls.quiet_of_same (HC.out _ (HW.out.trans (drewN_keep _ _ _)))) | (go_at_call 23; exact Calls.quiet_of (HS.out _ (HW.out.trans (drewN_keep _ _ _)))))
            go_wp2
            first | exact ⟨⟨j + 1, true, a, by omega, by go_num, rfl, rfl, F.out, HW.out.trans (drewN_keep _ _ _)⟩, by simp [intOf]; omega⟩ | (refine ⟨?rel2, ?meas2⟩; (case meas2 => (simp [intOf]; omega)); (case rel2 => ((repeat apply Exists.intro); exact ⟨⟨j + 1, true, a, by omega, by go_num, rfl, rfl, F.out, HW.out.trans (drewN_keep _ _ _)⟩, rfl⟩)))
          | false =>
            have F := Lib.hid (bad rfl (j + 1))
            clear good bad
            go_wp2_with fail
            go_quiet (first | (go_at_call 26; exact Calls.quiet_of_same (HC.out _ (HW.out.trans (drewN_keep _ _ _)))) | (go_at_call 23; exact Calls.quiet_of (HS.out _ (HW.out.trans (drewN_keep _ _ _)))))
            go_wp2_with fail
            go_quiet (fail)
            go_wp2
            first | exact ⟨⟨j + 1, false, _, by omega, by go_num, rfl, rfl, F.out, HW.out.trans (drewN_keep _ _ _)⟩, by simp [intOf]; omega⟩ | (refine ⟨?rel2, ?meas2⟩; (case meas2 => (simp [intOf]; omega)); (case rel2 => ((repeat apply Exists.intro); exact ⟨⟨j + 1, false, _, by omega, by go_num, rfl, rfl, F.out, HW.out.trans (drewN_keep _ _ _)⟩, rfl⟩)))
      · obtain rfl : j = ss.length := by omega
        have F := Lib.hid (hS.over (fun _ => rfl))
        clear o2 hA0 hA1 HC HL HN hS sb'
        go_wp2_with fail
        go_meet
        case rel => exact ⟨true, a, rfl, rfl, F.out, HW.out⟩
end
end Go.Proofs.Ytndpifkpgoeogaa.judgeAll
