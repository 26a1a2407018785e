/- JudgeAll: what must be looked at anew is gathered (a loop), and the ranges are compared (a loop); conditions: what the parts before it have laid. -/
import Derived.Test.YtndpifkpgoeogaaJaB
namespace Go.Proofs.Ytndpifkpgoeogaa.judgeAll
open Go.ChangeShapes Go.WideShapes Go.ChangeAt Go.RowKit
set_option linter.unusedVariables false
noncomputable def cNeed : Code := (Try.f7.body.bind (blockIn 4)).getD .skip
noncomputable def cCmp : Code := (Try.f7.body.bind (blockIn 6)).getD .skip
set_option maxRecDepth 1000000 in
/-- Behind the list of what must be looked at anew. -/
def PN (l : List Int) (wA : World) (s0 s1 s2 s3 s4 s5 s6 s7 s8 s9 s10 s11 s12 s13 s14 s15 s16 s17 s18 s19 s20 s21 s24 s25 s26 s27 s28 s29 s30 s31 s32 s33 s34 s35 s36 s37 s38 s39 s40 s41 s42 s43 s44 s45 s46 s47 s48 s49 s50 s51 s52 s53 s54 s55 s56 s57 s58 s59 s60 s61 s62 s63 s64 s65 s66 s67 s68 s69 s70 s71 s72 s73 s74 s75 s76 s77 s78 s79 s80 s81 s82 s83 s84 s85 s86 s87 s88 s89 s90 s91 s92 s93 s94 s95 s96 s97 s98 s99 s100 s101 s102 s103 s104 s105 s106 s107 s108 s109 s110 s111 s112 s113 s114 s115 s116 s117 s118 s119 s120 s121 s122 s123 s124 s125 s126 s127 s128 s157 s158 s159 s160 s161 s162 s163 s164 s165 s166 s167 s168 s169 s170 s171 s172 s173 s174 s175 s176 s177 s178 s179 s180 s181 s182 s183 s184 s185 s186 s187 s188 s189 s190 s191 s192 s193 s194 s195 s196 s197 s198 s199 s200 s201 s202 s203 s204 s205 s206 s207 s208 s209 s210 s211 s212 s213 s214 s215 s216 s217 s218 s219 s220 s221 s222 s223 s224 : Value) (a' : Act) (w' : World) : Prop :=
  ∃ u22 u23 u129 u130 u131 u132 u133 u134 u135 u136 u137 u138 u139 u140 u141 u142 u143 u144 u145 u146 u147 u148 u149 u150 u151 u152 u153 u154 u155 u156 : Value, (OwnN wA.heap.size w' u22 l ∧ Keep (fun _ => False) wA w') ∧ a' = ⟨#[s0, s1, s2, s3, s4, s5, s6, s7, s8, s9, s10, s11, s12, s13, s14, s15, s16, s17, s18, s19, s20, s21, u22, u23, s24, s25, s26, s27, s28, s29, s30, s31, s32, s33, s34, s35, s36, s37, s38, s39, s40, s41, s42, s43, s44, s45, s46, s47, s48, s49, s50, s51, s52, s53, s54, s55, s56, s57, s58, s59, s60, s61, s62, s63, s64, s65, s66, s67, s68, s69, s70, s71, s72, s73, s74, s75, s76, s77, s78, s79, s80, s81, s82, s83, s84, s85, s86, s87, s88, s89, s90, s91, s92, s93, s94, s95, s96, s97, s98, s99, s100, s101, s102, s103, s104, s105, s106, s107, s108, s109, s110, s111, s112, s113, s114, s115, s116, s117, s118, s119, s120, s121, s122, s123, s124, s125, s126, s127, s128, u129, u130, u131, u132, u133, u134, u135, u136, u137, u138, u139, u140, u141, u142, u143, u144, u145, u146, u147, u148, u149, u150, u151, u152, u153, u154, u155, u156, s157, s158, s159, s160, s161, s162, s163, s164, s165, s166, s167, s168, s169, s170, s171, s172, s173, s174, s175, s176, s177, s178, s179, s180, s181, s182, s183, s184, s185, s186, s187, s188, s189, s190, s191, s192, s193, s194, s195, s196, s197, s198, s199, s200, s201, s202, s203, s204, s205, s206, s207, s208, s209, s210, s211, s212, s213, s214, s215, s216, s217, s218, s219, s220, s221, s222, s223, s224], []⟩
set_option maxRecDepth 1000000 in
/-- Behind the ranges compared. -/
def PC (wA : World) (s0 s1 s2 s3 s4 s5 s6 s7 s9 s10 s11 s12 s13 s14 s15 s16 s17 s18 s19 s20 s21 s22 s23 s24 s26 s27 s28 s29 s30 s31 s32 s33 s34 s35 s36 s37 s38 s39 s40 s41 s42 s43 s44 s45 s46 s47 s48 s49 s50 s51 s52 s53 s54 s55 s56 s57 s58 s59 s60 s61 s62 s63 s64 s65 s66 s67 s68 s69 s70 s71 s72 s73 s74 s75 s76 s77 s78 s79 s80 s81 s82 s83 s84 s85 s86 s87 s88 s89 s90 s91 s92 s93 s94 s95 s96 s97 s98 s99 s100 s101 s102 s103 s104 s105 s106 s107 s108 s109 s110 s111 s112 s113 s114 s115 s116 s117 s118 s119 s120 s121 s122 s123 s124 s125 s126 s127 s128 s129 s130 s131 s132 s133 s134 s135 s136 s137 s138 s139 s140 s141 s142 s143 s144 s145 s146 s147 s148 s149 s150 s151 s152 s153 s154 s155 s156 s157 s158 s159 s160 s161 s162 s163 s164 s165 s166 s167 s168 s169 s170 s171 s172 s173 s174 s175 s176 s177 s178 s179 s180 s224 : Value) (a' : Act) (w' : World) : Prop :=
  ∃ u8 u25 u181 u182 u183 u184 u185 u186 u187 u188 u189 u190 u191 u192 u193 u194 u195 u196 u197 u198 u199 u200 u201 u202 u203 u204 u205 u206 u207 u208 u209 u210 u211 u212 u213 u214 u215 u216 u217 u218 u219 u220 u221 u222 u223 : Value, Keep (fun _ => False) wA w' ∧ a' = ⟨#[s0, s1, s2, s3, s4, s5, s6, s7, u8, s9, s10, s11, s12, s13, s14, s15, s16, s17, s18, s19, s20, s21, s22, s23, s24, u25, s26, s27, s28, s29, s30, s31, s32, s33, s34, s35, s36, s37, s38, s39, s40, s41, s42, s43, s44, s45, s46, s47, s48, s49, s50, s51, s52, s53, s54, s55, s56, s57, s58, s59, s60, s61, s62, s63, s64, s65, s66, s67, s68, s69, s70, s71, s72, s73, s74, s75, s76, s77, s78, s79, s80, s81, s82, s83, s84, s85, s86, s87, s88, s89, s90, s91, s92, s93, s94, s95, s96, s97, s98, s99, s100, s101, s102, s103, s104, s105, s106, s107, s108, s109, s110, s111, s112, s113, s114, s115, s116, s117, s118, s119, s120, s121, s122, s123, s124, s125, s126, s127, s128, s129, s130, s131, s132, s133, s134, s135, s136, s137, s138, s139, s140, s141, s142, s143, s144, s145, s146, s147, s148, s149, s150, s151, s152, s153, s154, s155, s156, s157, s158, s159, s160, s161, s162, s163, s164, s165, s166, s167, s168, s169, s170, s171, s172, s173, s174, s175, s176, s177, s178, s179, s180, u181, u182, u183, u184, u185, u186, u187, u188, u189, u190, u191, u192, u193, u194, u195, u196, u197, u198, u199, u200, u201, u202, u203, u204, u205, u206, u207, u208, u209, u210, u211, u212, u213, u214, u215, u216, u217, u218, u219, u220, u221, u222, u223, s224], []⟩
def NeedR (lv : Int) (ks : List OpI) (wA : World) (nv jv : Value) (wr : World) : Prop := ∃ j : Nat, j ≤ ks.length ∧ jv = .int .i64 j ∧ OwnN wA.heap.size wr nv (needL lv (ks.take j)) ∧ Keep (fun _ => False) wA wr
theorem own_after {w wr y : World} {v : Value} {l : List Int} (o : OwnN w.heap.size wr v l) (k : Keep (fun _ => False) w wr) (k2 : Keep (fun j => v.ownBlock = some j) wr y) : Keep (fun _ => False) w y :=
  ⟨k2.os.trans k.os, k2.tape.trans k.tape, k2.output.trans k.output, Nat.le_trans k.size k2.size, fun j hj _ => (k2.block j (Nat.lt_of_lt_of_le hj k.size) (fun e => by have := (OwnN.lt o e).1; omega)).trans (k.block j hj (by simp))⟩
section
variable {W wA : World} {B : Nat} {S : Nat → Prop} {s : RdS} {v1 v2 : Value} {ks ss : List OpI} {lv : Int} {Q : Exit → Act → World → Prop} {J K : Act → World → Prop} {T : Nat → Prop}
set_option maxRecDepth 1000000 in
set_option maxHeartbeats 8000000 in
theorem needLoop { s1 s2 s3 s4 s5 s6 s7 s8 s9 s11 s12 s13 s14 s15 s16 s17 s18 s19 s20 s21 s24 s25 s26 s27 s28 s29 s30 s31 s32 s33 s34 s35 s36 s37 s38 s39 s40 s41 s42 s43 s44 s45 s46 s47 s48 s49 s50 s51 s52 s53 s54 s55 s56 s57 s58 s59 s60 s61 s62 s63 s64 s65 s66 s67 s68 s69 s70 s71 s72 s73 s74 s75 s76 s77 s78 s79 s80 s81 s82 s83 s84 s85 s86 s87 s88 s89 s90 s91 s92 s93 s94 s95 s96 s97 s98 s99 s100 s101 s102 s103 s104 s105 s106 s107 s108 s109 s110 s111 s112 s113 s114 s115 s116 s117 s118 s119 s120 s121 s122 s123 s124 s125 s126 s127 s128 s129 s130 s131 s132 s133 s134 s135 s136 s137 s138 s139 s140 s141 s142 s143 s144 s145 s146 s147 s148 s149 s150 s151 s152 s153 s154 s155 s156 s157 s158 s159 s160 s161 s162 s163 s164 s165 s166 s167 s168 s169 s170 s171 s172 s173 s174 s175 s176 s177 s178 s179 s180 s181 s182 s183 s184 s185 s186 s187 s188 s189 s190 s191 s192 s193 s194 s195 s196 s197 s198 s199 s200 s201 s202 s203 s204 s205 s206 s207 s208 s209 s210 s211 s212 s213 s214 s215 s216 s217 s218 s219 s220 s221 s222 s223 s224 : Value}
    (hJ : ∀ a' w', PN (needL lv ks) wA (.int .i64 lv) s1 s2 s3 s4 s5 s6 s7 s8 s9 v1 s11 s12 s13 s14 s15 s16 s17 s18 s19 s20 s21 s24 s25 s26 s27 s28 s29 s30 s31 s32 s33 s34 s35 s36 s37 s38 s39 s40 s41 s42 s43 s44 s45 s46 s47 s48 s49 s50 s51 s52 s53 s54 s55 s56 s57 s58 s59 s60 s61 s62 s63 s64 s65 s66 s67 s68 s69 s70 s71 s72 s73 s74 s75 s76 s77 s78 s79 s80 s81 s82 s83 s84 s85 s86 s87 s88 s89 s90 s91 s92 s93 s94 s95 s96 s97 s98 s99 s100 s101 s102 s103 s104 s105 s106 s107 s108 s109 s110 s111 s112 s113 s114 s115 s116 s117 s118 s119 s120 s121 s122 s123 s124 s125 s126 s127 s128 s157 s158 s159 s160 s161 s162 s163 s164 s165 s166 s167 s168 s169 s170 s171 s172 s173 s174 s175 s176 s177 s178 s179 s180 s181 s182 s183 s184 s185 s186 s187 s188 s189 s190 s191 s192 s193 s194 s195 s196 s197 s198 s199 s200 s201 s202 s203 s204 s205 s206 s207 s208 s209 s210 s211 s212 s213 s214 s215 s216 s217 s218 s219 s220 s221 s222 s223 s224 a' w' → J a' w') (hK : ∀ a' w', Met J a' w' → K a' w')
    (o1 : OwnR B wA v1 ks) (kl : ks.length ≤ 40) :
    Code.wp Try.prog cNeed (Exit.then K Q) ⟨#[.int .i64 lv, s1, s2, s3, s4, s5, s6, s7, s8, s9, v1, s11, s12, s13, s14, s15, s16, s17, s18, s19, s20, s21, .slice none 0 0, .int .i64 0, s24, s25, s26, s27, s28, s29, s30, s31, s32, s33, s34, s35, s36, s37, s38, s39, s40, s41, s42, s43, s44, s45, s46, s47, s48, s49, s50, s51, s52, s53, s54, s55, s56, s57, s58, s59, s60, s61, s62, s63, s64, s65, s66, s67, s68, s69, s70, s71, s72, s73, s74, s75, s76, s77, s78, s79, s80, s81, s82, s83, s84, s85, s86, s87, s88, s89, s90, s91, s92, s93, s94, s95, s96, s97, s98, s99, s100, s101, s102, s103, s104, s105, s106, s107, s108, s109, s110, s111, s112, s113, s114, s115, s116, s117, s118, s119, s120, s121, s122, s123, s124, s125, s126, s127, s128, s129, s130, s131, s132, s133, s134, s135, s136, s137, s138, s139, s140, s141, s142, s143, s144, s145, s146, s147, s148, s149, s150, s151, s152, s153, s154, s155, s156, s157, s158, s159, s160, s161, s162, s163, s164, s165, s166, s167, s168, s169, s170, s171, s172, s173, s174, s175, s176, s177, s178, s179, s180, s181, s182, s183, s184, s185, s186, s187, s188, s189, s190, s191, s192, s193, s194, s195, s196, s197, s198, s199, s200, s201, s202, s203, s204, s205, s206, s207, s208, s209, s210, s211, s212, s213, s214, s215, s216, s217, s218, s219, s220, s221, s222, s223, s224], []⟩ wA := by
  obtain ⟨A, c, rfl, hA0, hA1⟩ := OwnR.shape o1
  conv => arg 2; whnf
  dsimp only
  go_wp2
  go_loopw [22, 23] (fun nv jv wr => NeedR lv ks wA nv jv wr) (fun _ jv _ => ks.length - (intOf jv).toNat)
  case atStart => exact ⟨0, Nat.zero_le _, rfl, World.ownsRow_nil _ _ _ _, Keep.refl _ _⟩
  case round =>
    obtain ⟨j, hj, rfl, oN, hw⟩ := hrel
    have HW := Lib.hid hw
    have o1 := OwnR.keep o1 hw (by simp)
    clear hw
    by_cases hlt : j < ks.length
    · have wk : IntKind.i64.wrap ((j : Int) + 1) = (j : Int) + 1 := IntWalk.i64_in _ (by omega)
      cases A with
      | none => rw [hA0 rfl] at hlt; simp at hlt
      | some ad =>
        obtain ⟨g, rfl⟩ := hA1 _ rfl
        obtain ⟨y, hy⟩ : ∃ y, ks[j]? = some y := ⟨_, List.getElem?_eq_getElem hlt⟩
        obtain ⟨_, c1, _, c3, _⟩ := OwnR.cells o1 j y hy
        have nx := needL_next (lv := lv) hy
        have ln : (needL lv (ks.take j)).length ≤ 40 := by
          unfold needL
          rw [List.length_map]
          refine Nat.le_trans (List.length_filter_le _ _) ?_
          rw [List.length_take]; omega
        obtain ⟨x, ex⟩ : ∃ x, y.lo = x := ⟨_, rfl⟩
        obtain ⟨l, el⟩ : ∃ l, y.link = l := ⟨_, rfl⟩
        have ew : wantL lv y = (decide (lv = 3) || (decide (lv = 2) && decide (l ≠ 0))) := by unfold wantL; rw [el]
        rw [ex] at c1 nx
        rw [el] at c3
        obtain ⟨N, eN⟩ : ∃ N, needL lv (ks.take j) = N := ⟨_, rfl⟩
        rw [eN] at oN nx ln
        have hB := HW.out.size
        clear o1 hA0 hA1 hy ex el eN
        by_cases h3 : lv = 3
        · subst h3
          rw [ew, if_pos (by simp)] at nx
          have NX := Lib.hid nx
          clear nx ew
          go_wp2_with (with_reducible refine wp_stop 156 rfl ?_); intro _; refine wp_pushN rfl (.tmp 149) (.tmp 155) rfl wA.heap.size hB u22 N rfl oN x rfl (by omega) ?_; intro g2 c2 y2 o2 k2 hg; have OX := Lib.hid (NX.out ▸ o2); have KX := Lib.hid (own_after oN HW.out k2); clear o2 k2 hg oN; go_wp2; first | exact ⟨⟨j + 1, by omega, by go_num, OX.out, KX.out⟩, by simp [intOf]; omega⟩ | (refine ⟨?rel2, ?meas2⟩; (case meas2 => (simp [intOf]; omega)); (case rel2 => ((repeat apply Exists.intro); exact ⟨⟨j + 1, by omega, by go_num, OX.out, KX.out⟩, rfl⟩)))
        · have d3 : (lv == 3) = false := by simpa using h3
          by_cases h2 : lv = 2
          · subst h2
            by_cases hl : l = 0
            · subst hl
              rw [ew, if_neg (by simp), List.append_nil] at nx
              have OX := Lib.hid (show OwnN wA.heap.size wr u22 (needL 2 (ks.take (j + 1))) by rw [nx]; exact oN)
              clear nx ew oN
              go_wp2
              first | exact ⟨⟨j + 1, by omega, by go_num, OX.out, HW.out⟩, by simp [intOf]; omega⟩ | (refine ⟨?rel2, ?meas2⟩; (case meas2 => (simp [intOf]; omega)); (case rel2 => ((repeat apply Exists.intro); exact ⟨⟨j + 1, by omega, by go_num, OX.out, HW.out⟩, rfl⟩)))
            · have dl : (l != 0) = true := by simpa using hl
              rw [ew, if_pos (by simp [hl])] at nx
              have NX := Lib.hid nx
              clear nx ew hl
              go_wp2_with (with_reducible refine wp_stop 156 rfl ?_); intro _; refine wp_pushN rfl (.tmp 149) (.tmp 155) rfl wA.heap.size hB u22 N rfl oN x rfl (by omega) ?_; intro g2 c2 y2 o2 k2 hg; have OX := Lib.hid (NX.out ▸ o2); have KX := Lib.hid (own_after oN HW.out k2); clear o2 k2 hg oN; go_wp2; first | exact ⟨⟨j + 1, by omega, by go_num, OX.out, KX.out⟩, by simp [intOf]; omega⟩ | (refine ⟨?rel2, ?meas2⟩; (case meas2 => (simp [intOf]; omega)); (case rel2 => ((repeat apply Exists.intro); exact ⟨⟨j + 1, by omega, by go_num, OX.out, KX.out⟩, rfl⟩)))
          · have d2 : (lv == 2) = false := by simpa using h2
            rw [ew, if_neg (by simp [h2, h3]), List.append_nil] at nx
            have OX := Lib.hid (show OwnN wA.heap.size wr u22 (needL lv (ks.take (j + 1))) by rw [nx]; exact oN)
            clear nx ew oN h2 h3
            go_wp2
            first | exact ⟨⟨j + 1, by omega, by go_num, OX.out, HW.out⟩, by simp [intOf]; omega⟩ | (refine ⟨?rel2, ?meas2⟩; (case meas2 => (simp [intOf]; omega)); (case rel2 => ((repeat apply Exists.intro); exact ⟨⟨j + 1, by omega, by go_num, OX.out, HW.out⟩, rfl⟩)))
    · obtain rfl : j = ks.length := by omega
      rw [List.take_length] at oN
      have OX := Lib.hid oN
      clear o1 hA0 hA1 oN
      go_wp2_with fail
      go_meet
      case rel => exact ⟨OX.out, HW.out⟩
def CmpR (n : Nat) (wA : World) (jv : Value) (wr : World) : Prop := ∃ j : Nat, j ≤ n ∧ jv = .int .i64 j ∧ Keep (fun _ => False) wA wr
set_option maxRecDepth 1000000 in
set_option maxHeartbeats 8000000 in
theorem cmpLoop {n BS : Nat} {yv : Value} { s0 s1 s2 s3 s4 s5 s6 s7 s8 s9 s10 s12 s13 s14 s15 s16 s17 s18 s19 s20 s22 s23 s26 s27 s28 s29 s30 s31 s32 s33 s34 s35 s36 s37 s38 s39 s40 s41 s42 s43 s44 s45 s46 s47 s48 s49 s50 s51 s52 s53 s54 s55 s56 s57 s58 s59 s60 s61 s62 s63 s64 s65 s66 s67 s68 s69 s70 s71 s72 s73 s74 s75 s76 s77 s78 s79 s80 s81 s82 s83 s84 s85 s86 s87 s88 s89 s90 s91 s92 s93 s94 s95 s96 s97 s98 s99 s100 s101 s102 s103 s104 s105 s106 s107 s108 s109 s110 s111 s112 s113 s114 s115 s116 s117 s118 s119 s120 s121 s122 s123 s124 s125 s126 s127 s128 s129 s130 s131 s132 s133 s134 s135 s136 s137 s138 s139 s140 s141 s142 s143 s144 s145 s146 s147 s148 s149 s150 s151 s152 s153 s154 s155 s156 s157 s158 s159 s160 s161 s162 s163 s164 s165 s166 s167 s168 s169 s170 s171 s172 s173 s174 s175 s176 s177 s178 s179 s180 s181 s182 s183 s184 s185 s186 s187 s188 s189 s190 s191 s192 s193 s194 s195 s196 s197 s198 s199 s200 s201 s202 s203 s204 s205 s206 s207 s208 s209 s210 s211 s212 s213 s214 s215 s216 s217 s218 s219 s220 s221 s222 s223 s224 : Value}
    (hJ : ∀ a' w', PC wA s0 s1 s2 s3 s4 s5 s6 s7 s9 s10 v2 s12 s13 s14 s15 s16 s17 s18 s19 s20 yv s22 s23 (.int .i64 n) s26 s27 s28 s29 s30 s31 s32 s33 s34 s35 s36 s37 s38 s39 s40 s41 s42 s43 s44 s45 s46 s47 s48 s49 s50 s51 s52 s53 s54 s55 s56 s57 s58 s59 s60 s61 s62 s63 s64 s65 s66 s67 s68 s69 s70 s71 s72 s73 s74 s75 s76 s77 s78 s79 s80 s81 s82 s83 s84 s85 s86 s87 s88 s89 s90 s91 s92 s93 s94 s95 s96 s97 s98 s99 s100 s101 s102 s103 s104 s105 s106 s107 s108 s109 s110 s111 s112 s113 s114 s115 s116 s117 s118 s119 s120 s121 s122 s123 s124 s125 s126 s127 s128 s129 s130 s131 s132 s133 s134 s135 s136 s137 s138 s139 s140 s141 s142 s143 s144 s145 s146 s147 s148 s149 s150 s151 s152 s153 s154 s155 s156 s157 s158 s159 s160 s161 s162 s163 s164 s165 s166 s167 s168 s169 s170 s171 s172 s173 s174 s175 s176 s177 s178 s179 s180 s224 a' w' → J a' w') (hK : ∀ a' w', Met J a' w' → K a' w')
    (o2 : OwnR B wA v2 ss) (sl : ss.length ≤ 40) (hn : n = 0 ∨ n = ss.length) (oS : n ≠ 0 → OwnSc BS wA yv (ss.map (fun x => ⟨x.lo, x.hi, x.z⟩)) T) (sb' : ∀ x ∈ ss, 0 ≤ x.lo ∧ x.lo ≤ x.hi ∧ x.hi ≤ 63 ∧ x.z.length ≤ 5 ∧ Lies wA x.v x.z) :
    Code.wp Try.prog cCmp (Exit.then K Q) ⟨#[s0, s1, s2, s3, s4, s5, s6, s7, s8, s9, s10, v2, s12, s13, s14, s15, s16, s17, s18, s19, s20, yv, s22, s23, .int .i64 n, .int .i64 0, s26, s27, s28, s29, s30, s31, s32, s33, s34, s35, s36, s37, s38, s39, s40, s41, s42, s43, s44, s45, s46, s47, s48, s49, s50, s51, s52, s53, s54, s55, s56, s57, s58, s59, s60, s61, s62, s63, s64, s65, s66, s67, s68, s69, s70, s71, s72, s73, s74, s75, s76, s77, s78, s79, s80, s81, s82, s83, s84, s85, s86, s87, s88, s89, s90, s91, s92, s93, s94, s95, s96, s97, s98, s99, s100, s101, s102, s103, s104, s105, s106, s107, s108, s109, s110, s111, s112, s113, s114, s115, s116, s117, s118, s119, s120, s121, s122, s123, s124, s125, s126, s127, s128, s129, s130, s131, s132, s133, s134, s135, s136, s137, s138, s139, s140, s141, s142, s143, s144, s145, s146, s147, s148, s149, s150, s151, s152, s153, s154, s155, s156, s157, s158, s159, s160, s161, s162, s163, s164, s165, s166, s167, s168, s169, s170, s171, s172, s173, s174, s175, s176, s177, s178, s179, s180, s181, s182, s183, s184, s185, s186, s187, s188, s189, s190, s191, s192, s193, s194, s195, s196, s197, s198, s199, s200, s201, s202, s203, s204, s205, s206, s207, s208, s209, s210, s211, s212, s213, s214, s215, s216, s217, s218, s219, s220, s221, s222, s223, s224], []⟩ wA := by
  obtain ⟨A, c, rfl, hA0, hA1⟩ := OwnR.shape o2
  have OS := Lib.hid oS
  clear oS
  conv => arg 2; whnf
  dsimp only
  go_wp2
  go_loopw [25] (fun jv wr => CmpR n wA jv wr) (fun jv _ => n - (intOf jv).toNat)
  case atStart => exact ⟨0, Nat.zero_le _, rfl, Keep.refl _ _⟩
  case round =>
    obtain ⟨j, hj, rfl, hw⟩ := hrel
    have HW := Lib.hid hw
    have o2 := OwnR.keep o2 hw (by simp)
    by_cases hlt : j < n
    · obtain ⟨⟨Ay, cy, rfl, hc, hf⟩, _, _⟩ := OwnSc.keep (OS.out (by omega)) hw (by simp)
      obtain rfl : n = ss.length := by omega
      rw [List.length_map] at hc hf ⊢
      obtain ⟨gy, rfl, _, _, he⟩ := hf (by omega)
      clear hw hf
      have wk : IntKind.i64.wrap ((j : Int) + 1) = (j : Int) + 1 := IntWalk.i64_in _ (by omega)
      cases A with
      | none => rw [hA0 rfl] at hlt; simp at hlt
      | some ad =>
        obtain ⟨g, rfl⟩ := hA1 _ rfl
        obtain ⟨y, hy⟩ : ∃ y, ss[j]? = some y := ⟨_, List.getElem?_eq_getElem hlt⟩
        obtain ⟨_, c1, c2, _, c4⟩ := OwnR.cells o2 j y hy
        have hb := sb' y (List.mem_of_getElem? hy)
        have hyl := lies_keep hb.2.2.2.2 HW.out
        have hzl := hb.2.2.2.1
        obtain ⟨d1, d2, u, d3, ou, _⟩ := he j ⟨y.lo, y.hi, y.z⟩ (by rw [List.getElem?_map, hy]; rfl)
        have hul := OwnU.lies ou
        obtain ⟨Av, cv, ev, _⟩ := id hyl
        obtain ⟨Au, cu, eu, _⟩ := id hul
        simp only at eu d1 d2
        rw [ev] at c4 hyl
        rw [eu] at d3 hul
        have HS := fun (w : World) (kp : Keep (fun _ => False) wr w) => sameL_d _ _ y.z y.z (by omega) (by omega) true (by simp) w (lies_keep hul kp) (lies_keep hyl kp)
        obtain ⟨lo, ek⟩ : ∃ k, y.lo = k := ⟨_, rfl⟩
        obtain ⟨hi, eh⟩ : ∃ k, y.hi = k := ⟨_, rfl⟩
        rw [ek] at c1 d1
        rw [eh] at c2 d2
        obtain ⟨m, em⟩ : ∃ m, y.z.length = m := ⟨_, rfl⟩
        rw [em] at c4 d3 HS
        have q1 : (lo != lo) = false := by simp
        have q2 : (hi != hi) = false := by simp
        have HS := Lib.hid HS
        clear o2 hA0 hA1 sb' hb hy ek eh em ev eu hyl hul ou he hzl OS
        go_wp2_with fail
        go_quiet ((go_at_call 28; exact Calls.quiet_of (HS.out _ (drewN_keep _ _ _))))
        go_wp2
        first | exact ⟨⟨j + 1, by omega, by go_num, HW.out.trans (drewN_keep _ _ _)⟩, by simp [intOf]; omega⟩ | (refine ⟨?rel2, ?meas2⟩; (case meas2 => (simp [intOf]; omega)); (case rel2 => ((repeat apply Exists.intro); exact ⟨⟨j + 1, by omega, by go_num, HW.out.trans (drewN_keep _ _ _)⟩, rfl⟩)))
    · obtain rfl : j = n := by omega
      clear o2 hA0 hA1 sb' OS hw
      go_wp2_with fail
      go_meet
      case rel => exact HW.out
end
end Go.Proofs.Ytndpifkpgoeogaa.judgeAll
