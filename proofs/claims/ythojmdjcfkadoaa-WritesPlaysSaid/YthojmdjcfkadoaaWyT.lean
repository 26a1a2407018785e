/- WritesPlays, behind the script: All, Len, Get; conditions: what the parts before it have laid. -/
import Derived.Test.YthojmdjcfkadoaaWyB
namespace Go.Proofs.Ythojmdjcfkadoaa.writesPlays
open Go.ChangeShapes Go.WideShapes Go.ChangeAt Go.RowKit
set_option linter.unusedVariables false
noncomputable def cT1 : Code := (Try.f5.body.bind (afterB 0)).getD .skip
noncomputable def cT2 : Code := (Try.f5.body.bind (afterB 4)).getD .skip
noncomputable def cT3 : Code := (Try.f5.body.bind (afterR 38)).getD .skip
/-- What Get tells, by where the key stands. -/
theorem get_at {z : List WrI} {key a : Int} (nd : (z.map WrI.k).Nodup) (h : AtJ z key z.length a) :
    (a = -1 ∧ getI z key = (0, false, false)) ∨ ∃ (m : Nat) (x : WrI), a = (m : Int) ∧ m < z.length ∧ z[m]? = some x ∧ ((x.g = true ∧ getI z key = (0, false, true)) ∨ (x.g = false ∧ getI z key = (x.v, true, true))) := by
  rcases h with ⟨h1, h2⟩ | ⟨m, x, h1, h2, h3, h4⟩
  · refine .inl ⟨h1, ?_⟩
    unfold getI
    rw [wlook_none fun y hy => by obtain ⟨m, hm, rfl⟩ := List.getElem_of_mem hy; exact h2 m _ hm (List.getElem?_eq_getElem hm)]
  · refine .inr ⟨m, x, h1, h2, h3, ?_⟩
    have e := wlook_of nd (List.mem_of_getElem? h3)
    rw [h4] at e
    unfold getI
    rw [e]
    cases hg : x.g
    · exact .inr ⟨rfl, by simp [hg]⟩
    · exact .inl ⟨rfl, by simp [hg]⟩
section
variable {W wA : World} {t : Nat} {S : Nat → Prop} {z : List WrI} {v : Value} {key a : Int} {Q : Exit → Act → World → Prop} {K : Act → World → Prop}
set_option maxRecDepth 1000000 in
set_option maxHeartbeats 8000000 in
theorem tailB { s0 s1 s2 s3 s5 s6 s7 s8 s9 s10 s13 s14 s15 s16 s17 s18 s19 s21 s22 s23 s24 s25 s26 s27 s28 s29 s30 s31 s32 s33 s34 s35 s36 s37 s38 s39 s40 s41 s42 s43 s44 s45 s46 s47 s48 s49 s50 s51 s52 s53 s54 s55 s56 s57 s58 s59 s60 s61 s62 s63 s64 s65 s66 s67 s68 s69 s70 s71 s72 s73 s74 s75 s76 s77 s78 s79 s80 s81 s82 s83 s84 s85 s86 s87 s88 s89 s90 s91 s92 s93 s94 s95 s96 s97 s98 s99 s100 s101 s102 s103 s104 s105 s106 s107 s108 s109 s110 s111 s112 s113 s114 s115 s116 s117 s118 s119 s120 s121 s122 s123 s124 s125 s126 s127 s128 s129 s130 s131 s132 s133 s134 s135 s136 s137 s138 s139 s140 s141 s142 s143 s144 s145 s146 s147 s148 s149 s150 s151 s152 s153 s154 s155 s156 s157 s158 s159 s160 s161 s162 s163 s164 s165 s166 s167 s168 s169 s170 s171 s172 s173 s174 s175 s176 s177 s178 s179 s180 s181 s182 s183 s184 s185 s186 s187 s188 s189 s190 s191 s192 s193 s194 s195 s196 s197 s198 s199 s200 s201 s202 s203 s204 s205 s206 s207 s208 s209 s210 s211 s212 s213 s214 s215 s216 s217 s218 s219 s220 s221 s222 s223 s224 s225 s226 s227 s228 s229 s230 s231 s232 s233 s234 s235 s236 s237 s238 s239 s240 s241 s242 s243 s244 s245 s246 s247 s248 s249 s250 s251 s252 s253 s254 s255 s256 s257 s258 s259 s260 s261 s262 s263 s264 s265 s266 s267 s268 s269 s270 s271 s272 s273 s274 s275 s276 s277 s278 s279 s280 s281 s282 s283 s284 s285 s286 s287 s288 s289 s290 s291 s292 s293 s294 s295 s296 s297 s298 s299 s300 s301 s302 s303 s304 s305 s306 s307 s308 s309 s310 s311 s312 s313 s314 s315 s316 s317 s318 s319 s320 s321 s322 s323 s324 s325 s326 s327 s328 s329 s330 s331 s332 s333 s334 s335 s336 s337 s338 s339 s340 s341 : Value}
    (A : A14 W wA t S z v z) (zl : z.length ≤ 60) (hA : AtJ z key z.length a)
    (hT : ∀ S2 w2 u22 u23 u24 u178 u179 u180 u181 u182 u183 u184 u185 u186 u187 u188 u189 u190 u191 u192 u193 u194 u195 u196 u197 u198 u199 u200 u201 u202 u203 u204 u205 u206 u207 u208 u209 u210 u211 u212 u213 u214 u215 u216 u217 u218 u219 u220 u221 u222, A14 W w2 t S2 z v z → Code.wp Try.prog cT3 Q ⟨#[s0, s1, s2, s3, .int .i64 key, s5, s6, s7, s8, s9, s10, .pointer (some ⟨t, 0, none⟩), v, s13, s14, s15, s16, s17, s18, s19, .int .i64 a, s21, u22, u23, u24, s25, s26, s27, s28, s29, s30, s31, s32, s33, s34, s35, s36, s37, s38, s39, s40, s41, s42, s43, s44, s45, s46, s47, s48, s49, s50, s51, s52, s53, s54, s55, s56, s57, s58, s59, s60, s61, s62, s63, s64, s65, s66, s67, s68, s69, s70, s71, s72, s73, s74, s75, s76, s77, s78, s79, s80, s81, s82, s83, s84, s85, s86, s87, s88, s89, s90, s91, s92, s93, s94, s95, s96, s97, s98, s99, s100, s101, s102, s103, s104, s105, s106, s107, s108, s109, s110, s111, s112, s113, s114, s115, s116, s117, s118, s119, s120, s121, s122, s123, s124, s125, s126, s127, s128, s129, s130, s131, s132, s133, s134, s135, s136, s137, s138, s139, s140, s141, s142, s143, s144, s145, s146, s147, s148, s149, s150, s151, s152, s153, s154, s155, s156, s157, s158, s159, s160, s161, s162, s163, s164, s165, s166, s167, s168, s169, s170, s171, s172, s173, s174, s175, s176, s177, u178, u179, u180, u181, u182, u183, u184, u185, u186, u187, u188, u189, u190, u191, u192, u193, u194, u195, u196, u197, u198, u199, u200, u201, u202, u203, u204, u205, u206, u207, u208, u209, u210, u211, u212, u213, u214, u215, u216, u217, u218, u219, u220, u221, u222, s223, s224, s225, s226, s227, s228, s229, s230, s231, s232, s233, s234, s235, s236, s237, s238, s239, s240, s241, s242, s243, s244, s245, s246, s247, s248, s249, s250, s251, s252, s253, s254, s255, s256, s257, s258, s259, s260, s261, s262, s263, s264, s265, s266, s267, s268, s269, s270, s271, s272, s273, s274, s275, s276, s277, s278, s279, s280, s281, s282, s283, s284, s285, s286, s287, s288, s289, s290, s291, s292, s293, s294, s295, s296, s297, s298, s299, s300, s301, s302, s303, s304, s305, s306, s307, s308, s309, s310, s311, s312, s313, s314, s315, s316, s317, s318, s319, s320, s321, s322, s323, s324, s325, s326, s327, s328, s329, s330, s331, s332, s333, s334, s335, s336, s337, s338, s339, s340, s341], []⟩ w2) :
    Code.wp Try.prog cT2 Q ⟨#[s0, s1, s2, s3, .int .i64 key, s5, s6, s7, s8, s9, s10, .pointer (some ⟨t, 0, none⟩), v, s13, s14, s15, s16, s17, s18, s19, .int .i64 a, s21, s22, s23, s24, s25, s26, s27, s28, s29, s30, s31, s32, s33, s34, s35, s36, s37, s38, s39, s40, s41, s42, s43, s44, s45, s46, s47, s48, s49, s50, s51, s52, s53, s54, s55, s56, s57, s58, s59, s60, s61, s62, s63, s64, s65, s66, s67, s68, s69, s70, s71, s72, s73, s74, s75, s76, s77, s78, s79, s80, s81, s82, s83, s84, s85, s86, s87, s88, s89, s90, s91, s92, s93, s94, s95, s96, s97, s98, s99, s100, s101, s102, s103, s104, s105, s106, s107, s108, s109, s110, s111, s112, s113, s114, s115, s116, s117, s118, s119, s120, s121, s122, s123, s124, s125, s126, s127, s128, s129, s130, s131, s132, s133, s134, s135, s136, s137, s138, s139, s140, s141, s142, s143, s144, s145, s146, s147, s148, s149, s150, s151, s152, s153, s154, s155, s156, s157, s158, s159, s160, s161, s162, s163, s164, s165, s166, s167, s168, s169, s170, s171, s172, s173, s174, s175, s176, s177, s178, s179, s180, s181, s182, s183, s184, s185, s186, s187, s188, s189, s190, s191, s192, s193, s194, s195, s196, s197, s198, s199, s200, s201, s202, s203, s204, s205, s206, s207, s208, s209, s210, s211, s212, s213, s214, s215, s216, s217, s218, s219, s220, s221, s222, s223, s224, s225, s226, s227, s228, s229, s230, s231, s232, s233, s234, s235, s236, s237, s238, s239, s240, s241, s242, s243, s244, s245, s246, s247, s248, s249, s250, s251, s252, s253, s254, s255, s256, s257, s258, s259, s260, s261, s262, s263, s264, s265, s266, s267, s268, s269, s270, s271, s272, s273, s274, s275, s276, s277, s278, s279, s280, s281, s282, s283, s284, s285, s286, s287, s288, s289, s290, s291, s292, s293, s294, s295, s296, s297, s298, s299, s300, s301, s302, s303, s304, s305, s306, s307, s308, s309, s310, s311, s312, s313, s314, s315, s316, s317, s318, s319, s320, s321, s322, s323, s324, s325, s326, s327, s328, s329, s330, s331, s332, s333, s334, s335, s336, s337, s338, s339, s340, s341], []⟩ wA := by
  obtain ⟨nd, z0⟩ : (z.map WrI.k).Nodup ∧ True := ⟨by obtain ⟨v0, a, _⟩ := A.r.a; exact a.nd, trivial⟩
  have hg := get_at nd hA
  obtain ⟨A1, c1, e1, hA0, hA1⟩ := OwnW.shape A.o
  have HT := Lib.hid hT
  clear hT z0 hA nd
  conv => arg 2; whnf
  dsimp only
  subst e1
  rcases hg with ⟨rfl, hg⟩ | ⟨m, x, rfl, hm, hx, hg⟩
  · go_wp2_with fail
    refine (wr_get A.r key _ _ _ hg).mono ?_
    rintro e w1 ⟨rfl, S1, C1, k1⟩
    have A := A.step C1 k1
    clear C1 k1 hg hA0 hA1
    go_upto_region 38 with fail
    rename_i Ko hKo K5 hK5
    have HK := Lib.hid hKo
    clear hKo
    go_wp2_with fail
    exact HK.out _ _ (HT.out _ _ _ _ _ _ _ _ _ _ _ _ _ _ _ _ _ _ _ _ _ _ _ _ _ _ _ _ _ _ _ _ _ _ _ _ _ _ _ _ _ _ _ _ _ _ _ _ _ _ A)
  · cases A1 with
    | none => rw [hA0 rfl] at hm; simp at hm
    | some ad =>
      obtain ⟨g, rfl⟩ := hA1 _ rfl
      rcases hg with ⟨hx2, hg⟩ | ⟨hx2, hg⟩
      · go_wp2_with fail
        refine (wr_get A.r key _ _ _ hg).mono ?_
        rintro e w1 ⟨rfl, S1, C1, k1⟩
        have A := A.step C1 k1
        obtain ⟨c0, c1', c2⟩ := OwnW.cells A.o m x hx
        rw [hx2] at c2
        clear C1 k1 hg hA0 hA1 hx hx2
        go_upto_region 38 with fail
        rename_i Ko hKo K5 hK5
        have HK := Lib.hid hKo
        clear hKo
        go_wp2_with fail
        exact HK.out _ _ (HT.out _ _ _ _ _ _ _ _ _ _ _ _ _ _ _ _ _ _ _ _ _ _ _ _ _ _ _ _ _ _ _ _ _ _ _ _ _ _ _ _ _ _ _ _ _ _ _ _ _ _ A)
      · go_wp2_with fail
        refine (wr_get A.r key _ _ _ hg).mono ?_
        rintro e w1 ⟨rfl, S1, C1, k1⟩
        have A := A.step C1 k1
        obtain ⟨c0, c1', c2⟩ := OwnW.cells A.o m x hx
        rw [hx2] at c2
        clear C1 k1 hg hA0 hA1 hx hx2
        go_upto_region 38 with fail
        rename_i Ko hKo K5 hK5
        have HK := Lib.hid hKo
        clear hKo
        go_wp2_with fail
        exact HK.out _ _ (HT.out _ _ _ _ _ _ _ _ _ _ _ _ _ _ _ _ _ _ _ _ _ _ _ _ _ _ _ _ _ _ _ _ _ _ _ _ _ _ _ _ _ _ _ _ _ _ _ _ _ _ A)
set_option maxRecDepth 1000000 in
set_option maxHeartbeats 8000000 in
theorem tailA { s0 s1 s2 s3 s5 s6 s7 s8 s9 s10 s13 s14 s15 s16 s17 s18 s19 s20 s21 s22 s23 s24 s25 s26 s27 s28 s29 s30 s31 s32 s33 s34 s35 s36 s37 s38 s39 s40 s41 s42 s43 s44 s45 s46 s47 s48 s49 s50 s51 s52 s53 s54 s55 s56 s57 s58 s59 s60 s61 s62 s63 s64 s65 s66 s67 s68 s69 s70 s71 s72 s73 s74 s75 s76 s77 s78 s79 s80 s81 s82 s83 s84 s85 s86 s87 s88 s89 s90 s91 s92 s93 s94 s95 s96 s97 s98 s99 s100 s101 s102 s103 s104 s105 s106 s107 s108 s109 s110 s111 s112 s113 s114 s115 s116 s117 s118 s119 s120 s121 s122 s123 s124 s125 s126 s127 s128 s129 s130 s131 s132 s133 s134 s135 s136 s137 s138 s139 s140 s141 s142 s143 s144 s145 s146 s147 s148 s149 s150 s151 s152 s153 s154 s155 s156 s157 s158 s159 s160 s161 s162 s163 s164 s165 s166 s167 s168 s169 s170 s171 s172 s173 s174 s175 s176 s177 s178 s179 s180 s181 s182 s183 s184 s185 s186 s187 s188 s189 s190 s191 s192 s193 s194 s195 s196 s197 s198 s199 s200 s201 s202 s203 s204 s205 s206 s207 s208 s209 s210 s211 s212 s213 s214 s215 s216 s217 s218 s219 s220 s221 s222 s223 s224 s225 s226 s227 s228 s229 s230 s231 s232 s233 s234 s235 s236 s237 s238 s239 s240 s241 s242 s243 s244 s245 s246 s247 s248 s249 s250 s251 s252 s253 s254 s255 s256 s257 s258 s259 s260 s261 s262 s263 s264 s265 s266 s267 s268 s269 s270 s271 s272 s273 s274 s275 s276 s277 s278 s279 s280 s281 s282 s283 s284 s285 s286 s287 s288 s289 s290 s291 s292 s293 s294 s295 s296 s297 s298 s299 s300 s301 s302 s303 s304 s305 s306 s307 s308 s309 s310 s311 s312 s313 s314 s315 s316 s317 s318 s319 s320 s321 s322 s323 s324 s325 s326 s327 s328 s329 s330 s331 s332 s333 s334 s335 s336 s337 s338 s339 s340 s341 : Value}
    (A : A14 W wA t S z v z) (zl : z.length ≤ 60)
    (hT : ∀ S2 w2 u10 u19 u20 u21 u22 u23 u24 u141 u142 u143 u144 u145 u146 u147 u148 u149 u150 u151 u152 u153 u154 u155 u156 u157 u158 u159 u160 u161 u162 u163 u164 u165 u166 u167 u168 u169 u170 u171 u172 u173 u174 u175 u176 u177 u178 u179 u180 u181 u182 u183 u184 u185 u186 u187 u188 u189 u190 u191 u192 u193 u194 u195 u196 u197 u198 u199 u200 u201 u202 u203 u204 u205 u206 u207 u208 u209 u210 u211 u212 u213 u214 u215 u216 u217 u218 u219 u220 u221 u222, A14 W w2 t S2 z v z → Code.wp Try.prog cT3 Q ⟨#[s0, s1, s2, s3, .int .i64 key, s5, s6, s7, s8, s9, u10, .pointer (some ⟨t, 0, none⟩), v, s13, s14, s15, s16, s17, s18, u19, u20, u21, u22, u23, u24, s25, s26, s27, s28, s29, s30, s31, s32, s33, s34, s35, s36, s37, s38, s39, s40, s41, s42, s43, s44, s45, s46, s47, s48, s49, s50, s51, s52, s53, s54, s55, s56, s57, s58, s59, s60, s61, s62, s63, s64, s65, s66, s67, s68, s69, s70, s71, s72, s73, s74, s75, s76, s77, s78, s79, s80, s81, s82, s83, s84, s85, s86, s87, s88, s89, s90, s91, s92, s93, s94, s95, s96, s97, s98, s99, s100, s101, s102, s103, s104, s105, s106, s107, s108, s109, s110, s111, s112, s113, s114, s115, s116, s117, s118, s119, s120, s121, s122, s123, s124, s125, s126, s127, s128, s129, s130, s131, s132, s133, s134, s135, s136, s137, s138, s139, s140, u141, u142, u143, u144, u145, u146, u147, u148, u149, u150, u151, u152, u153, u154, u155, u156, u157, u158, u159, u160, u161, u162, u163, u164, u165, u166, u167, u168, u169, u170, u171, u172, u173, u174, u175, u176, u177, u178, u179, u180, u181, u182, u183, u184, u185, u186, u187, u188, u189, u190, u191, u192, u193, u194, u195, u196, u197, u198, u199, u200, u201, u202, u203, u204, u205, u206, u207, u208, u209, u210, u211, u212, u213, u214, u215, u216, u217, u218, u219, u220, u221, u222, s223, s224, s225, s226, s227, s228, s229, s230, s231, s232, s233, s234, s235, s236, s237, s238, s239, s240, s241, s242, s243, s244, s245, s246, s247, s248, s249, s250, s251, s252, s253, s254, s255, s256, s257, s258, s259, s260, s261, s262, s263, s264, s265, s266, s267, s268, s269, s270, s271, s272, s273, s274, s275, s276, s277, s278, s279, s280, s281, s282, s283, s284, s285, s286, s287, s288, s289, s290, s291, s292, s293, s294, s295, s296, s297, s298, s299, s300, s301, s302, s303, s304, s305, s306, s307, s308, s309, s310, s311, s312, s313, s314, s315, s316, s317, s318, s319, s320, s321, s322, s323, s324, s325, s326, s327, s328, s329, s330, s331, s332, s333, s334, s335, s336, s337, s338, s339, s340, s341], []⟩ w2) :
    Code.wp Try.prog cT1 Q ⟨#[s0, s1, s2, s3, .int .i64 key, s5, s6, s7, s8, s9, s10, .pointer (some ⟨t, 0, none⟩), v, s13, s14, s15, s16, s17, s18, s19, s20, s21, s22, s23, s24, s25, s26, s27, s28, s29, s30, s31, s32, s33, s34, s35, s36, s37, s38, s39, s40, s41, s42, s43, s44, s45, s46, s47, s48, s49, s50, s51, s52, s53, s54, s55, s56, s57, s58, s59, s60, s61, s62, s63, s64, s65, s66, s67, s68, s69, s70, s71, s72, s73, s74, s75, s76, s77, s78, s79, s80, s81, s82, s83, s84, s85, s86, s87, s88, s89, s90, s91, s92, s93, s94, s95, s96, s97, s98, s99, s100, s101, s102, s103, s104, s105, s106, s107, s108, s109, s110, s111, s112, s113, s114, s115, s116, s117, s118, s119, s120, s121, s122, s123, s124, s125, s126, s127, s128, s129, s130, s131, s132, s133, s134, s135, s136, s137, s138, s139, s140, s141, s142, s143, s144, s145, s146, s147, s148, s149, s150, s151, s152, s153, s154, s155, s156, s157, s158, s159, s160, s161, s162, s163, s164, s165, s166, s167, s168, s169, s170, s171, s172, s173, s174, s175, s176, s177, s178, s179, s180, s181, s182, s183, s184, s185, s186, s187, s188, s189, s190, s191, s192, s193, s194, s195, s196, s197, s198, s199, s200, s201, s202, s203, s204, s205, s206, s207, s208, s209, s210, s211, s212, s213, s214, s215, s216, s217, s218, s219, s220, s221, s222, s223, s224, s225, s226, s227, s228, s229, s230, s231, s232, s233, s234, s235, s236, s237, s238, s239, s240, s241, s242, s243, s244, s245, s246, s247, s248, s249, s250, s251, s252, s253, s254, s255, s256, s257, s258, s259, s260, s261, s262, s263, s264, s265, s266, s267, s268, s269, s270, s271, s272, s273, s274, s275, s276, s277, s278, s279, s280, s281, s282, s283, s284, s285, s286, s287, s288, s289, s290, s291, s292, s293, s294, s295, s296, s297, s298, s299, s300, s301, s302, s303, s304, s305, s306, s307, s308, s309, s310, s311, s312, s313, s314, s315, s316, s317, s318, s319, s320, s321, s322, s323, s324, s325, s326, s327, s328, s329, s330, s331, s332, s333, s334, s335, s336, s337, s338, s339, s340, s341], []⟩ wA := by
  obtain ⟨A1, c1, e1, _, _⟩ := OwnW.shape A.o
  have HT := Lib.hid hT
  clear hT
  conv => arg 2; whnf
  dsimp only
  subst e1
  go_wp2_with fail
  refine (wr_all A.r).mono ?_
  rintro e w1 ⟨u, S1, rfl, ou, du, C1, k1⟩
  have A := A.step C1 k1
  obtain ⟨A2, c2, rfl, _, _⟩ := OwnW.shape ou
  clear C1 k1
  go_wp2_with fail
  refine (wr_len A.r _ rfl).mono ?_
  rintro e w2 ⟨rfl, S2, C2, k2⟩
  have ou2 := OwnW.keep ou k2.1 du
  have A := A.step C2 k2
  clear C2 k2 ou du
  go_upto_block 4 with fail
  rename_i K5 hK5
  go_cut [20] from 155 to 177 (fun av wx => (∃ a, av = .int .i64 a ∧ AtJ z key z.length a) ∧ ∃ d : Nat, wx = w2.drewN d)
  case first =>
    rename_i J6 K6 hJ6 hK6
    exact allLoop hJ6 hK6 A.o ou2 zl
  case rest =>
    obtain ⟨⟨a, rfl, hA⟩, d, rfl⟩ := hcut
    exact hK5 _ _ (tailB (A.quiet (drewN_keep _ _ _)) zl hA (fun S3 w3 x22 x23 x24 x178 x179 x180 x181 x182 x183 x184 x185 x186 x187 x188 x189 x190 x191 x192 x193 x194 x195 x196 x197 x198 x199 x200 x201 x202 x203 x204 x205 x206 x207 x208 x209 x210 x211 x212 x213 x214 x215 x216 x217 x218 x219 x220 x221 x222 A3 => HT.out S3 w3 _ _ _ _ _ _ _ _ _ _ _ _ _ _ _ _ _ _ _ _ _ _ _ _ _ _ _ _ _ _ _ _ _ _ _ _ _ _ _ _ _ _ _ _ _ _ _ _ _ _ _ _ _ _ _ _ _ _ _ _ _ _ _ _ _ _ _ _ _ _ _ _ _ _ _ _ _ _ _ _ _ _ _ _ _ _ _ _ _ A3))
end
end Go.Proofs.Ythojmdjcfkadoaa.writesPlays
