/- RecPlays, what is behind the switch; conditions: what the parts before it have laid. -/
import Derived.Test.YthmohehmpleciaaRpA
open Go Go.ChangeShapes Go.WideShapes Go.ChangeAt Go.RowKit
set_option linter.unusedVariables false
namespace Go.Proofs.Ythmohehmpleciaa.recPlays
set_option maxRecDepth 1000000 in
set_option maxHeartbeats 16000000 in
theorem rest3 {W wc : World} {o : Nat → Nat} {p : Nat} {S3 : Nat → Prop} {st2 : RS} {k pr b1 b2 : Nat} {v32 : Value} {lv : Value} {zs2 : List Int} {vv : Value} {vs2 : List Ver} {Q : Exit → Act → World → Prop} {JE KE : Act → World → Prop} { s0 s1 s2 s3 s4 s6 s11 s12 s13 s14 s15 s16 s17 s18 s19 s20 s21 s22 s23 s24 s25 s26 s27 s28 s29 s30 s31 s32 s33 s34 s35 s36 s37 s38 s39 s40 s41 s42 s43 s44 s45 s46 s47 s48 s49 s50 s51 s52 s53 s54 s55 s56 s57 s58 s59 s60 s61 s62 s63 s64 s65 s66 s67 s68 s69 s70 s71 s72 s73 s74 s75 s76 s77 s78 s79 s80 s81 s82 s83 s84 s85 s86 s87 s88 s89 s90 s91 s92 s93 s94 s95 s96 s97 s98 s99 s100 s101 s102 s103 s104 s105 s106 s107 s108 s109 s110 s111 s112 s113 s114 s115 s116 s117 s118 s119 s120 s121 s122 s123 s124 s125 s126 s127 s128 s129 s130 s131 s132 s133 s134 s135 s136 s137 s138 s139 s140 s141 s142 s143 s144 s145 s146 s147 s148 s149 s150 s151 s152 s153 s154 s155 s156 s157 s158 s159 s160 s161 s162 s163 s164 s165 s166 s167 s168 s169 s170 s171 s172 s173 s174 s175 s176 s177 s178 s179 s180 s181 s182 s183 s184 s185 s186 s187 s188 s189 s190 s191 s192 s193 s194 s195 s196 s197 s198 s199 s200 s201 s202 s203 s204 s205 s206 s207 s208 s209 s210 s211 s212 s213 s214 s215 s216 s217 s218 s219 s220 s221 s222 s223 s224 s225 s226 s227 s228 s229 s230 s231 s232 s233 s234 s235 s236 s237 s238 s239 s240 s241 s242 s243 s244 s245 s246 s247 s248 s249 s250 s251 s252 s253 s254 s255 s256 s257 s258 s259 s260 s261 s262 s263 s264 s265 s266 s267 s268 s269 s270 s271 s272 s273 s274 s275 s276 s277 s278 s279 s280 s281 s282 s283 s284 s285 s286 s287 s288 s289 s290 s291 s292 s293 s294 s295 s296 s297 s298 s299 s300 s301 s302 s303 s304 s305 s306 s307 s308 s309 s310 s311 s312 s313 s314 s315 s316 s317 s318 s319 s320 s321 s322 s323 s324 s325 s326 s327 s328 s329 s330 s331 s332 s333 s334 s335 s336 s337 s338 s339 s340 s341 s342 s343 s344 s345 s346 s347 s348 s349 s350 s351 s352 s353 s354 s355 s356 s357 s358 s359 s360 s361 s362 s364 s365 s366 s367 s368 s369 s370 s371 s372 s373 s374 s375 s376 s377 s378 : Value}
    (hJE : ∀ a' w', PE W p pr b1 b2 k s0 s1 s2 s3 s6 s25 s26 s27 s28 s29 s30 s31 s32 s33 s34 s35 s36 s37 s38 s39 s40 s41 s42 s43 s44 s45 s46 s47 s48 s49 s50 s51 s52 s53 s54 s55 s56 s57 s58 s59 s60 s61 s378 a' w' → JE a' w') (hKE : ∀ a' w', Met JE a' w' → KE a' w') (hQp : RowKit.Hid (∀ c a d v w, Q (.panic c) (a.put d v) w → Q (.panic c) a w))
    (h80 : k < 80) (zl2 : zs2.length ≤ k + 1) (zb2 : ∀ j, U64 (zs2.getD j 0)) (I2 : Inv st2 zs2 vs2) (A : All W wc o p S3 st2.tick (8 * k + 3) pr b1 b2 v32 st2.s lv zs2 vv vs2) :
    Code.wp Try.prog cRest3 (Exit.inBlock 1 (Exit.then KE Q)) ⟨#[s0, s1, s2, s3, s4, .pointer (some ⟨p, 0, none⟩), s6, .pointer (some ⟨pr, 0, none⟩), lv, vv, .int .i64 k, s11, s12, s13, s14, s15, s16, s17, s18, s19, s20, s21, s22, s23, s24, s25, s26, s27, s28, s29, s30, s31, s32, s33, s34, s35, s36, s37, s38, s39, s40, s41, s42, s43, s44, s45, s46, s47, s48, s49, s50, s51, s52, s53, s54, s55, s56, s57, s58, s59, s60, s61, s62, s63, s64, s65, s66, s67, s68, s69, s70, s71, s72, s73, s74, s75, s76, s77, s78, s79, s80, s81, s82, s83, s84, s85, s86, s87, s88, s89, s90, s91, s92, s93, s94, s95, s96, s97, s98, s99, s100, s101, s102, s103, s104, s105, s106, s107, s108, s109, s110, s111, s112, s113, s114, s115, s116, s117, s118, s119, s120, s121, s122, s123, s124, s125, s126, s127, s128, s129, s130, s131, s132, s133, s134, s135, s136, s137, s138, s139, s140, s141, s142, s143, s144, s145, s146, s147, s148, s149, s150, s151, s152, s153, s154, s155, s156, s157, s158, s159, s160, s161, s162, s163, s164, s165, s166, s167, s168, s169, s170, s171, s172, s173, s174, s175, s176, s177, s178, s179, s180, s181, s182, s183, s184, s185, s186, s187, s188, s189, s190, s191, s192, s193, s194, s195, s196, s197, s198, s199, s200, s201, s202, s203, s204, s205, s206, s207, s208, s209, s210, s211, s212, s213, s214, s215, s216, s217, s218, s219, s220, s221, s222, s223, s224, s225, s226, s227, s228, s229, s230, s231, s232, s233, s234, s235, s236, s237, s238, s239, s240, s241, s242, s243, s244, s245, s246, s247, s248, s249, s250, s251, s252, s253, s254, s255, s256, s257, s258, s259, s260, s261, s262, s263, s264, s265, s266, s267, s268, s269, s270, s271, s272, s273, s274, s275, s276, s277, s278, s279, s280, s281, s282, s283, s284, s285, s286, s287, s288, s289, s290, s291, s292, s293, s294, s295, s296, s297, s298, s299, s300, s301, s302, s303, s304, s305, s306, s307, s308, s309, s310, s311, s312, s313, s314, s315, s316, s317, s318, s319, s320, s321, s322, s323, s324, s325, s326, s327, s328, s329, s330, s331, s332, s333, s334, s335, s336, s337, s338, s339, s340, s341, s342, s343, s344, s345, s346, s347, s348, s349, s350, s351, s352, s353, s354, s355, s356, s357, s358, s359, s360, s361, s362, .bool false, s364, s365, s366, s367, s368, s369, s370, s371, s372, s373, s374, s375, s376, s377, s378], []⟩ wc := by
  conv => arg 2; whnf
  have ul0 := used_len A.r.ok
  have ul : st2.used = (st2.links.length : Int) := ul0
  clear ul0
  have ll : st2.links.length ≤ 4096 := Nat.le_trans (allTo_len st2.s _) A.r.ok.p.n1
  obtain ⟨zz, ezz⟩ : ∃ zz, st2.links = zz := ⟨_, rfl⟩
  rw [ezz] at ul ll
  skip
  go_wp2_with fail
  refine (v_used A.r (by omega) zz.length ul).mono ?_
  rintro e z1 ⟨rfl, S4, h4, k4⟩
  obtain ⟨o4, A, _⟩ := A.vstep h4 k4
  clear h4 k4 ul
  go_wp2_with fail
  refine (rall_any A.rf A.r.ok.p).mono ?_
  rintro e z2 ⟨va, rfl, oa, ba⟩
  have oa : OwnU z1.heap.size z2 va zz := by rw [← ezz]; exact oa
  obtain ⟨La, ca, eva, _, _⟩ := oa.out
  subst eva
  obtain ⟨o5, A, _, _⟩ := A.quiet (Keep.of_below ba (fun _ => False))
  clear ba oa
  go_wp2_with fail
  refine (v_links A.r (by omega) zz ezz).mono ?_
  rintro e z3 ⟨vl2, S6, rfl, ol, nl, h6, k6⟩
  obtain ⟨o6, A, _⟩ := A.vstep h6 k6
  clear h6 k6
  go_wp2_with fail
  refine (rall_any A.rf A.r.ok.p).mono ?_
  rintro e z4 ⟨va2, rfl, oa2, ba2⟩
  have oa2 : OwnU z3.heap.size z4 va2 zz := by rw [← ezz]; exact oa2
  have ol := ol.keep (Keep.of_below ba2 (fun _ => False)) (by simp)
  obtain ⟨o7, A, _, _⟩ := A.quiet (Keep.of_below ba2 (fun _ => False))
  clear ba2
  go_wp2_with fail
  refine (same_own ol oa2 (by omega)).mono ?_
  rintro e z5 ⟨rfl, d2, rfl⟩
  obtain ⟨o8, A, _, _⟩ := A.quiet (drewN_keep (fun _ => False) z4 d2)
  clear ol oa2 ezz
  go_wp2
  go_meet
  case rel => exact ⟨o8, S6, st2.tick.tick.tick, v32, zs2, vs2, zl2, zb2, ⟨I2.len, I2.h⟩, A.more (by omega)⟩
end Go.Proofs.Ythmohehmpleciaa.recPlays
namespace Go.Proofs.Ythmohehmpleciaa.recPlays
set_option maxRecDepth 1000000 in
set_option maxHeartbeats 16000000 in
theorem look_true {W wV : World} {oV : Nat → Nat} {p : Nat} {S3 : Nat → Prop} {st2 : RS} {k pr b1 b2 vb : Nat} {v32 : Value} {lv : Value} {zs2 : List Int} {vv2 : Value} {vs2 : List Ver} {l a2 : Int} {xk xv xb xe xn : Int} {Q : Exit → Act → World → Prop} {J K : Act → World → Prop} { s0 s1 s2 s3 s4 s5 s6 s7 s8 s10 s11 s12 s14 s16 s17 s18 s19 s20 s21 s22 s25 s26 s27 s28 s29 s30 s31 s32 s33 s34 s35 s36 s37 s38 s39 s40 s41 s42 s43 s44 s45 s46 s47 s48 s49 s50 s51 s52 s53 s54 s55 s56 s57 s58 s59 s60 s61 s62 s63 s64 s65 s66 s67 s68 s69 s70 s71 s72 s73 s74 s75 s76 s77 s78 s79 s80 s81 s82 s83 s84 s85 s86 s87 s88 s89 s90 s91 s92 s93 s94 s95 s96 s97 s98 s99 s100 s101 s102 s103 s104 s105 s106 s107 s108 s109 s110 s111 s112 s113 s114 s115 s116 s117 s118 s119 s120 s121 s122 s123 s124 s125 s126 s127 s128 s129 s130 s131 s132 s133 s134 s135 s136 s137 s138 s139 s140 s141 s142 s143 s144 s145 s146 s147 s148 s149 s150 s151 s152 s153 s154 s155 s156 s157 s158 s159 s160 s161 s162 s163 s164 s165 s166 s167 s168 s169 s170 s171 s172 s173 s174 s175 s176 s177 s178 s179 s180 s181 s182 s183 s184 s185 s186 s187 s188 s189 s190 s191 s192 s193 s194 s195 s196 s197 s198 s199 s200 s201 s202 s203 s204 s205 s206 s207 s208 s209 s210 s211 s212 s213 s214 s215 s216 s217 s218 s219 s220 s221 s222 s223 s224 s225 s226 s227 s228 s229 s230 s231 s232 s233 s234 s235 s236 s237 s238 s239 s240 s241 s242 s243 s244 s245 s246 s247 s248 s249 s250 s251 s252 s253 s254 s255 s256 s257 s258 s259 s260 s261 s262 s263 s264 s265 s266 s267 s268 s269 s270 s271 s272 s273 s274 s275 s276 s277 s278 s279 s280 s281 s282 s283 s284 s285 s286 s287 s288 s289 s290 s291 s292 s293 s294 s295 s296 s297 s298 s299 s300 s301 s302 s303 s304 s305 s306 s307 s308 s309 s310 s311 s312 s313 s314 s315 s316 s317 s318 s319 s320 s321 s322 s323 s324 s325 s326 s327 s328 s329 s330 s331 s332 s333 s334 s335 s336 s337 s338 s339 s340 s341 s342 s343 s344 s345 s346 s347 s348 s349 s350 s351 s352 s353 s354 s355 s356 s357 s358 s359 s360 s361 s362 s363 s364 s365 s366 s367 s368 s369 s370 s371 s372 s373 s374 s375 s376 s377 s378 : Value}
    (hJ : ∀ a' w', PL wV s0 s1 s2 s3 s4 s5 s6 s7 s8 vv2 s10 s11 s12 (.int .i64 a2) s14 (.bool true) s16 s17 s18 s19 s20 s21 s22 (.pointer (some ⟨vb, 0, none⟩)) (.bool true) s25 s26 s27 s28 s29 s30 s31 s32 s33 s34 s35 s36 s37 s38 s39 s40 s41 s42 s43 s44 s45 s46 s47 s48 s49 s50 s51 s52 s53 s54 s55 s56 s57 s58 s59 s60 s61 s378 a' w' → J a' w') (hK : ∀ a' w', Met J a' w' → K a' w') (hQp : RowKit.Hid (∀ c a d v w, Q (.panic c) (a.put d v) w → Q (.panic c) a w))
    (I2 : Inv st2 zs2 vs2) (A : All W wV oV p S3 st2.tick (8 * k + 3) pr b1 b2 v32 st2.s lv zs2 vv2 vs2) (X : Mine oV wV vb [.int .i64 xk, .int .i64 xv, .int .u64 xb, .int .u64 xe, .int .u64 xn])
    (LV : RowKit.Hid (st2.s.live l = true)) (A2T : RowKit.Hid (lastF (-1) zs2 l zs2.length = a2)) (HX : RowKit.Hid ((true = true → (⟨xk, xv, xb, xe, xn⟩ : Ver) = st2.ver (slotOf l)) ∧ (true = false → (⟨xk, xv, xb, xe, xn⟩ : Ver) = ⟨0, 0, 0, 0, 0⟩))) :
    Code.wp Try.prog cLook (Exit.then K Q) ⟨#[s0, s1, s2, s3, s4, s5, s6, s7, s8, vv2, s10, s11, s12, .int .i64 a2, s14, .bool true, s16, s17, s18, s19, s20, s21, s22, .pointer (some ⟨vb, 0, none⟩), .bool true, s25, s26, s27, s28, s29, s30, s31, s32, s33, s34, s35, s36, s37, s38, s39, s40, s41, s42, s43, s44, s45, s46, s47, s48, s49, s50, s51, s52, s53, s54, s55, s56, s57, s58, s59, s60, s61, s62, s63, s64, s65, s66, s67, s68, s69, s70, s71, s72, s73, s74, s75, s76, s77, s78, s79, s80, s81, s82, s83, s84, s85, s86, s87, s88, s89, s90, s91, s92, s93, s94, s95, s96, s97, s98, s99, s100, s101, s102, s103, s104, s105, s106, s107, s108, s109, s110, s111, s112, s113, s114, s115, s116, s117, s118, s119, s120, s121, s122, s123, s124, s125, s126, s127, s128, s129, s130, s131, s132, s133, s134, s135, s136, s137, s138, s139, s140, s141, s142, s143, s144, s145, s146, s147, s148, s149, s150, s151, s152, s153, s154, s155, s156, s157, s158, s159, s160, s161, s162, s163, s164, s165, s166, s167, s168, s169, s170, s171, s172, s173, s174, s175, s176, s177, s178, s179, s180, s181, s182, s183, s184, s185, s186, s187, s188, s189, s190, s191, s192, s193, s194, s195, s196, s197, s198, s199, s200, s201, s202, s203, s204, s205, s206, s207, s208, s209, s210, s211, s212, s213, s214, s215, s216, s217, s218, s219, s220, s221, s222, s223, s224, s225, s226, s227, s228, s229, s230, s231, s232, s233, s234, s235, s236, s237, s238, s239, s240, s241, s242, s243, s244, s245, s246, s247, s248, s249, s250, s251, s252, s253, s254, s255, s256, s257, s258, s259, s260, s261, s262, s263, s264, s265, s266, s267, s268, s269, s270, s271, s272, s273, s274, s275, s276, s277, s278, s279, s280, s281, s282, s283, s284, s285, s286, s287, s288, s289, s290, s291, s292, s293, s294, s295, s296, s297, s298, s299, s300, s301, s302, s303, s304, s305, s306, s307, s308, s309, s310, s311, s312, s313, s314, s315, s316, s317, s318, s319, s320, s321, s322, s323, s324, s325, s326, s327, s328, s329, s330, s331, s332, s333, s334, s335, s336, s337, s338, s339, s340, s341, s342, s343, s344, s345, s346, s347, s348, s349, s350, s351, s352, s353, s354, s355, s356, s357, s358, s359, s360, s361, s362, s363, s364, s365, s366, s367, s368, s369, s370, s371, s372, s373, s374, s375, s376, s377, s378], []⟩ wV := by
  have y0 := X.c 0 _ rfl
  have y1 := X.c 1 _ rfl
  have y2 := X.c 2 _ rfl
  have y3 := X.c 3 _ rfl
  have y4 := X.c 4 _ rfl
  obtain ⟨j, hjv, eat, evj⟩ := at_live I2 LV.out A2T.out
  subst eat
  obtain ⟨gv, cv, evv⟩ := vers_at A.vw hjv
  subst evv
  have ex := HX.out.1 rfl
  rw [← ex] at evj
  obtain ⟨e0, e1, e2, e3, e4⟩ := vers_cells A.vw hjv evj
  dsimp only at e0 e1 e2 e3 e4
  clear LV A2T HX
  clear ex evj I2
  conv => arg 2; whnf
  go_wp2_with fail
  go_quiet (fail)
  go_wp2_with fail
  go_meet
  case rel => exact ⟨rfl, _, rfl⟩
end Go.Proofs.Ythmohehmpleciaa.recPlays
namespace Go.Proofs.Ythmohehmpleciaa.recPlays
set_option maxRecDepth 1000000 in
set_option maxHeartbeats 16000000 in
theorem look_false {W wV : World} {oV : Nat → Nat} {p : Nat} {S3 : Nat → Prop} {st2 : RS} {k pr b1 b2 vb : Nat} {v32 : Value} {lv : Value} {zs2 : List Int} {vv2 : Value} {vs2 : List Ver} {l a2 : Int} {xk xv xb xe xn : Int} {Q : Exit → Act → World → Prop} {J K : Act → World → Prop} { s0 s1 s2 s3 s4 s5 s6 s7 s8 s10 s11 s12 s14 s16 s17 s18 s19 s20 s21 s22 s25 s26 s27 s28 s29 s30 s31 s32 s33 s34 s35 s36 s37 s38 s39 s40 s41 s42 s43 s44 s45 s46 s47 s48 s49 s50 s51 s52 s53 s54 s55 s56 s57 s58 s59 s60 s61 s62 s63 s64 s65 s66 s67 s68 s69 s70 s71 s72 s73 s74 s75 s76 s77 s78 s79 s80 s81 s82 s83 s84 s85 s86 s87 s88 s89 s90 s91 s92 s93 s94 s95 s96 s97 s98 s99 s100 s101 s102 s103 s104 s105 s106 s107 s108 s109 s110 s111 s112 s113 s114 s115 s116 s117 s118 s119 s120 s121 s122 s123 s124 s125 s126 s127 s128 s129 s130 s131 s132 s133 s134 s135 s136 s137 s138 s139 s140 s141 s142 s143 s144 s145 s146 s147 s148 s149 s150 s151 s152 s153 s154 s155 s156 s157 s158 s159 s160 s161 s162 s163 s164 s165 s166 s167 s168 s169 s170 s171 s172 s173 s174 s175 s176 s177 s178 s179 s180 s181 s182 s183 s184 s185 s186 s187 s188 s189 s190 s191 s192 s193 s194 s195 s196 s197 s198 s199 s200 s201 s202 s203 s204 s205 s206 s207 s208 s209 s210 s211 s212 s213 s214 s215 s216 s217 s218 s219 s220 s221 s222 s223 s224 s225 s226 s227 s228 s229 s230 s231 s232 s233 s234 s235 s236 s237 s238 s239 s240 s241 s242 s243 s244 s245 s246 s247 s248 s249 s250 s251 s252 s253 s254 s255 s256 s257 s258 s259 s260 s261 s262 s263 s264 s265 s266 s267 s268 s269 s270 s271 s272 s273 s274 s275 s276 s277 s278 s279 s280 s281 s282 s283 s284 s285 s286 s287 s288 s289 s290 s291 s292 s293 s294 s295 s296 s297 s298 s299 s300 s301 s302 s303 s304 s305 s306 s307 s308 s309 s310 s311 s312 s313 s314 s315 s316 s317 s318 s319 s320 s321 s322 s323 s324 s325 s326 s327 s328 s329 s330 s331 s332 s333 s334 s335 s336 s337 s338 s339 s340 s341 s342 s343 s344 s345 s346 s347 s348 s349 s350 s351 s352 s353 s354 s355 s356 s357 s358 s359 s360 s361 s362 s363 s364 s365 s366 s367 s368 s369 s370 s371 s372 s373 s374 s375 s376 s377 s378 : Value}
    (hJ : ∀ a' w', PL wV s0 s1 s2 s3 s4 s5 s6 s7 s8 vv2 s10 s11 s12 (.int .i64 a2) s14 (.bool false) s16 s17 s18 s19 s20 s21 s22 (.pointer (some ⟨vb, 0, none⟩)) (.bool false) s25 s26 s27 s28 s29 s30 s31 s32 s33 s34 s35 s36 s37 s38 s39 s40 s41 s42 s43 s44 s45 s46 s47 s48 s49 s50 s51 s52 s53 s54 s55 s56 s57 s58 s59 s60 s61 s378 a' w' → J a' w') (hK : ∀ a' w', Met J a' w' → K a' w') (hQp : RowKit.Hid (∀ c a d v w, Q (.panic c) (a.put d v) w → Q (.panic c) a w))
    (I2 : Inv st2 zs2 vs2) (A : All W wV oV p S3 st2.tick (8 * k + 3) pr b1 b2 v32 st2.s lv zs2 vv2 vs2) (X : Mine oV wV vb [.int .i64 xk, .int .i64 xv, .int .u64 xb, .int .u64 xe, .int .u64 xn])
    (LV : RowKit.Hid (st2.s.live l = false)) (A2T : RowKit.Hid (lastF (-1) zs2 l zs2.length = a2)) (HX : RowKit.Hid ((false = true → (⟨xk, xv, xb, xe, xn⟩ : Ver) = st2.ver (slotOf l)) ∧ (false = false → (⟨xk, xv, xb, xe, xn⟩ : Ver) = ⟨0, 0, 0, 0, 0⟩))) :
    Code.wp Try.prog cLook (Exit.then K Q) ⟨#[s0, s1, s2, s3, s4, s5, s6, s7, s8, vv2, s10, s11, s12, .int .i64 a2, s14, .bool false, s16, s17, s18, s19, s20, s21, s22, .pointer (some ⟨vb, 0, none⟩), .bool false, s25, s26, s27, s28, s29, s30, s31, s32, s33, s34, s35, s36, s37, s38, s39, s40, s41, s42, s43, s44, s45, s46, s47, s48, s49, s50, s51, s52, s53, s54, s55, s56, s57, s58, s59, s60, s61, s62, s63, s64, s65, s66, s67, s68, s69, s70, s71, s72, s73, s74, s75, s76, s77, s78, s79, s80, s81, s82, s83, s84, s85, s86, s87, s88, s89, s90, s91, s92, s93, s94, s95, s96, s97, s98, s99, s100, s101, s102, s103, s104, s105, s106, s107, s108, s109, s110, s111, s112, s113, s114, s115, s116, s117, s118, s119, s120, s121, s122, s123, s124, s125, s126, s127, s128, s129, s130, s131, s132, s133, s134, s135, s136, s137, s138, s139, s140, s141, s142, s143, s144, s145, s146, s147, s148, s149, s150, s151, s152, s153, s154, s155, s156, s157, s158, s159, s160, s161, s162, s163, s164, s165, s166, s167, s168, s169, s170, s171, s172, s173, s174, s175, s176, s177, s178, s179, s180, s181, s182, s183, s184, s185, s186, s187, s188, s189, s190, s191, s192, s193, s194, s195, s196, s197, s198, s199, s200, s201, s202, s203, s204, s205, s206, s207, s208, s209, s210, s211, s212, s213, s214, s215, s216, s217, s218, s219, s220, s221, s222, s223, s224, s225, s226, s227, s228, s229, s230, s231, s232, s233, s234, s235, s236, s237, s238, s239, s240, s241, s242, s243, s244, s245, s246, s247, s248, s249, s250, s251, s252, s253, s254, s255, s256, s257, s258, s259, s260, s261, s262, s263, s264, s265, s266, s267, s268, s269, s270, s271, s272, s273, s274, s275, s276, s277, s278, s279, s280, s281, s282, s283, s284, s285, s286, s287, s288, s289, s290, s291, s292, s293, s294, s295, s296, s297, s298, s299, s300, s301, s302, s303, s304, s305, s306, s307, s308, s309, s310, s311, s312, s313, s314, s315, s316, s317, s318, s319, s320, s321, s322, s323, s324, s325, s326, s327, s328, s329, s330, s331, s332, s333, s334, s335, s336, s337, s338, s339, s340, s341, s342, s343, s344, s345, s346, s347, s348, s349, s350, s351, s352, s353, s354, s355, s356, s357, s358, s359, s360, s361, s362, s363, s364, s365, s366, s367, s368, s369, s370, s371, s372, s373, s374, s375, s376, s377, s378], []⟩ wV := by
  have y0 := X.c 0 _ rfl
  have y1 := X.c 1 _ rfl
  have y2 := X.c 2 _ rfl
  have y3 := X.c 3 _ rfl
  have y4 := X.c 4 _ rfl
  have ex := HX.out.2 rfl
  simp only [Ver.mk.injEq] at ex
  obtain ⟨rfl, rfl, rfl, rfl, rfl⟩ := ex
  clear I2
  conv => arg 2; whnf
  go_wp2_with fail
  go_quiet (fail)
  go_wp2_with fail
  go_meet
  case rel => exact ⟨rfl, _, rfl⟩
end Go.Proofs.Ythmohehmpleciaa.recPlays
namespace Go.Proofs.Ythmohehmpleciaa.recPlays
set_option maxRecDepth 1000000 in
set_option maxHeartbeats 16000000 in
theorem rest2 {W wc : World} {o2 : Nat → Nat} {p : Nat} {S2 : Nat → Prop} {st2 : RS} {k pr b1 b2 : Nat} {v32 : Value} {lv : Value} {zs2 : List Int} {vv2 : Value} {vs2 : List Ver} {l a2 : Int} {Q : Exit → Act → World → Prop} {JE KE : Act → World → Prop} { s0 s1 s2 s3 s4 s6 s11 s14 s15 s16 s17 s18 s19 s20 s21 s22 s23 s24 s25 s26 s27 s28 s29 s30 s31 s32 s33 s34 s35 s36 s37 s38 s39 s40 s41 s42 s43 s44 s45 s46 s47 s48 s49 s50 s51 s52 s53 s54 s55 s56 s57 s58 s59 s60 s61 s62 s63 s64 s65 s66 s67 s68 s69 s70 s71 s72 s73 s74 s75 s76 s77 s78 s79 s80 s81 s82 s83 s84 s85 s86 s87 s88 s89 s90 s91 s92 s93 s94 s95 s96 s97 s98 s99 s100 s101 s102 s103 s104 s105 s106 s107 s108 s109 s110 s111 s112 s113 s114 s115 s116 s117 s118 s119 s120 s121 s122 s123 s124 s125 s126 s127 s128 s129 s130 s131 s132 s133 s134 s135 s136 s137 s138 s139 s140 s141 s142 s143 s144 s145 s146 s147 s148 s149 s150 s151 s152 s153 s154 s155 s156 s157 s158 s159 s160 s161 s162 s163 s164 s165 s166 s167 s168 s169 s170 s171 s172 s173 s174 s175 s176 s177 s178 s179 s180 s181 s182 s183 s184 s185 s186 s187 s188 s189 s190 s191 s192 s193 s194 s195 s196 s197 s198 s199 s200 s201 s202 s203 s204 s205 s206 s207 s208 s209 s210 s211 s212 s213 s214 s215 s216 s217 s218 s219 s220 s221 s222 s223 s224 s225 s226 s227 s228 s229 s230 s231 s232 s233 s234 s235 s236 s237 s238 s239 s240 s241 s242 s243 s244 s245 s246 s247 s248 s249 s250 s251 s252 s253 s254 s255 s256 s257 s258 s259 s260 s261 s262 s263 s264 s265 s266 s267 s268 s269 s270 s271 s272 s273 s274 s275 s276 s277 s278 s279 s280 s281 s282 s283 s284 s285 s286 s287 s288 s289 s290 s291 s292 s293 s294 s295 s296 s297 s298 s299 s300 s301 s302 s303 s304 s305 s306 s307 s308 s309 s310 s311 s312 s313 s314 s315 s316 s317 s318 s319 s320 s321 s322 s323 s324 s325 s326 s327 s328 s329 s330 s331 s332 s333 s334 s335 s336 s337 s338 s339 s340 s341 s342 s343 s344 s345 s346 s347 s348 s349 s350 s351 s352 s353 s354 s355 s356 s357 s358 s359 s360 s361 s362 s363 s364 s365 s366 s367 s368 s369 s370 s371 s372 s373 s374 s375 s376 s377 s378 : Value}
    (hJE : ∀ a' w', PE W p pr b1 b2 k s0 s1 s2 s3 s6 s25 s26 s27 s28 s29 s30 s31 s32 s33 s34 s35 s36 s37 s38 s39 s40 s41 s42 s43 s44 s45 s46 s47 s48 s49 s50 s51 s52 s53 s54 s55 s56 s57 s58 s59 s60 s61 s378 a' w' → JE a' w') (hKE : ∀ a' w', Met JE a' w' → KE a' w') (hQp : RowKit.Hid (∀ c a d v w, Q (.panic c) (a.put d v) w → Q (.panic c) a w))
    (h80 : k < 80) (lb : U64 l) (zl2 : zs2.length ≤ k + 1) (zb2 : ∀ j, U64 (zs2.getD j 0)) (I2 : Inv st2 zs2 vs2) (A2 : All W wc o2 p S2 st2 (8 * k + 2) pr b1 b2 v32 st2.s lv zs2 vv2 vs2) (A2T : RowKit.Hid (lastF (-1) zs2 l zs2.length = a2)) :
    Code.wp Try.prog cRest2 (Exit.inBlock 1 (Exit.then KE Q)) ⟨#[s0, s1, s2, s3, s4, .pointer (some ⟨p, 0, none⟩), s6, .pointer (some ⟨pr, 0, none⟩), lv, vv2, .int .i64 k, s11, .int .u64 l, .int .i64 a2, s14, s15, s16, s17, s18, s19, s20, s21, s22, s23, s24, s25, s26, s27, s28, s29, s30, s31, s32, s33, s34, s35, s36, s37, s38, s39, s40, s41, s42, s43, s44, s45, s46, s47, s48, s49, s50, s51, s52, s53, s54, s55, s56, s57, s58, s59, s60, s61, s62, s63, s64, s65, s66, s67, s68, s69, s70, s71, s72, s73, s74, s75, s76, s77, s78, s79, s80, s81, s82, s83, s84, s85, s86, s87, s88, s89, s90, s91, s92, s93, s94, s95, s96, s97, s98, s99, s100, s101, s102, s103, s104, s105, s106, s107, s108, s109, s110, s111, s112, s113, s114, s115, s116, s117, s118, s119, s120, s121, s122, s123, s124, s125, s126, s127, s128, s129, s130, s131, s132, s133, s134, s135, s136, s137, s138, s139, s140, s141, s142, s143, s144, s145, s146, s147, s148, s149, s150, s151, s152, s153, s154, s155, s156, s157, s158, s159, s160, s161, s162, s163, s164, s165, s166, s167, s168, s169, s170, s171, s172, s173, s174, s175, s176, s177, s178, s179, s180, s181, s182, s183, s184, s185, s186, s187, s188, s189, s190, s191, s192, s193, s194, s195, s196, s197, s198, s199, s200, s201, s202, s203, s204, s205, s206, s207, s208, s209, s210, s211, s212, s213, s214, s215, s216, s217, s218, s219, s220, s221, s222, s223, s224, s225, s226, s227, s228, s229, s230, s231, s232, s233, s234, s235, s236, s237, s238, s239, s240, s241, s242, s243, s244, s245, s246, s247, s248, s249, s250, s251, s252, s253, s254, s255, s256, s257, s258, s259, s260, s261, s262, s263, s264, s265, s266, s267, s268, s269, s270, s271, s272, s273, s274, s275, s276, s277, s278, s279, s280, s281, s282, s283, s284, s285, s286, s287, s288, s289, s290, s291, s292, s293, s294, s295, s296, s297, s298, s299, s300, s301, s302, s303, s304, s305, s306, s307, s308, s309, s310, s311, s312, s313, s314, s315, s316, s317, s318, s319, s320, s321, s322, s323, s324, s325, s326, s327, s328, s329, s330, s331, s332, s333, s334, s335, s336, s337, s338, s339, s340, s341, s342, s343, s344, s345, s346, s347, s348, s349, s350, s351, s352, s353, s354, s355, s356, s357, s358, s359, s360, s361, s362, s363, s364, s365, s366, s367, s368, s369, s370, s371, s372, s373, s374, s375, s376, s377, s378], []⟩ wc := by
  conv => arg 2; whnf
  obtain ⟨lv2, elv⟩ : ∃ r, st2.s.live l = r := ⟨_, rfl⟩
  have LV := Lib.hid elv
  obtain ⟨x, hg⟩ : ∃ x : Ver, st2.get l = .tuple #[.agg #[.int .i64 x.k, .int .i64 x.v, .int .u64 x.b, .int .u64 x.e, .int .u64 x.n], .bool lv2] ∧ (lv2 = true → x = st2.ver (slotOf l)) ∧ (lv2 = false → x = ⟨0, 0, 0, 0, 0⟩) := by
    cases lv2 with
    | true => exact ⟨st2.ver (slotOf l), by unfold RS.get; rw [if_pos elv]; rfl, fun _ => rfl, fun h => by cases h⟩
    | false => exact ⟨⟨0, 0, 0, 0, 0⟩, by rw [dead_get elv]; rfl, fun h => (by cases h), fun _ => rfl⟩
  obtain ⟨hg, hx1, hx0⟩ := hg
  have RL := ref_live A2.r.ok.p l lb lv2 elv
  have HX := Lib.hid (And.intro hx1 hx0)
  clear elv hx1 hx0
  obtain ⟨xk, xv, xb, xe, xn⟩ := x
  dsimp only at hg
  go_wp2_with fail
  refine (v_get A2.r (by omega) l lb _ hg).mono ?_
  rintro e y1 ⟨rfl, S3, h3, k3⟩
  obtain ⟨o3, A, SA⟩ := A2.vstep h3 k3
  clear h3 k3 SA hg A2
  obtain ⟨oV, A, SV, NV⟩ := A.quiet (Keep.alloc (Keep.refl (fun _ => False) y1) (.cells #[.int .i64 xk, .int .i64 xv, .int .u64 xb, .int .u64 xe, .int .u64 xn] 33))
  have X : Mine oV (y1.alloc (.cells #[.int .i64 xk, .int .i64 xv, .int .u64 xb, .int .u64 xe, .int .u64 xn] 33)) y1.heap.size [.int .i64 xk, .int .i64 xv, .int .u64 xb, .int .u64 xe, .int .u64 xn] :=
    Mine.new NV (Nat.le_refl _) (by simp) (fun i u hu => (World.cell?_alloc_new _ _ _ _).trans (by simpa using hu))
  obtain ⟨wV, eV⟩ : ∃ x, y1.alloc (.cells #[.int .i64 xk, .int .i64 xv, .int .u64 xb, .int .u64 xe, .int .u64 xn] 33) = x := ⟨_, rfl⟩
  obtain ⟨vb, evb⟩ : ∃ vb, y1.heap.size = vb := ⟨_, rfl⟩
  rw [eV, evb] at X
  rw [eV] at A
  clear SV NV
  go_upto_region 74 with fail
  clear eV evb
  go_cut [15] from 62 to 377 (fun s wx => s = .bool lv2 ∧ wV = wx)
  case first =>
    by_cases h0 : 0 ≤ a2
    · go_wp2_with fail
      refine (RL _ _ _ _ _ A.rf).mono ?_
      rintro e w' ⟨rfl, rfl⟩
      go_wp2
      go_meet
      case rel => exact ⟨rfl, rfl⟩
    · obtain rfl : lv2 = false := by
        cases lv2 with
        | false => rfl
        | true =>
          obtain ⟨j, _, e, _⟩ := at_live I2 LV.out A2T.out
          omega
      go_wp2_with fail
      go_meet
      case rel => exact ⟨rfl, rfl⟩
  case rest =>
  obtain ⟨rfl, rfl⟩ := hcut
  clear RL
  go_upto_region 75 with fail
  rename_i Ko hKo K5 hK5
  go_cut [363] from 62 to 377 (fun s wx => s = .bool false ∧ ∃ d, wx = wV.drewN d)
  case first =>
    rename_i J6 K6 hJ6 hK6
    cases lv2 with
    | true => exact look_true hJ6 hK6 (Lib.hid fun c a d v w h => hQp.out c a d v w h) I2 A X LV A2T HX
    | false => exact look_false hJ6 hK6 (Lib.hid fun c a d v w h => hQp.out c a d v w h) I2 A X LV A2T HX
  case rest =>
    obtain ⟨rfl, d, ewc⟩ := hcut
    obtain ⟨oD, A, _, _⟩ := A.quiet (show Keep (fun _ => False) wV wc from by rw [ewc]; exact drewN_keep _ _ d)
    refine hK5 _ _ (wp_cond_false rfl (wp_skip ?_))
    exact hKo _ _ (rest3 hJE hKE hQp h80 zl2 zb2 I2 A)
end Go.Proofs.Ythmohehmpleciaa.recPlays
namespace Go.Proofs.Ythmohehmpleciaa.recPlays
set_option maxRecDepth 1000000 in
set_option maxHeartbeats 16000000 in
theorem rest {W wc : World} {p pr b1 b2 k : Nat} {zs : List Int} {l at' : Int} {lv2 vv2 : Value} {Q : Exit → Act → World → Prop} {JE KE : Act → World → Prop} { s0 s1 s2 s3 s4 s6 s11 s14 s15 s16 s17 s18 s19 s20 s21 s22 s23 s24 s25 s26 s27 s28 s29 s30 s31 s32 s33 s34 s35 s36 s37 s38 s39 s40 s41 s42 s43 s44 s45 s46 s47 s48 s49 s50 s51 s52 s53 s54 s55 s56 s57 s58 s59 s60 s61 s62 s63 s64 s65 s66 s67 s68 s69 s70 s71 s72 s73 s74 s75 s76 s77 s78 s79 s80 s81 s82 s83 s84 s85 s86 s87 s88 s89 s90 s91 s92 s93 s94 s95 s96 s97 s98 s99 s100 s101 s102 s103 s104 s105 s106 s107 s108 s109 s110 s111 s112 s113 s114 s115 s116 s117 s118 s119 s120 s121 s122 s123 s124 s125 s126 s127 s128 s129 s130 s131 s132 s133 s134 s135 s136 s137 s138 s139 s140 s141 s142 s143 s144 s145 s146 s147 s148 s149 s150 s151 s152 s153 s154 s155 s156 s157 s158 s159 s160 s161 s162 s163 s164 s165 s166 s167 s168 s169 s170 s171 s172 s173 s174 s175 s176 s177 s178 s179 s180 s181 s182 s183 s184 s185 s186 s187 s188 s189 s190 s191 s192 s193 s194 s195 s196 s197 s198 s199 s200 s201 s202 s203 s204 s205 s206 s207 s208 s209 s210 s211 s212 s213 s214 s215 s216 s217 s218 s219 s220 s221 s222 s223 s224 s225 s226 s227 s228 s229 s230 s231 s232 s233 s234 s235 s236 s237 s238 s239 s240 s241 s242 s243 s244 s245 s246 s247 s248 s249 s250 s251 s252 s253 s254 s255 s256 s257 s258 s259 s260 s261 s262 s263 s264 s265 s266 s267 s268 s269 s270 s271 s272 s273 s274 s275 s276 s277 s278 s279 s280 s281 s282 s283 s284 s285 s286 s287 s288 s289 s290 s291 s292 s293 s294 s295 s296 s297 s298 s299 s300 s301 s302 s303 s304 s305 s306 s307 s308 s309 s310 s311 s312 s313 s314 s315 s316 s317 s318 s319 s320 s321 s322 s323 s324 s325 s326 s327 s328 s329 s330 s331 s332 s333 s334 s335 s336 s337 s338 s339 s340 s341 s342 s343 s344 s345 s346 s347 s348 s349 s350 s351 s352 s353 s354 s355 s356 s357 s358 s359 s360 s361 s362 s363 s364 s365 s366 s367 s368 s369 s370 s371 s372 s373 s374 s375 s376 s377 s378 : Value}
    (hJE : ∀ a' w', PE W p pr b1 b2 k s0 s1 s2 s3 s6 s25 s26 s27 s28 s29 s30 s31 s32 s33 s34 s35 s36 s37 s38 s39 s40 s41 s42 s43 s44 s45 s46 s47 s48 s49 s50 s51 s52 s53 s54 s55 s56 s57 s58 s59 s60 s61 s378 a' w' → JE a' w') (hKE : ∀ a' w', Met JE a' w' → KE a' w') (hQp : RowKit.Hid (∀ c a d v w, Q (.panic c) (a.put d v) w → Q (.panic c) a w))
    (h80 : k < 80) (lb : U64 l) (AT : RowKit.Hid (lastF (-1) zs l zs.length = at')) (hM : Mid W p pr b1 b2 k zs lv2 vv2 wc) :
    Code.wp Try.prog cRest (Exit.inBlock 1 (Exit.then KE Q)) ⟨#[s0, s1, s2, s3, s4, .pointer (some ⟨p, 0, none⟩), s6, .pointer (some ⟨pr, 0, none⟩), lv2, vv2, .int .i64 k, s11, .int .u64 l, .int .i64 at', s14, s15, s16, s17, s18, s19, s20, s21, s22, s23, s24, s25, s26, s27, s28, s29, s30, s31, s32, s33, s34, s35, s36, s37, s38, s39, s40, s41, s42, s43, s44, s45, s46, s47, s48, s49, s50, s51, s52, s53, s54, s55, s56, s57, s58, s59, s60, s61, s62, s63, s64, s65, s66, s67, s68, s69, s70, s71, s72, s73, s74, s75, s76, s77, s78, s79, s80, s81, s82, s83, s84, s85, s86, s87, s88, s89, s90, s91, s92, s93, s94, s95, s96, s97, s98, s99, s100, s101, s102, s103, s104, s105, s106, s107, s108, s109, s110, s111, s112, s113, s114, s115, s116, s117, s118, s119, s120, s121, s122, s123, s124, s125, s126, s127, s128, s129, s130, s131, s132, s133, s134, s135, s136, s137, s138, s139, s140, s141, s142, s143, s144, s145, s146, s147, s148, s149, s150, s151, s152, s153, s154, s155, s156, s157, s158, s159, s160, s161, s162, s163, s164, s165, s166, s167, s168, s169, s170, s171, s172, s173, s174, s175, s176, s177, s178, s179, s180, s181, s182, s183, s184, s185, s186, s187, s188, s189, s190, s191, s192, s193, s194, s195, s196, s197, s198, s199, s200, s201, s202, s203, s204, s205, s206, s207, s208, s209, s210, s211, s212, s213, s214, s215, s216, s217, s218, s219, s220, s221, s222, s223, s224, s225, s226, s227, s228, s229, s230, s231, s232, s233, s234, s235, s236, s237, s238, s239, s240, s241, s242, s243, s244, s245, s246, s247, s248, s249, s250, s251, s252, s253, s254, s255, s256, s257, s258, s259, s260, s261, s262, s263, s264, s265, s266, s267, s268, s269, s270, s271, s272, s273, s274, s275, s276, s277, s278, s279, s280, s281, s282, s283, s284, s285, s286, s287, s288, s289, s290, s291, s292, s293, s294, s295, s296, s297, s298, s299, s300, s301, s302, s303, s304, s305, s306, s307, s308, s309, s310, s311, s312, s313, s314, s315, s316, s317, s318, s319, s320, s321, s322, s323, s324, s325, s326, s327, s328, s329, s330, s331, s332, s333, s334, s335, s336, s337, s338, s339, s340, s341, s342, s343, s344, s345, s346, s347, s348, s349, s350, s351, s352, s353, s354, s355, s356, s357, s358, s359, s360, s361, s362, s363, s364, s365, s366, s367, s368, s369, s370, s371, s372, s373, s374, s375, s376, s377, s378], []⟩ wc := by
  obtain ⟨o2, S2, st2, v32, zs2, vs2, ⟨ys, ezs⟩, zl2, zb2, I2, A2⟩ := hM
  have AG := Lib.hid (show lastF at' zs2 l zs2.length = lastF (-1) zs2 l zs2.length by rw [ezs, ← AT.out]; exact last_again zs ys l)
  clear ezs AT
  obtain ⟨L2, c2, hv2, hM0, hM1⟩ := A2.lw.out
  subst hv2
  conv => arg 2; whnf
  go_upto_block 5 with fail
  rename_i K5 hK5
  obtain ⟨w1, ew1⟩ : ∃ w1, w1 = wc := ⟨_, rfl⟩
  go_cut [13] from 315 to 327 (fun av wx => av = .int .i64 (lastF at' zs2 l zs2.length) ∧ w1 = wx)
  case first =>
    go_wp2_with fail
    go_loopw [13, 22] (fun av i wx => ∃ j : Nat, RelAt zs2 at' l wc j av i wx) (fun _ i _ => zs2.length - (intOf i).toNat)
    case atStart => exact ⟨0, Nat.zero_le _, rfl, rfl, rfl⟩
    case round =>
      obtain ⟨j, hj, rfl, rfl, rfl⟩ := hrel
      by_cases hjl : j < zs2.length
      · skip
        cases L2 with
        | none => exact absurd (hM0 rfl) (by intro e; subst e; simp at hjl)
        | some ad =>
          obtain ⟨ga, rfl⟩ := hM1 _ rfl
          have cj := A2.lw.cell j hjl
          obtain ⟨y, ey⟩ : ∃ y, zs2.getD j 0 = y := ⟨_, rfl⟩
          rw [ey] at cj
          have EY := Lib.hid ey
          obtain ⟨av, eav⟩ : ∃ av, lastF at' zs2 l j = av := ⟨_, rfl⟩
          have EA := Lib.hid eav
          rw [eav]
          clear ey eav
          by_cases hy : y = l
          · have q1 : (y == l) = true := by simpa using hy
            have e2 : lastF at' zs2 l (j + 1) = j := by show (if _ then _ else _) = _; rw [EY.out, if_pos hy]
            have E2 := Lib.hid e2
            clear e2 hy
            go_wp2
            go_roundw
            case rel => exact ⟨j + 1, by omega, by go_num, by rw [E2.out], rfl⟩
            case measure => simp [intOf]; omega
          · have q1 : (y == l) = false := by simpa using hy
            have e2 : lastF at' zs2 l (j + 1) = av := by show (if _ then _ else _) = _; rw [EY.out, if_neg hy]; exact EA.out
            have E2 := Lib.hid e2
            clear e2 hy
            go_wp2
            go_roundw
            case rel => exact ⟨j + 1, by omega, by go_num, by rw [E2.out], rfl⟩
            case measure => simp [intOf]; omega
      · obtain rfl : j = zs2.length := by omega
        obtain ⟨av, eav⟩ : ∃ av, lastF at' zs2 l zs2.length = av := ⟨_, rfl⟩
        have EA := Lib.hid eav
        rw [eav]
        clear eav
        go_wp2
        go_meet
        case rel => exact ⟨by rw [EA.out], by subst ew1; rfl⟩
  case rest =>
    obtain ⟨rfl, rfl⟩ := hcut
    subst ew1
    exact hK5 _ _ (rest2 hJE hKE hQp h80 lb zl2 zb2 I2 A2 (Lib.hid AG.out.symm))
end Go.Proofs.Ythmohehmpleciaa.recPlays
