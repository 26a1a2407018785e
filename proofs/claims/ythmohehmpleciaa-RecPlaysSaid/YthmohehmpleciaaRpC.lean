/- RecPlays, a round from its first loop on; conditions: what the parts before it have laid. -/
import Derived.Test.YthmohehmpleciaaRpM0
import Derived.Test.YthmohehmpleciaaRpM1
import Derived.Test.YthmohehmpleciaaRpM4
import Derived.Test.YthmohehmpleciaaRpM5
import Derived.Test.YthmohehmpleciaaRpR
open Go Go.ChangeShapes Go.WideShapes Go.ChangeAt Go.RowKit
set_option linter.unusedVariables false
namespace Go.Proofs.Ythmohehmpleciaa.recPlays
noncomputable def c_round5 : Code := (Try.f6.body.bind (afterG 25)).getD .skip
set_option maxRecDepth 1000000 in
set_option maxHeartbeats 16000000 in
theorem round5 {W wA : World} {oA : Nat → Nat} {p : Nat} {S : Nat → Prop} {st : RS} {k pr b1 b2 : Nat} {v3 : Value} {L : Option Addr} {c0 : Nat} {zs : List Int} {vv : Value} {vs : List Ver} {kd nn key vl : Int} {raw : Bool} {lk od nw : Int} {ob : Nat} {l at' : Int} {Q : Exit → Act → World → Prop} {JE KE : Act → World → Prop} {lvb vok : Bool} { s0 s1 s2 s3 s4 s6 s14 s17 s18 s19 s20 s21 s22 s23 s24 s25 s26 s27 s28 s29 s30 s31 s32 s33 s34 s35 s36 s37 s38 s39 s40 s41 s42 s43 s44 s45 s46 s47 s48 s49 s50 s51 s52 s53 s54 s55 s56 s57 s58 s59 s60 s61 s62 s63 s64 s65 s66 s67 s68 s69 s70 s71 s72 s73 s74 s75 s76 s77 s78 s79 s80 s81 s82 s83 s84 s85 s86 s87 s88 s89 s90 s91 s92 s93 s94 s95 s96 s97 s98 s99 s100 s101 s102 s103 s104 s105 s106 s107 s108 s109 s110 s111 s112 s113 s114 s115 s116 s117 s118 s119 s120 s121 s122 s123 s124 s125 s126 s127 s128 s129 s130 s131 s132 s133 s134 s135 s136 s137 s138 s139 s140 s141 s142 s143 s144 s145 s146 s147 s148 s149 s150 s151 s152 s153 s154 s155 s156 s157 s158 s159 s160 s161 s162 s163 s164 s165 s166 s167 s168 s169 s170 s171 s172 s173 s174 s175 s176 s177 s178 s179 s180 s181 s182 s183 s184 s185 s186 s187 s188 s189 s190 s191 s192 s193 s194 s195 s196 s197 s198 s199 s200 s201 s202 s203 s204 s205 s206 s207 s208 s209 s210 s211 s212 s213 s214 s215 s216 s217 s218 s219 s220 s221 s222 s223 s224 s225 s226 s227 s228 s229 s230 s231 s232 s233 s234 s235 s236 s237 s238 s239 s240 s241 s242 s243 s244 s245 s246 s247 s248 s249 s250 s251 s252 s253 s254 s255 s256 s257 s258 s259 s260 s261 s262 s263 s264 s265 s266 s267 s268 s269 s270 s271 s272 s273 s274 s275 s276 s277 s278 s279 s280 s281 s282 s283 s284 s285 s286 s287 s288 s289 s290 s291 s292 s293 s294 s295 s296 s297 s298 s299 s300 s301 s302 s303 s304 s305 s306 s307 s308 s309 s310 s311 s312 s313 s314 s315 s316 s317 s318 s319 s320 s321 s322 s323 s324 s325 s326 s327 s328 s329 s330 s331 s332 s333 s334 s335 s336 s337 s338 s339 s340 s341 s342 s343 s344 s345 s346 s347 s348 s349 s350 s351 s352 s353 s354 s355 s356 s357 s358 s359 s360 s361 s362 s363 s364 s365 s366 s367 s368 s369 s370 s371 s372 s373 s374 s375 s376 s377 s378 : Value}
    (hJE : ∀ a' w', PE W p pr b1 b2 k s0 s1 s2 s3 s6 s25 s26 s27 s28 s29 s30 s31 s32 s33 s34 s35 s36 s37 s38 s39 s40 s41 s42 s43 s44 s45 s46 s47 s48 s49 s50 s51 s52 s53 s54 s55 s56 s57 s58 s59 s60 s61 s378 a' w' → JE a' w') (hKE : ∀ a' w', Met JE a' w' → KE a' w') (hQp : RowKit.Hid (∀ c a d v w, Q (.panic c) (a.put d v) w → Q (.panic c) a w))
    (h80 : k < 80) (zl : zs.length ≤ k) (zb : ∀ j, U64 (zs.getD j 0)) (I : Inv st zs vs)
    (A : All W wA oA p S st (8 * k + 1) pr b1 b2 v3 st.s (.slice L zs.length c0) zs vv vs) (X : Mine oA wA ob [.int .i64 kd, .int .i64 nn, .int .i64 key, .int .i64 vl, .bool raw, .int .u64 lk, .int .u64 od, .int .u64 nw])
    (t7 : 0 ≤ nw ∧ nw ≤ 18446744073709551615) (t6 : 0 ≤ od ∧ od ≤ 18446744073709551615) (t3 : -9223372036854775808 ≤ vl ∧ vl ≤ 9223372036854775807) (t2 : -9223372036854775808 ≤ key ∧ key ≤ 9223372036854775807) (t0 : -9223372036854775808 ≤ kd ∧ kd ≤ 9223372036854775807) (lb : U64 l) (AT : RowKit.Hid (lastF (-1) zs l zs.length = at')) (LV : RowKit.Hid (st.s.live l = lvb)) (EV : RowKit.Hid (decide (0 ≤ vl ∧ vl ≤ 65535) = vok)) :
    Code.wp Try.prog c_round5 (Exit.inBlock 1 (Exit.then KE Q)) ⟨#[s0, s1, s2, s3, s4, .pointer (some ⟨p, 0, none⟩), s6, .pointer (some ⟨pr, 0, none⟩), .slice L zs.length c0, vv, .int .i64 k, .pointer (some ⟨ob, 0, none⟩), .int .u64 l, .int .i64 at', s14, .bool lvb, .bool vok, s17, s18, s19, s20, s21, s22, s23, s24, s25, s26, s27, s28, s29, s30, s31, s32, s33, s34, s35, s36, s37, s38, s39, s40, s41, s42, s43, s44, s45, s46, s47, s48, s49, s50, s51, s52, s53, s54, s55, s56, s57, s58, s59, s60, s61, s62, s63, s64, s65, s66, s67, s68, s69, s70, s71, s72, s73, s74, s75, s76, s77, s78, s79, s80, s81, s82, s83, s84, s85, s86, s87, s88, s89, s90, s91, s92, s93, s94, s95, s96, s97, s98, s99, s100, s101, s102, s103, s104, s105, s106, s107, s108, s109, s110, s111, s112, s113, s114, s115, s116, s117, s118, s119, s120, s121, s122, s123, s124, s125, s126, s127, s128, s129, s130, s131, s132, s133, s134, s135, s136, s137, s138, s139, s140, s141, s142, s143, s144, s145, s146, s147, s148, s149, s150, s151, s152, s153, s154, s155, s156, s157, s158, s159, s160, s161, s162, s163, s164, s165, s166, s167, s168, s169, s170, s171, s172, s173, s174, s175, s176, s177, s178, s179, s180, s181, s182, s183, s184, s185, s186, s187, s188, s189, s190, s191, s192, s193, s194, s195, s196, s197, s198, s199, s200, s201, s202, s203, s204, s205, s206, s207, s208, s209, s210, s211, s212, s213, s214, s215, s216, s217, s218, s219, s220, s221, s222, s223, s224, s225, s226, s227, s228, s229, s230, s231, s232, s233, s234, s235, s236, s237, s238, s239, s240, s241, s242, s243, s244, s245, s246, s247, s248, s249, s250, s251, s252, s253, s254, s255, s256, s257, s258, s259, s260, s261, s262, s263, s264, s265, s266, s267, s268, s269, s270, s271, s272, s273, s274, s275, s276, s277, s278, s279, s280, s281, s282, s283, s284, s285, s286, s287, s288, s289, s290, s291, s292, s293, s294, s295, s296, s297, s298, s299, s300, s301, s302, s303, s304, s305, s306, s307, s308, s309, s310, s311, s312, s313, s314, s315, s316, s317, s318, s319, s320, s321, s322, s323, s324, s325, s326, s327, s328, s329, s330, s331, s332, s333, s334, s335, s336, s337, s338, s339, s340, s341, s342, s343, s344, s345, s346, s347, s348, s349, s350, s351, s352, s353, s354, s355, s356, s357, s358, s359, s360, s361, s362, s363, s364, s365, s366, s367, s368, s369, s370, s371, s372, s373, s374, s375, s376, s377, s378], []⟩ wA := by
  have x0 := X.c 0 _ rfl
  conv => arg 2; whnf
  dsimp only
  go_upto_block 4 with fail
  rename_i K4 hK4
  go_cut [8, 9] from 62 to 377 (fun l2 v2 wx => Mid W p pr b1 b2 k zs l2 v2 wx)
  case first =>
    rename_i J4 KM hJ4 hKM
    rcases (by omega : kd = 0 ∨ kd = 1 ∨ kd = 2 ∨ kd = 3 ∨ kd = 4 ∨ kd = 5 ∨ ¬ (0 ≤ kd ∧ kd ≤ 5)) with rfl | rfl | rfl | rfl | rfl | rfl | hkd
    · exact arm0 hJ4 hKM hJE hKE hQp h80 zl zb I A X t7 t6 t3 t2 lb AT LV EV
    · exact arm1 hJ4 hKM hJE hKE hQp h80 zl zb I A X t7 t6 t3 t2 lb AT LV EV
    · exact arm2 hJ4 hKM hJE hKE hQp h80 zl zb I A X t7 t6 t3 t2 lb AT LV EV
    · exact arm3 hJ4 hKM hJE hKE hQp h80 zl zb I A X t7 t6 t3 t2 lb AT LV EV
    · exact arm4 hJ4 hKM hJE hKE hQp h80 zl zb I A X t7 t6 t3 t2 lb AT LV EV
    · exact arm5 hJ4 hKM hJE hKE hQp h80 zl zb I A X t7 t6 t3 t2 lb AT LV EV
    · exact armN hJ4 hKM hJE hKE hQp h80 zl zb I A X t7 t6 t3 t2 lb AT LV EV hkd
  case rest => exact hK4 _ _ (rest hJE hKE hQp h80 lb AT hcut)
end Go.Proofs.Ythmohehmpleciaa.recPlays
namespace Go.Proofs.Ythmohehmpleciaa.recPlays
noncomputable def c_round4 : Code := (Try.f6.body.bind (afterG 24)).getD .skip
set_option maxRecDepth 1000000 in
set_option maxHeartbeats 16000000 in
theorem round4 {W wA : World} {oA : Nat → Nat} {p : Nat} {S : Nat → Prop} {st : RS} {k pr b1 b2 : Nat} {v3 : Value} {L : Option Addr} {c0 : Nat} {zs : List Int} {vv : Value} {vs : List Ver} {kd nn key vl : Int} {raw : Bool} {lk od nw : Int} {ob : Nat} {l at' : Int} {Q : Exit → Act → World → Prop} {JE KE : Act → World → Prop} {lvb : Bool} { s0 s1 s2 s3 s4 s6 s14 s16 s17 s18 s19 s20 s21 s22 s23 s24 s25 s26 s27 s28 s29 s30 s31 s32 s33 s34 s35 s36 s37 s38 s39 s40 s41 s42 s43 s44 s45 s46 s47 s48 s49 s50 s51 s52 s53 s54 s55 s56 s57 s58 s59 s60 s61 s62 s63 s64 s65 s66 s67 s68 s69 s70 s71 s72 s73 s74 s75 s76 s77 s78 s79 s80 s81 s82 s83 s84 s85 s86 s87 s88 s89 s90 s91 s92 s93 s94 s95 s96 s97 s98 s99 s100 s101 s102 s103 s104 s105 s106 s107 s108 s109 s110 s111 s112 s113 s114 s115 s116 s117 s118 s119 s120 s121 s122 s123 s124 s125 s126 s127 s128 s129 s130 s131 s132 s133 s134 s135 s136 s137 s138 s139 s140 s141 s142 s143 s144 s145 s146 s147 s148 s149 s150 s151 s152 s153 s154 s155 s156 s157 s158 s159 s160 s161 s162 s163 s164 s165 s166 s167 s168 s169 s170 s171 s172 s173 s174 s175 s176 s177 s178 s179 s180 s181 s182 s183 s184 s185 s186 s187 s188 s189 s190 s191 s192 s193 s194 s195 s196 s197 s198 s199 s200 s201 s202 s203 s204 s205 s206 s207 s208 s209 s210 s211 s212 s213 s214 s215 s216 s217 s218 s219 s220 s221 s222 s223 s224 s225 s226 s227 s228 s229 s230 s231 s232 s233 s234 s235 s236 s237 s238 s239 s240 s241 s242 s243 s244 s245 s246 s247 s248 s249 s250 s251 s252 s253 s254 s255 s256 s257 s258 s259 s260 s261 s262 s263 s264 s265 s266 s267 s268 s269 s270 s271 s272 s273 s274 s275 s276 s277 s278 s279 s280 s281 s282 s283 s284 s285 s286 s287 s288 s289 s290 s291 s292 s293 s294 s295 s296 s297 s298 s299 s300 s301 s302 s303 s304 s305 s306 s307 s308 s309 s310 s311 s312 s313 s314 s315 s316 s317 s318 s319 s320 s321 s322 s323 s324 s325 s326 s327 s328 s329 s330 s331 s332 s333 s334 s335 s336 s337 s338 s339 s340 s341 s342 s343 s344 s345 s346 s347 s348 s349 s350 s351 s352 s353 s354 s355 s356 s357 s358 s359 s360 s361 s362 s363 s364 s365 s366 s367 s368 s369 s370 s371 s372 s373 s374 s375 s376 s377 s378 : Value}
    (hJE : ∀ a' w', PE W p pr b1 b2 k s0 s1 s2 s3 s6 s25 s26 s27 s28 s29 s30 s31 s32 s33 s34 s35 s36 s37 s38 s39 s40 s41 s42 s43 s44 s45 s46 s47 s48 s49 s50 s51 s52 s53 s54 s55 s56 s57 s58 s59 s60 s61 s378 a' w' → JE a' w') (hKE : ∀ a' w', Met JE a' w' → KE a' w') (hQp : RowKit.Hid (∀ c a d v w, Q (.panic c) (a.put d v) w → Q (.panic c) a w))
    (h80 : k < 80) (zl : zs.length ≤ k) (zb : ∀ j, U64 (zs.getD j 0)) (I : Inv st zs vs)
    (A : All W wA oA p S st (8 * k + 1) pr b1 b2 v3 st.s (.slice L zs.length c0) zs vv vs) (X : Mine oA wA ob [.int .i64 kd, .int .i64 nn, .int .i64 key, .int .i64 vl, .bool raw, .int .u64 lk, .int .u64 od, .int .u64 nw])
    (t7 : 0 ≤ nw ∧ nw ≤ 18446744073709551615) (t6 : 0 ≤ od ∧ od ≤ 18446744073709551615) (t3 : -9223372036854775808 ≤ vl ∧ vl ≤ 9223372036854775807) (t2 : -9223372036854775808 ≤ key ∧ key ≤ 9223372036854775807) (t0 : -9223372036854775808 ≤ kd ∧ kd ≤ 9223372036854775807) (lb : U64 l) (AT : RowKit.Hid (lastF (-1) zs l zs.length = at')) (LV : RowKit.Hid (st.s.live l = lvb)) :
    Code.wp Try.prog c_round4 (Exit.inBlock 1 (Exit.then KE Q)) ⟨#[s0, s1, s2, s3, s4, .pointer (some ⟨p, 0, none⟩), s6, .pointer (some ⟨pr, 0, none⟩), .slice L zs.length c0, vv, .int .i64 k, .pointer (some ⟨ob, 0, none⟩), .int .u64 l, .int .i64 at', s14, .bool lvb, s16, s17, s18, s19, s20, s21, s22, s23, s24, s25, s26, s27, s28, s29, s30, s31, s32, s33, s34, s35, s36, s37, s38, s39, s40, s41, s42, s43, s44, s45, s46, s47, s48, s49, s50, s51, s52, s53, s54, s55, s56, s57, s58, s59, s60, s61, s62, s63, s64, s65, s66, s67, s68, s69, s70, s71, s72, s73, s74, s75, s76, s77, s78, s79, s80, s81, s82, s83, s84, s85, s86, s87, s88, s89, s90, s91, s92, s93, s94, s95, s96, s97, s98, s99, s100, s101, s102, s103, s104, s105, s106, s107, s108, s109, s110, s111, s112, s113, s114, s115, s116, s117, s118, s119, s120, s121, s122, s123, s124, s125, s126, s127, s128, s129, s130, s131, s132, s133, s134, s135, s136, s137, s138, s139, s140, s141, s142, s143, s144, s145, s146, s147, s148, s149, s150, s151, s152, s153, s154, s155, s156, s157, s158, s159, s160, s161, s162, s163, s164, s165, s166, s167, s168, s169, s170, s171, s172, s173, s174, s175, s176, s177, s178, s179, s180, s181, s182, s183, s184, s185, s186, s187, s188, s189, s190, s191, s192, s193, s194, s195, s196, s197, s198, s199, s200, s201, s202, s203, s204, s205, s206, s207, s208, s209, s210, s211, s212, s213, s214, s215, s216, s217, s218, s219, s220, s221, s222, s223, s224, s225, s226, s227, s228, s229, s230, s231, s232, s233, s234, s235, s236, s237, s238, s239, s240, s241, s242, s243, s244, s245, s246, s247, s248, s249, s250, s251, s252, s253, s254, s255, s256, s257, s258, s259, s260, s261, s262, s263, s264, s265, s266, s267, s268, s269, s270, s271, s272, s273, s274, s275, s276, s277, s278, s279, s280, s281, s282, s283, s284, s285, s286, s287, s288, s289, s290, s291, s292, s293, s294, s295, s296, s297, s298, s299, s300, s301, s302, s303, s304, s305, s306, s307, s308, s309, s310, s311, s312, s313, s314, s315, s316, s317, s318, s319, s320, s321, s322, s323, s324, s325, s326, s327, s328, s329, s330, s331, s332, s333, s334, s335, s336, s337, s338, s339, s340, s341, s342, s343, s344, s345, s346, s347, s348, s349, s350, s351, s352, s353, s354, s355, s356, s357, s358, s359, s360, s361, s362, s363, s364, s365, s366, s367, s368, s369, s370, s371, s372, s373, s374, s375, s376, s377, s378], []⟩ wA := by
  have x3 := X.c 3 _ rfl
  obtain ⟨vok, ev⟩ : ∃ v, decide (0 ≤ vl ∧ vl ≤ 65535) = v := ⟨_, rfl⟩
  have EV := Lib.hid ev
  clear ev
  conv => arg 2; whnf
  dsimp only
  go_upto_region 25 with fail
  rename_i K5 hK5
  go_cut [16] from 62 to 377 (fun s wx => s = .bool vok ∧ wA = wx)
  case first =>
    by_cases h0 : 0 ≤ vl
    · by_cases h1 : vl ≤ 65535
      · go_wp2_with fail
        go_meet
        case rel => exact ⟨by rw [← EV.out, show decide (0 ≤ vl ∧ vl ≤ 65535) = true from decide_eq_true ⟨h0, h1⟩], rfl⟩
      · go_wp2_with fail
        go_meet
        case rel => exact ⟨by rw [← EV.out, show decide (0 ≤ vl ∧ vl ≤ 65535) = false from decide_eq_false (by omega)], rfl⟩
    · go_wp2_with fail
      go_meet
      case rel => exact ⟨by rw [← EV.out, show decide (0 ≤ vl ∧ vl ≤ 65535) = false from decide_eq_false (by omega)], rfl⟩
  case rest =>
  obtain ⟨rfl, rfl⟩ := hcut
  exact hK5 _ _ (round5 hJE hKE hQp h80 zl zb I A X t7 t6 t3 t2 t0 lb AT LV EV)
end Go.Proofs.Ythmohehmpleciaa.recPlays
namespace Go.Proofs.Ythmohehmpleciaa.recPlays
noncomputable def c_round3 : Code := (Try.f6.body.bind (afterB 2)).getD .skip
set_option maxRecDepth 1000000 in
set_option maxHeartbeats 16000000 in
theorem round3 {W wA : World} {oA : Nat → Nat} {p : Nat} {S : Nat → Prop} {st : RS} {k pr b1 b2 : Nat} {v3 : Value} {L : Option Addr} {c0 : Nat} {zs : List Int} {vv : Value} {vs : List Ver} {kd nn key vl : Int} {raw : Bool} {lk od nw : Int} {ob : Nat} {l at' : Int} {Q : Exit → Act → World → Prop} {JE KE : Act → World → Prop}  { s0 s1 s2 s3 s4 s6 s14 s15 s16 s17 s18 s19 s20 s21 s22 s23 s24 s25 s26 s27 s28 s29 s30 s31 s32 s33 s34 s35 s36 s37 s38 s39 s40 s41 s42 s43 s44 s45 s46 s47 s48 s49 s50 s51 s52 s53 s54 s55 s56 s57 s58 s59 s60 s61 s62 s63 s64 s65 s66 s67 s68 s69 s70 s71 s72 s73 s74 s75 s76 s77 s78 s79 s80 s81 s82 s83 s84 s85 s86 s87 s88 s89 s90 s91 s92 s93 s94 s95 s96 s97 s98 s99 s100 s101 s102 s103 s104 s105 s106 s107 s108 s109 s110 s111 s112 s113 s114 s115 s116 s117 s118 s119 s120 s121 s122 s123 s124 s125 s126 s127 s128 s129 s130 s131 s132 s133 s134 s135 s136 s137 s138 s139 s140 s141 s142 s143 s144 s145 s146 s147 s148 s149 s150 s151 s152 s153 s154 s155 s156 s157 s158 s159 s160 s161 s162 s163 s164 s165 s166 s167 s168 s169 s170 s171 s172 s173 s174 s175 s176 s177 s178 s179 s180 s181 s182 s183 s184 s185 s186 s187 s188 s189 s190 s191 s192 s193 s194 s195 s196 s197 s198 s199 s200 s201 s202 s203 s204 s205 s206 s207 s208 s209 s210 s211 s212 s213 s214 s215 s216 s217 s218 s219 s220 s221 s222 s223 s224 s225 s226 s227 s228 s229 s230 s231 s232 s233 s234 s235 s236 s237 s238 s239 s240 s241 s242 s243 s244 s245 s246 s247 s248 s249 s250 s251 s252 s253 s254 s255 s256 s257 s258 s259 s260 s261 s262 s263 s264 s265 s266 s267 s268 s269 s270 s271 s272 s273 s274 s275 s276 s277 s278 s279 s280 s281 s282 s283 s284 s285 s286 s287 s288 s289 s290 s291 s292 s293 s294 s295 s296 s297 s298 s299 s300 s301 s302 s303 s304 s305 s306 s307 s308 s309 s310 s311 s312 s313 s314 s315 s316 s317 s318 s319 s320 s321 s322 s323 s324 s325 s326 s327 s328 s329 s330 s331 s332 s333 s334 s335 s336 s337 s338 s339 s340 s341 s342 s343 s344 s345 s346 s347 s348 s349 s350 s351 s352 s353 s354 s355 s356 s357 s358 s359 s360 s361 s362 s363 s364 s365 s366 s367 s368 s369 s370 s371 s372 s373 s374 s375 s376 s377 s378 : Value}
    (hJE : ∀ a' w', PE W p pr b1 b2 k s0 s1 s2 s3 s6 s25 s26 s27 s28 s29 s30 s31 s32 s33 s34 s35 s36 s37 s38 s39 s40 s41 s42 s43 s44 s45 s46 s47 s48 s49 s50 s51 s52 s53 s54 s55 s56 s57 s58 s59 s60 s61 s378 a' w' → JE a' w') (hKE : ∀ a' w', Met JE a' w' → KE a' w') (hQp : RowKit.Hid (∀ c a d v w, Q (.panic c) (a.put d v) w → Q (.panic c) a w))
    (h80 : k < 80) (zl : zs.length ≤ k) (zb : ∀ j, U64 (zs.getD j 0)) (I : Inv st zs vs)
    (A : All W wA oA p S st (8 * k + 1) pr b1 b2 v3 st.s (.slice L zs.length c0) zs vv vs) (X : Mine oA wA ob [.int .i64 kd, .int .i64 nn, .int .i64 key, .int .i64 vl, .bool raw, .int .u64 lk, .int .u64 od, .int .u64 nw])
    (t7 : 0 ≤ nw ∧ nw ≤ 18446744073709551615) (t6 : 0 ≤ od ∧ od ≤ 18446744073709551615) (t3 : -9223372036854775808 ≤ vl ∧ vl ≤ 9223372036854775807) (t2 : -9223372036854775808 ≤ key ∧ key ≤ 9223372036854775807) (t0 : -9223372036854775808 ≤ kd ∧ kd ≤ 9223372036854775807) (lb : U64 l) (AT : RowKit.Hid (lastF (-1) zs l zs.length = at'))  :
    Code.wp Try.prog c_round3 (Exit.inBlock 1 (Exit.then KE Q)) ⟨#[s0, s1, s2, s3, s4, .pointer (some ⟨p, 0, none⟩), s6, .pointer (some ⟨pr, 0, none⟩), .slice L zs.length c0, vv, .int .i64 k, .pointer (some ⟨ob, 0, none⟩), .int .u64 l, .int .i64 at', s14, s15, s16, s17, s18, s19, s20, s21, s22, s23, s24, s25, s26, s27, s28, s29, s30, s31, s32, s33, s34, s35, s36, s37, s38, s39, s40, s41, s42, s43, s44, s45, s46, s47, s48, s49, s50, s51, s52, s53, s54, s55, s56, s57, s58, s59, s60, s61, s62, s63, s64, s65, s66, s67, s68, s69, s70, s71, s72, s73, s74, s75, s76, s77, s78, s79, s80, s81, s82, s83, s84, s85, s86, s87, s88, s89, s90, s91, s92, s93, s94, s95, s96, s97, s98, s99, s100, s101, s102, s103, s104, s105, s106, s107, s108, s109, s110, s111, s112, s113, s114, s115, s116, s117, s118, s119, s120, s121, s122, s123, s124, s125, s126, s127, s128, s129, s130, s131, s132, s133, s134, s135, s136, s137, s138, s139, s140, s141, s142, s143, s144, s145, s146, s147, s148, s149, s150, s151, s152, s153, s154, s155, s156, s157, s158, s159, s160, s161, s162, s163, s164, s165, s166, s167, s168, s169, s170, s171, s172, s173, s174, s175, s176, s177, s178, s179, s180, s181, s182, s183, s184, s185, s186, s187, s188, s189, s190, s191, s192, s193, s194, s195, s196, s197, s198, s199, s200, s201, s202, s203, s204, s205, s206, s207, s208, s209, s210, s211, s212, s213, s214, s215, s216, s217, s218, s219, s220, s221, s222, s223, s224, s225, s226, s227, s228, s229, s230, s231, s232, s233, s234, s235, s236, s237, s238, s239, s240, s241, s242, s243, s244, s245, s246, s247, s248, s249, s250, s251, s252, s253, s254, s255, s256, s257, s258, s259, s260, s261, s262, s263, s264, s265, s266, s267, s268, s269, s270, s271, s272, s273, s274, s275, s276, s277, s278, s279, s280, s281, s282, s283, s284, s285, s286, s287, s288, s289, s290, s291, s292, s293, s294, s295, s296, s297, s298, s299, s300, s301, s302, s303, s304, s305, s306, s307, s308, s309, s310, s311, s312, s313, s314, s315, s316, s317, s318, s319, s320, s321, s322, s323, s324, s325, s326, s327, s328, s329, s330, s331, s332, s333, s334, s335, s336, s337, s338, s339, s340, s341, s342, s343, s344, s345, s346, s347, s348, s349, s350, s351, s352, s353, s354, s355, s356, s357, s358, s359, s360, s361, s362, s363, s364, s365, s366, s367, s368, s369, s370, s371, s372, s373, s374, s375, s376, s377, s378], []⟩ wA := by
  have eat := AT.out
  obtain ⟨lvb, elv⟩ : ∃ r, st.s.live l = r := ⟨_, rfl⟩
  have RL := ref_live A.r.ok.p l lb lvb elv
  have hyes : lvb = true → 0 ≤ at' := fun e => by
    obtain ⟨j, h1, _⟩ := I.h l (by rw [elv, e])
    omega
  have LV := Lib.hid elv
  clear eat elv
  conv => arg 2; whnf
  dsimp only
  go_upto_region 24 with fail
  rename_i K5 hK5
  go_cut [15] from 62 to 377 (fun s wx => s = .bool lvb ∧ wA = wx)
  case first =>
    by_cases h0 : 0 ≤ at'
    · go_wp2_with fail
      refine (RL _ _ _ _ _ A.rf).mono ?_
      rintro e w' ⟨rfl, rfl⟩
      go_wp2
      go_meet
      case rel => exact ⟨rfl, rfl⟩
    · obtain rfl : lvb = false := by
        cases lvb with
        | false => rfl
        | true => exact absurd (hyes rfl) h0
      go_wp2_with fail
      go_meet
      case rel => exact ⟨rfl, rfl⟩
  case rest =>
  obtain ⟨rfl, rfl⟩ := hcut
  exact hK5 _ _ (round4 hJE hKE hQp h80 zl zb I A X t7 t6 t3 t2 t0 lb AT LV)
end Go.Proofs.Ythmohehmpleciaa.recPlays
namespace Go.Proofs.Ythmohehmpleciaa.recPlays
set_option maxRecDepth 1000000 in
set_option maxHeartbeats 16000000 in
theorem round2 {W wA : World} {oA : Nat → Nat} {p : Nat} {S : Nat → Prop} {st : RS} {k pr b1 b2 : Nat} {v3 : Value} {L : Option Addr} {c0 : Nat} {zs : List Int} {vv : Value} {vs : List Ver} {kd nn key vl : Int} {raw : Bool} {lk od nw : Int} {ob : Nat} {l : Int} {Q : Exit → Act → World → Prop} {JE KE : Act → World → Prop} { s0 s1 s2 s3 s4 s6 s14 s15 s16 s17 s18 s19 s20 s21 s22 s23 s24 s25 s26 s27 s28 s29 s30 s31 s32 s33 s34 s35 s36 s37 s38 s39 s40 s41 s42 s43 s44 s45 s46 s47 s48 s49 s50 s51 s52 s53 s54 s55 s56 s57 s58 s59 s60 s61 s62 s63 s64 s65 s66 s67 s68 s69 s70 s71 s72 s73 s74 s75 s76 s77 s78 s79 s80 s81 s82 s83 s84 s85 s86 s87 s88 s89 s90 s91 s92 s93 s94 s95 s96 s97 s98 s99 s100 s101 s102 s103 s104 s105 s106 s107 s108 s109 s110 s111 s112 s113 s114 s115 s116 s117 s118 s119 s120 s121 s122 s123 s124 s125 s126 s127 s128 s129 s130 s131 s132 s133 s134 s135 s136 s137 s138 s139 s140 s141 s142 s143 s144 s145 s146 s147 s148 s149 s150 s151 s152 s153 s154 s155 s156 s157 s158 s159 s160 s161 s162 s163 s164 s165 s166 s167 s168 s169 s170 s171 s172 s173 s174 s175 s176 s177 s178 s179 s180 s181 s182 s183 s184 s185 s186 s187 s188 s189 s190 s191 s192 s193 s194 s195 s196 s197 s198 s199 s200 s201 s202 s203 s204 s205 s206 s207 s208 s209 s210 s211 s212 s213 s214 s215 s216 s217 s218 s219 s220 s221 s222 s223 s224 s225 s226 s227 s228 s229 s230 s231 s232 s233 s234 s235 s236 s237 s238 s239 s240 s241 s242 s243 s244 s245 s246 s247 s248 s249 s250 s251 s252 s253 s254 s255 s256 s257 s258 s259 s260 s261 s262 s263 s264 s265 s266 s267 s268 s269 s270 s271 s272 s273 s274 s275 s276 s277 s278 s279 s280 s281 s282 s283 s284 s285 s286 s287 s288 s289 s290 s291 s292 s293 s294 s295 s296 s297 s298 s299 s300 s301 s302 s303 s304 s305 s306 s307 s308 s309 s310 s311 s312 s313 s314 s315 s316 s317 s318 s319 s320 s321 s322 s323 s324 s325 s326 s327 s328 s329 s330 s331 s332 s333 s334 s335 s336 s337 s338 s339 s340 s341 s342 s343 s344 s345 s346 s347 s348 s349 s350 s351 s352 s353 s354 s355 s356 s357 s358 s359 s360 s361 s362 s363 s364 s365 s366 s367 s368 s369 s370 s371 s372 s373 s374 s375 s376 s377 s378 : Value}
    (hJE : ∀ a' w', PE W p pr b1 b2 k s0 s1 s2 s3 s6 s25 s26 s27 s28 s29 s30 s31 s32 s33 s34 s35 s36 s37 s38 s39 s40 s41 s42 s43 s44 s45 s46 s47 s48 s49 s50 s51 s52 s53 s54 s55 s56 s57 s58 s59 s60 s61 s378 a' w' → JE a' w') (hKE : ∀ a' w', Met JE a' w' → KE a' w') (hQp : RowKit.Hid (∀ c a d v w, Q (.panic c) (a.put d v) w → Q (.panic c) a w))
    (h80 : k < 80) (zl : zs.length ≤ k) (zb : ∀ j, U64 (zs.getD j 0)) (I : Inv st zs vs)
    (A : All W wA oA p S st (8 * k + 1) pr b1 b2 v3 st.s (.slice L zs.length c0) zs vv vs) (X : Mine oA wA ob [.int .i64 kd, .int .i64 nn, .int .i64 key, .int .i64 vl, .bool raw, .int .u64 lk, .int .u64 od, .int .u64 nw])
    (t7 : 0 ≤ nw ∧ nw ≤ 18446744073709551615) (t6 : 0 ≤ od ∧ od ≤ 18446744073709551615) (t3 : -9223372036854775808 ≤ vl ∧ vl ≤ 9223372036854775807) (t2 : -9223372036854775808 ≤ key ∧ key ≤ 9223372036854775807) (t0 : -9223372036854775808 ≤ kd ∧ kd ≤ 9223372036854775807) (lb : U64 l) :
    Code.wp Try.prog cRound2 (Exit.inBlock 1 (Exit.then KE Q)) ⟨#[s0, s1, s2, s3, s4, .pointer (some ⟨p, 0, none⟩), s6, .pointer (some ⟨pr, 0, none⟩), .slice L zs.length c0, vv, .int .i64 k, .pointer (some ⟨ob, 0, none⟩), .int .u64 l, .int .i64 (-1), s14, s15, s16, s17, s18, s19, s20, s21, s22, s23, s24, s25, s26, s27, s28, s29, s30, s31, s32, s33, s34, s35, s36, s37, s38, s39, s40, s41, s42, s43, s44, s45, s46, s47, s48, s49, s50, s51, s52, s53, s54, s55, s56, s57, s58, s59, s60, s61, s62, s63, s64, s65, s66, s67, s68, s69, s70, s71, s72, s73, s74, s75, s76, s77, s78, s79, s80, s81, s82, s83, s84, s85, s86, s87, s88, s89, s90, s91, s92, s93, s94, s95, s96, s97, s98, s99, s100, s101, s102, s103, s104, s105, s106, s107, s108, s109, s110, s111, s112, s113, s114, s115, s116, s117, s118, s119, s120, s121, s122, s123, s124, s125, s126, s127, s128, s129, s130, s131, s132, s133, s134, s135, s136, s137, s138, s139, s140, s141, s142, s143, s144, s145, s146, s147, s148, s149, s150, s151, s152, s153, s154, s155, s156, s157, s158, s159, s160, s161, s162, s163, s164, s165, s166, s167, s168, s169, s170, s171, s172, s173, s174, s175, s176, s177, s178, s179, s180, s181, s182, s183, s184, s185, s186, s187, s188, s189, s190, s191, s192, s193, s194, s195, s196, s197, s198, s199, s200, s201, s202, s203, s204, s205, s206, s207, s208, s209, s210, s211, s212, s213, s214, s215, s216, s217, s218, s219, s220, s221, s222, s223, s224, s225, s226, s227, s228, s229, s230, s231, s232, s233, s234, s235, s236, s237, s238, s239, s240, s241, s242, s243, s244, s245, s246, s247, s248, s249, s250, s251, s252, s253, s254, s255, s256, s257, s258, s259, s260, s261, s262, s263, s264, s265, s266, s267, s268, s269, s270, s271, s272, s273, s274, s275, s276, s277, s278, s279, s280, s281, s282, s283, s284, s285, s286, s287, s288, s289, s290, s291, s292, s293, s294, s295, s296, s297, s298, s299, s300, s301, s302, s303, s304, s305, s306, s307, s308, s309, s310, s311, s312, s313, s314, s315, s316, s317, s318, s319, s320, s321, s322, s323, s324, s325, s326, s327, s328, s329, s330, s331, s332, s333, s334, s335, s336, s337, s338, s339, s340, s341, s342, s343, s344, s345, s346, s347, s348, s349, s350, s351, s352, s353, s354, s355, s356, s357, s358, s359, s360, s361, s362, s363, s364, s365, s366, s367, s368, s369, s370, s371, s372, s373, s374, s375, s376, s377, s378], []⟩ wA := by
  conv => arg 2; whnf
  go_upto_block 2 with fail
  rename_i K5 hK5
  obtain ⟨L', c', hv, hL0, hL1⟩ := A.lw.out
  obtain ⟨rfl, rfl⟩ : L = L' ∧ c0 = c' := by simpa using hv
  clear hv
  obtain ⟨w1, ew1⟩ : ∃ w1, w1 = wA := ⟨_, rfl⟩
  go_cut [13] from 95 to 107 (fun av wx => av = .int .i64 (lastF (-1) zs l zs.length) ∧ w1 = wx)
  case first =>
    go_wp2_with fail
    go_loopw [13, 14] (fun av i wx => ∃ j : Nat, RelAt zs (-1) l wA j av i wx) (fun _ i _ => zs.length - (intOf i).toNat)
    case atStart => exact ⟨0, Nat.zero_le _, rfl, rfl, rfl⟩
    case round =>
      obtain ⟨j, hj, rfl, rfl, rfl⟩ := hrel
      by_cases hjl : j < zs.length
      · skip
        cases L with
        | none => exact absurd (hL0 rfl) (by intro e; subst e; simp at hjl)
        | some ad =>
          obtain ⟨ga, rfl⟩ := hL1 _ rfl
          have cj := A.lw.cell j hjl
          obtain ⟨y, ey⟩ : ∃ y, zs.getD j 0 = y := ⟨_, rfl⟩
          rw [ey] at cj
          have EY := Lib.hid ey
          obtain ⟨av, eav⟩ : ∃ av, lastF (-1) zs l j = av := ⟨_, rfl⟩
          have EA := Lib.hid eav
          rw [eav]
          clear ey eav
          by_cases hy : y = l
          · have q1 : (y == l) = true := by simpa using hy
            have e2 : lastF (-1) zs l (j + 1) = j := by show (if _ then _ else _) = _; rw [EY.out, if_pos hy]
            have E2 := Lib.hid e2
            clear e2 hy
            go_wp2
            go_roundw
            case rel => exact ⟨j + 1, by omega, by go_num, by rw [E2.out], rfl⟩
            case measure => simp [intOf]; omega
          · have q1 : (y == l) = false := by simpa using hy
            have e2 : lastF (-1) zs l (j + 1) = av := by show (if _ then _ else _) = _; rw [EY.out, if_neg hy]; exact EA.out
            have E2 := Lib.hid e2
            clear e2 hy
            go_wp2
            go_roundw
            case rel => exact ⟨j + 1, by omega, by go_num, by rw [E2.out], rfl⟩
            case measure => simp [intOf]; omega
      · obtain rfl : j = zs.length := by omega
        obtain ⟨av, eav⟩ : ∃ av, lastF (-1) zs l zs.length = av := ⟨_, rfl⟩
        have EA := Lib.hid eav
        rw [eav]
        clear eav
        go_wp2
        go_meet
        case rel => exact ⟨by rw [EA.out], by subst ew1; rfl⟩
  case rest =>
    obtain ⟨rfl, rfl⟩ := hcut
    subst ew1
    exact hK5 _ _ (round3 hJE hKE hQp h80 zl zb I A X t7 t6 t3 t2 t0 lb (Lib.hid rfl))
end Go.Proofs.Ythmohehmpleciaa.recPlays
