/- RecPlays, arms 1, 2, 3 (Free, Set, Next) and no call; conditions: what the parts before it have laid. -/
import Derived.Test.YthmohehmpleciaaRpA
namespace Go.Proofs.Ythmohehmpleciaa.recPlays
open Go.ChangeShapes Go.WideShapes Go.ChangeAt Go.RowKit
set_option linter.unusedVariables false
section
variable {W wA : World} {oA : Nat → Nat} {p : Nat} {S : Nat → Prop} {st : RS} {k pr b1 b2 : Nat} {v3 : Value} {L : Option Addr} {c0 : Nat} {zs : List Int} {vv : Value} {vs : List Ver} {nn key vl : Int} {raw : Bool} {lk od nw : Int} {ob : Nat} {l at' : Int} {lvb vok : Bool} {Q : Exit → Act → World → Prop} {J K JE KE : Act → World → Prop}
set_option maxRecDepth 1000000 in
set_option maxHeartbeats 8000000 in
theorem arm1 { s0 s1 s2 s3 s4 s6 s14 s17 s18 s19 s20 s21 s22 s23 s24 s25 s26 s27 s28 s29 s30 s31 s32 s33 s34 s35 s36 s37 s38 s39 s40 s41 s42 s43 s44 s45 s46 s47 s48 s49 s50 s51 s52 s53 s54 s55 s56 s57 s58 s59 s60 s61 s62 s63 s64 s65 s66 s67 s68 s69 s70 s71 s72 s73 s74 s75 s76 s77 s78 s79 s80 s81 s82 s83 s84 s85 s86 s87 s88 s89 s90 s91 s92 s93 s94 s95 s96 s97 s98 s99 s100 s101 s102 s103 s104 s105 s106 s107 s108 s109 s110 s111 s112 s113 s114 s115 s116 s117 s118 s119 s120 s121 s122 s123 s125 s126 s127 s128 s129 s130 s131 s132 s133 s134 s135 s136 s137 s138 s139 s140 s141 s142 s143 s144 s145 s146 s147 s148 s149 s150 s151 s152 s153 s154 s155 s156 s157 s158 s159 s160 s161 s162 s163 s164 s165 s166 s167 s168 s169 s170 s171 s172 s173 s174 s175 s176 s177 s178 s179 s180 s181 s182 s183 s184 s185 s186 s187 s188 s189 s190 s191 s192 s193 s194 s195 s196 s197 s198 s199 s200 s201 s202 s203 s204 s205 s206 s207 s208 s209 s210 s211 s212 s213 s214 s215 s216 s217 s218 s219 s220 s221 s222 s223 s224 s225 s226 s227 s228 s229 s230 s231 s232 s233 s234 s235 s236 s237 s238 s239 s240 s241 s242 s243 s244 s245 s246 s247 s248 s249 s250 s251 s252 s253 s254 s255 s256 s257 s258 s259 s260 s261 s262 s263 s264 s265 s266 s267 s268 s269 s270 s271 s272 s273 s274 s275 s276 s277 s278 s279 s280 s281 s282 s283 s284 s285 s286 s287 s288 s289 s290 s291 s292 s293 s294 s295 s296 s297 s298 s299 s300 s301 s302 s303 s304 s305 s306 s307 s308 s309 s310 s311 s312 s313 s314 s315 s316 s317 s318 s319 s320 s321 s322 s323 s324 s325 s326 s327 s328 s329 s330 s331 s332 s333 s334 s335 s336 s337 s338 s339 s340 s341 s342 s343 s344 s345 s346 s347 s348 s349 s350 s351 s352 s353 s354 s355 s356 s357 s358 s359 s360 s361 s362 s363 s364 s365 s366 s367 s368 s369 s370 s371 s372 s373 s374 s375 s376 s377 s378 : Value}
    (hJ : ∀ a' w', PM W p pr b1 b2 k zs s0 s1 s2 s3 s6 (.pointer (some ⟨ob, 0, none⟩)) (.int .u64 l) (.int .i64 at') s14 (.bool lvb) (.bool vok) s22 s23 s24 s25 s26 s27 s28 s29 s30 s31 s32 s33 s34 s35 s36 s37 s38 s39 s40 s41 s42 s43 s44 s45 s46 s47 s48 s49 s50 s51 s52 s53 s54 s55 s56 s57 s58 s59 s60 s61 s378 a' w' → J a' w') (hK : ∀ a' w', Met J a' w' → K a' w')
    (hJE : ∀ a' w', PE W p pr b1 b2 k s0 s1 s2 s3 s6 s25 s26 s27 s28 s29 s30 s31 s32 s33 s34 s35 s36 s37 s38 s39 s40 s41 s42 s43 s44 s45 s46 s47 s48 s49 s50 s51 s52 s53 s54 s55 s56 s57 s58 s59 s60 s61 s378 a' w' → JE a' w') (hKE : ∀ a' w', Met JE a' w' → KE a' w')
    (hQp : RowKit.Hid (∀ c a d v w, Q (.panic c) (a.put d v) w → Q (.panic c) a w)) (h80 : k < 80) (zl : zs.length ≤ k) (zb : ∀ j, U64 (zs.getD j 0)) (I : Inv st zs vs)
    (A : All W wA oA p S st (8 * k + 1) pr b1 b2 v3 st.s (.slice L zs.length c0) zs vv vs)
    (X : Mine oA wA ob [.int .i64 1, .int .i64 nn, .int .i64 key, .int .i64 vl, .bool raw, .int .u64 lk, .int .u64 od, .int .u64 nw])
    (t7 : 0 ≤ nw ∧ nw ≤ 18446744073709551615) (t6 : 0 ≤ od ∧ od ≤ 18446744073709551615) (t3 : -9223372036854775808 ≤ vl ∧ vl ≤ 9223372036854775807) (t2 : -9223372036854775808 ≤ key ∧ key ≤ 9223372036854775807)
    (lb : U64 l) (AT : RowKit.Hid (lastF (-1) zs l zs.length = at')) (LV : RowKit.Hid (st.s.live l = lvb)) (EV : RowKit.Hid (decide (0 ≤ vl ∧ vl ≤ 65535) = vok)) :
    Code.wp Try.prog cArms (Exit.then K (Exit.inBlock 1 (Exit.then KE Q))) ⟨#[s0, s1, s2, s3, s4, .pointer (some ⟨p, 0, none⟩), s6, .pointer (some ⟨pr, 0, none⟩), .slice L zs.length c0, vv, .int .i64 k, .pointer (some ⟨ob, 0, none⟩), .int .u64 l, .int .i64 at', s14, .bool lvb, .bool vok, s17, s18, s19, s20, s21, s22, s23, s24, s25, s26, s27, s28, s29, s30, s31, s32, s33, s34, s35, s36, s37, s38, s39, s40, s41, s42, s43, s44, s45, s46, s47, s48, s49, s50, s51, s52, s53, s54, s55, s56, s57, s58, s59, s60, s61, s62, s63, s64, s65, s66, s67, s68, s69, s70, s71, s72, s73, s74, s75, s76, s77, s78, s79, s80, s81, s82, s83, s84, s85, s86, s87, s88, s89, s90, s91, s92, s93, s94, s95, s96, s97, s98, s99, s100, s101, s102, s103, s104, s105, s106, s107, s108, s109, s110, s111, s112, s113, s114, s115, s116, s117, s118, s119, s120, s121, s122, s123, .int .i64 1, s125, s126, s127, s128, s129, s130, s131, s132, s133, s134, s135, s136, s137, s138, s139, s140, s141, s142, s143, s144, s145, s146, s147, s148, s149, s150, s151, s152, s153, s154, s155, s156, s157, s158, s159, s160, s161, s162, s163, s164, s165, s166, s167, s168, s169, s170, s171, s172, s173, s174, s175, s176, s177, s178, s179, s180, s181, s182, s183, s184, s185, s186, s187, s188, s189, s190, s191, s192, s193, s194, s195, s196, s197, s198, s199, s200, s201, s202, s203, s204, s205, s206, s207, s208, s209, s210, s211, s212, s213, s214, s215, s216, s217, s218, s219, s220, s221, s222, s223, s224, s225, s226, s227, s228, s229, s230, s231, s232, s233, s234, s235, s236, s237, s238, s239, s240, s241, s242, s243, s244, s245, s246, s247, s248, s249, s250, s251, s252, s253, s254, s255, s256, s257, s258, s259, s260, s261, s262, s263, s264, s265, s266, s267, s268, s269, s270, s271, s272, s273, s274, s275, s276, s277, s278, s279, s280, s281, s282, s283, s284, s285, s286, s287, s288, s289, s290, s291, s292, s293, s294, s295, s296, s297, s298, s299, s300, s301, s302, s303, s304, s305, s306, s307, s308, s309, s310, s311, s312, s313, s314, s315, s316, s317, s318, s319, s320, s321, s322, s323, s324, s325, s326, s327, s328, s329, s330, s331, s332, s333, s334, s335, s336, s337, s338, s339, s340, s341, s342, s343, s344, s345, s346, s347, s348, s349, s350, s351, s352, s353, s354, s355, s356, s357, s358, s359, s360, s361, s362, s363, s364, s365, s366, s367, s368, s369, s370, s371, s372, s373, s374, s375, s376, s377, s378], []⟩ wA := by
  have x0 := X.c 0 _ rfl
  have x3 := X.c 3 _ rfl
  conv => arg 2; whnf
  cases lvb with
  | true =>
    have lv := LV.out
    have hs : st.free l = (0, ⟨st.s.gave (slotOf l), st.r, st.c + 64⟩) := by unfold RS.free; rw [if_pos lv]
    have I2 := I.gone (i := slotOf l) (st.c + 64)
    have hG := @ref_give st.s A.r.ok.p l lv
    go_wp2_with fail
    refine (v_free A.r (by omega) l lb 0 _ hs).mono ?_
    rintro e y1 ⟨rfl, S2, h2, k2⟩
    obtain ⟨o2, A, SA⟩ := A.vstep h2 k2
    clear h2 k2 SA hs x0 x3
    go_wp2_with fail
    refine (hG _ _ _ _ _ A.rf).mono ?_
    rintro e y2 ⟨rfl, v4, h3, k3, g3⟩
    obtain ⟨o3, A, SA⟩ := A.rstep h3 k3 g3
    clear h3 k3 g3 SA hG
    go_wp2
    go_meet
    case rel => exact ⟨o3, S2, _, v4, zs, vs, ⟨[], by simp⟩, by omega, zb, I2, A.more (by omega)⟩
  | false =>
    have hs := dead_free LV.out
    go_wp2_with fail
    refine (v_free A.r (by omega) l lb 8 _ hs).mono ?_
    rintro e y1 ⟨rfl, S2, h2, k2⟩
    obtain ⟨o2, A, SA⟩ := A.vstep h2 k2
    clear h2 k2 SA hs x0 x3
    go_wp2
    go_meet
    case rel => exact ⟨o2, S2, _, v3, zs, vs, ⟨[], by simp⟩, by omega, zb, I.tick, A.more (by omega)⟩
set_option maxRecDepth 1000000 in
set_option maxHeartbeats 8000000 in
theorem arm2 { s0 s1 s2 s3 s4 s6 s14 s17 s18 s19 s20 s21 s22 s23 s24 s25 s26 s27 s28 s29 s30 s31 s32 s33 s34 s35 s36 s37 s38 s39 s40 s41 s42 s43 s44 s45 s46 s47 s48 s49 s50 s51 s52 s53 s54 s55 s56 s57 s58 s59 s60 s61 s62 s63 s64 s65 s66 s67 s68 s69 s70 s71 s72 s73 s74 s75 s76 s77 s78 s79 s80 s81 s82 s83 s84 s85 s86 s87 s88 s89 s90 s91 s92 s93 s94 s95 s96 s97 s98 s99 s100 s101 s102 s103 s104 s105 s106 s107 s108 s109 s110 s111 s112 s113 s114 s115 s116 s117 s118 s119 s120 s121 s122 s123 s125 s126 s127 s128 s129 s130 s131 s132 s133 s134 s135 s136 s137 s138 s139 s140 s141 s142 s143 s144 s145 s146 s147 s148 s149 s150 s151 s152 s153 s154 s155 s156 s157 s158 s159 s160 s161 s162 s163 s164 s165 s166 s167 s168 s169 s170 s171 s172 s173 s174 s175 s176 s177 s178 s179 s180 s181 s182 s183 s184 s185 s186 s187 s188 s189 s190 s191 s192 s193 s194 s195 s196 s197 s198 s199 s200 s201 s202 s203 s204 s205 s206 s207 s208 s209 s210 s211 s212 s213 s214 s215 s216 s217 s218 s219 s220 s221 s222 s223 s224 s225 s226 s227 s228 s229 s230 s231 s232 s233 s234 s235 s236 s237 s238 s239 s240 s241 s242 s243 s244 s245 s246 s247 s248 s249 s250 s251 s252 s253 s254 s255 s256 s257 s258 s259 s260 s261 s262 s263 s264 s265 s266 s267 s268 s269 s270 s271 s272 s273 s274 s275 s276 s277 s278 s279 s280 s281 s282 s283 s284 s285 s286 s287 s288 s289 s290 s291 s292 s293 s294 s295 s296 s297 s298 s299 s300 s301 s302 s303 s304 s305 s306 s307 s308 s309 s310 s311 s312 s313 s314 s315 s316 s317 s318 s319 s320 s321 s322 s323 s324 s325 s326 s327 s328 s329 s330 s331 s332 s333 s334 s335 s336 s337 s338 s339 s340 s341 s342 s343 s344 s345 s346 s347 s348 s349 s350 s351 s352 s353 s354 s355 s356 s357 s358 s359 s360 s361 s362 s363 s364 s365 s366 s367 s368 s369 s370 s371 s372 s373 s374 s375 s376 s377 s378 : Value}
    (hJ : ∀ a' w', PM W p pr b1 b2 k zs s0 s1 s2 s3 s6 (.pointer (some ⟨ob, 0, none⟩)) (.int .u64 l) (.int .i64 at') s14 (.bool lvb) (.bool vok) s22 s23 s24 s25 s26 s27 s28 s29 s30 s31 s32 s33 s34 s35 s36 s37 s38 s39 s40 s41 s42 s43 s44 s45 s46 s47 s48 s49 s50 s51 s52 s53 s54 s55 s56 s57 s58 s59 s60 s61 s378 a' w' → J a' w') (hK : ∀ a' w', Met J a' w' → K a' w')
    (hJE : ∀ a' w', PE W p pr b1 b2 k s0 s1 s2 s3 s6 s25 s26 s27 s28 s29 s30 s31 s32 s33 s34 s35 s36 s37 s38 s39 s40 s41 s42 s43 s44 s45 s46 s47 s48 s49 s50 s51 s52 s53 s54 s55 s56 s57 s58 s59 s60 s61 s378 a' w' → JE a' w') (hKE : ∀ a' w', Met JE a' w' → KE a' w')
    (hQp : RowKit.Hid (∀ c a d v w, Q (.panic c) (a.put d v) w → Q (.panic c) a w)) (h80 : k < 80) (zl : zs.length ≤ k) (zb : ∀ j, U64 (zs.getD j 0)) (I : Inv st zs vs)
    (A : All W wA oA p S st (8 * k + 1) pr b1 b2 v3 st.s (.slice L zs.length c0) zs vv vs)
    (X : Mine oA wA ob [.int .i64 2, .int .i64 nn, .int .i64 key, .int .i64 vl, .bool raw, .int .u64 lk, .int .u64 od, .int .u64 nw])
    (t7 : 0 ≤ nw ∧ nw ≤ 18446744073709551615) (t6 : 0 ≤ od ∧ od ≤ 18446744073709551615) (t3 : -9223372036854775808 ≤ vl ∧ vl ≤ 9223372036854775807) (t2 : -9223372036854775808 ≤ key ∧ key ≤ 9223372036854775807)
    (lb : U64 l) (AT : RowKit.Hid (lastF (-1) zs l zs.length = at')) (LV : RowKit.Hid (st.s.live l = lvb)) (EV : RowKit.Hid (decide (0 ≤ vl ∧ vl ≤ 65535) = vok)) :
    Code.wp Try.prog cArms (Exit.then K (Exit.inBlock 1 (Exit.then KE Q))) ⟨#[s0, s1, s2, s3, s4, .pointer (some ⟨p, 0, none⟩), s6, .pointer (some ⟨pr, 0, none⟩), .slice L zs.length c0, vv, .int .i64 k, .pointer (some ⟨ob, 0, none⟩), .int .u64 l, .int .i64 at', s14, .bool lvb, .bool vok, s17, s18, s19, s20, s21, s22, s23, s24, s25, s26, s27, s28, s29, s30, s31, s32, s33, s34, s35, s36, s37, s38, s39, s40, s41, s42, s43, s44, s45, s46, s47, s48, s49, s50, s51, s52, s53, s54, s55, s56, s57, s58, s59, s60, s61, s62, s63, s64, s65, s66, s67, s68, s69, s70, s71, s72, s73, s74, s75, s76, s77, s78, s79, s80, s81, s82, s83, s84, s85, s86, s87, s88, s89, s90, s91, s92, s93, s94, s95, s96, s97, s98, s99, s100, s101, s102, s103, s104, s105, s106, s107, s108, s109, s110, s111, s112, s113, s114, s115, s116, s117, s118, s119, s120, s121, s122, s123, .int .i64 2, s125, s126, s127, s128, s129, s130, s131, s132, s133, s134, s135, s136, s137, s138, s139, s140, s141, s142, s143, s144, s145, s146, s147, s148, s149, s150, s151, s152, s153, s154, s155, s156, s157, s158, s159, s160, s161, s162, s163, s164, s165, s166, s167, s168, s169, s170, s171, s172, s173, s174, s175, s176, s177, s178, s179, s180, s181, s182, s183, s184, s185, s186, s187, s188, s189, s190, s191, s192, s193, s194, s195, s196, s197, s198, s199, s200, s201, s202, s203, s204, s205, s206, s207, s208, s209, s210, s211, s212, s213, s214, s215, s216, s217, s218, s219, s220, s221, s222, s223, s224, s225, s226, s227, s228, s229, s230, s231, s232, s233, s234, s235, s236, s237, s238, s239, s240, s241, s242, s243, s244, s245, s246, s247, s248, s249, s250, s251, s252, s253, s254, s255, s256, s257, s258, s259, s260, s261, s262, s263, s264, s265, s266, s267, s268, s269, s270, s271, s272, s273, s274, s275, s276, s277, s278, s279, s280, s281, s282, s283, s284, s285, s286, s287, s288, s289, s290, s291, s292, s293, s294, s295, s296, s297, s298, s299, s300, s301, s302, s303, s304, s305, s306, s307, s308, s309, s310, s311, s312, s313, s314, s315, s316, s317, s318, s319, s320, s321, s322, s323, s324, s325, s326, s327, s328, s329, s330, s331, s332, s333, s334, s335, s336, s337, s338, s339, s340, s341, s342, s343, s344, s345, s346, s347, s348, s349, s350, s351, s352, s353, s354, s355, s356, s357, s358, s359, s360, s361, s362, s363, s364, s365, s366, s367, s368, s369, s370, s371, s372, s373, s374, s375, s376, s377, s378], []⟩ wA := by
  have x0 := X.c 0 _ rfl
  have x3 := X.c 3 _ rfl
  conv => arg 2; whnf
  cases lvb with
  | true =>
    have lv := LV.out
    cases vok with
    | true =>
      have hv := of_decide_eq_true EV.out
      have hs : st.set l vl = (0, st.put (slotOf l) { st.ver (slotOf l) with v := vl }) := by unfold RS.set; rw [if_pos lv, if_neg (by omega)]
      obtain ⟨j, hjv, eat, evj⟩ := at_live I lv AT.out
      subst eat
      obtain ⟨gv, cv, evv⟩ := vers_at A.vw hjv
      subst evv
      have I2 := I.put A.r.ok lv AT.out { st.ver (slotOf l) with v := vl }
      have hx : verC { st.ver (slotOf l) with v := vl } = (verC vs[j]).set 1 (.int .i64 vl) := by rw [evj]; rfl
      go_wp2_with fail
      refine (v_set A.r (by omega) l vl lb 0 _ hs).mono ?_
      rintro e y1 ⟨rfl, S2, h2, k2⟩
      obtain ⟨o2, A, SA⟩ := A.vstep h2 k2
      have X := X.stay SA
      have x3' := X.c 3 _ rfl
      have cf : y1.cell? ⟨gv, j * 5 + 1, none⟩ = some (.int .i64 vs[j].v) := A.vw.cell verC_len j 1 hjv (by omega)
      have zf := A.vw.free (j * 5 + 1)
      clear h2 k2 SA hs x0 x3
      go_wp2
      go_meet
      case rel => exact ⟨o2, S2, _, v3, zs, _, ⟨[], by simp⟩, by omega, zb, I2, (A.vput j 1 hjv (by omega) (.int .i64 vl) _ hx).more (by omega)⟩
    | false =>
      have hv := of_decide_eq_false EV.out
      have hs : st.set l vl = (1, st.tick) := by unfold RS.set; rw [if_pos lv, if_pos (by omega)]
      go_wp2_with fail
      refine (v_set A.r (by omega) l vl lb 1 _ hs).mono ?_
      rintro e y1 ⟨rfl, S2, h2, k2⟩
      obtain ⟨o2, A, SA⟩ := A.vstep h2 k2
      clear h2 k2 SA hs x0 x3
      go_wp2
      go_meet
      case rel => exact ⟨o2, S2, _, v3, zs, vs, ⟨[], by simp⟩, by omega, zb, I.tick, A.more (by omega)⟩
  | false =>
    have hs := dead_set LV.out vl
    go_wp2_with fail
    refine (v_set A.r (by omega) l vl lb 8 _ hs).mono ?_
    rintro e y1 ⟨rfl, S2, h2, k2⟩
    obtain ⟨o2, A, SA⟩ := A.vstep h2 k2
    clear h2 k2 SA hs x0 x3
    go_wp2
    go_meet
    case rel => exact ⟨o2, S2, _, v3, zs, vs, ⟨[], by simp⟩, by omega, zb, I.tick, A.more (by omega)⟩
set_option maxRecDepth 1000000 in
set_option maxHeartbeats 8000000 in
theorem arm3 { s0 s1 s2 s3 s4 s6 s14 s17 s18 s19 s20 s21 s22 s23 s24 s25 s26 s27 s28 s29 s30 s31 s32 s33 s34 s35 s36 s37 s38 s39 s40 s41 s42 s43 s44 s45 s46 s47 s48 s49 s50 s51 s52 s53 s54 s55 s56 s57 s58 s59 s60 s61 s62 s63 s64 s65 s66 s67 s68 s69 s70 s71 s72 s73 s74 s75 s76 s77 s78 s79 s80 s81 s82 s83 s84 s85 s86 s87 s88 s89 s90 s91 s92 s93 s94 s95 s96 s97 s98 s99 s100 s101 s102 s103 s104 s105 s106 s107 s108 s109 s110 s111 s112 s113 s114 s115 s116 s117 s118 s119 s120 s121 s122 s123 s125 s126 s127 s128 s129 s130 s131 s132 s133 s134 s135 s136 s137 s138 s139 s140 s141 s142 s143 s144 s145 s146 s147 s148 s149 s150 s151 s152 s153 s154 s155 s156 s157 s158 s159 s160 s161 s162 s163 s164 s165 s166 s167 s168 s169 s170 s171 s172 s173 s174 s175 s176 s177 s178 s179 s180 s181 s182 s183 s184 s185 s186 s187 s188 s189 s190 s191 s192 s193 s194 s195 s196 s197 s198 s199 s200 s201 s202 s203 s204 s205 s206 s207 s208 s209 s210 s211 s212 s213 s214 s215 s216 s217 s218 s219 s220 s221 s222 s223 s224 s225 s226 s227 s228 s229 s230 s231 s232 s233 s234 s235 s236 s237 s238 s239 s240 s241 s242 s243 s244 s245 s246 s247 s248 s249 s250 s251 s252 s253 s254 s255 s256 s257 s258 s259 s260 s261 s262 s263 s264 s265 s266 s267 s268 s269 s270 s271 s272 s273 s274 s275 s276 s277 s278 s279 s280 s281 s282 s283 s284 s285 s286 s287 s288 s289 s290 s291 s292 s293 s294 s295 s296 s297 s298 s299 s300 s301 s302 s303 s304 s305 s306 s307 s308 s309 s310 s311 s312 s313 s314 s315 s316 s317 s318 s319 s320 s321 s322 s323 s324 s325 s326 s327 s328 s329 s330 s331 s332 s333 s334 s335 s336 s337 s338 s339 s340 s341 s342 s343 s344 s345 s346 s347 s348 s349 s350 s351 s352 s353 s354 s355 s356 s357 s358 s359 s360 s361 s362 s363 s364 s365 s366 s367 s368 s369 s370 s371 s372 s373 s374 s375 s376 s377 s378 : Value}
    (hJ : ∀ a' w', PM W p pr b1 b2 k zs s0 s1 s2 s3 s6 (.pointer (some ⟨ob, 0, none⟩)) (.int .u64 l) (.int .i64 at') s14 (.bool lvb) (.bool vok) s22 s23 s24 s25 s26 s27 s28 s29 s30 s31 s32 s33 s34 s35 s36 s37 s38 s39 s40 s41 s42 s43 s44 s45 s46 s47 s48 s49 s50 s51 s52 s53 s54 s55 s56 s57 s58 s59 s60 s61 s378 a' w' → J a' w') (hK : ∀ a' w', Met J a' w' → K a' w')
    (hJE : ∀ a' w', PE W p pr b1 b2 k s0 s1 s2 s3 s6 s25 s26 s27 s28 s29 s30 s31 s32 s33 s34 s35 s36 s37 s38 s39 s40 s41 s42 s43 s44 s45 s46 s47 s48 s49 s50 s51 s52 s53 s54 s55 s56 s57 s58 s59 s60 s61 s378 a' w' → JE a' w') (hKE : ∀ a' w', Met JE a' w' → KE a' w')
    (hQp : RowKit.Hid (∀ c a d v w, Q (.panic c) (a.put d v) w → Q (.panic c) a w)) (h80 : k < 80) (zl : zs.length ≤ k) (zb : ∀ j, U64 (zs.getD j 0)) (I : Inv st zs vs)
    (A : All W wA oA p S st (8 * k + 1) pr b1 b2 v3 st.s (.slice L zs.length c0) zs vv vs)
    (X : Mine oA wA ob [.int .i64 3, .int .i64 nn, .int .i64 key, .int .i64 vl, .bool raw, .int .u64 lk, .int .u64 od, .int .u64 nw])
    (t7 : 0 ≤ nw ∧ nw ≤ 18446744073709551615) (t6 : 0 ≤ od ∧ od ≤ 18446744073709551615) (t3 : -9223372036854775808 ≤ vl ∧ vl ≤ 9223372036854775807) (t2 : -9223372036854775808 ≤ key ∧ key ≤ 9223372036854775807)
    (lb : U64 l) (AT : RowKit.Hid (lastF (-1) zs l zs.length = at')) (LV : RowKit.Hid (st.s.live l = lvb)) (EV : RowKit.Hid (decide (0 ≤ vl ∧ vl ≤ 65535) = vok)) :
    Code.wp Try.prog cArms (Exit.then K (Exit.inBlock 1 (Exit.then KE Q))) ⟨#[s0, s1, s2, s3, s4, .pointer (some ⟨p, 0, none⟩), s6, .pointer (some ⟨pr, 0, none⟩), .slice L zs.length c0, vv, .int .i64 k, .pointer (some ⟨ob, 0, none⟩), .int .u64 l, .int .i64 at', s14, .bool lvb, .bool vok, s17, s18, s19, s20, s21, s22, s23, s24, s25, s26, s27, s28, s29, s30, s31, s32, s33, s34, s35, s36, s37, s38, s39, s40, s41, s42, s43, s44, s45, s46, s47, s48, s49, s50, s51, s52, s53, s54, s55, s56, s57, s58, s59, s60, s61, s62, s63, s64, s65, s66, s67, s68, s69, s70, s71, s72, s73, s74, s75, s76, s77, s78, s79, s80, s81, s82, s83, s84, s85, s86, s87, s88, s89, s90, s91, s92, s93, s94, s95, s96, s97, s98, s99, s100, s101, s102, s103, s104, s105, s106, s107, s108, s109, s110, s111, s112, s113, s114, s115, s116, s117, s118, s119, s120, s121, s122, s123, .int .i64 3, s125, s126, s127, s128, s129, s130, s131, s132, s133, s134, s135, s136, s137, s138, s139, s140, s141, s142, s143, s144, s145, s146, s147, s148, s149, s150, s151, s152, s153, s154, s155, s156, s157, s158, s159, s160, s161, s162, s163, s164, s165, s166, s167, s168, s169, s170, s171, s172, s173, s174, s175, s176, s177, s178, s179, s180, s181, s182, s183, s184, s185, s186, s187, s188, s189, s190, s191, s192, s193, s194, s195, s196, s197, s198, s199, s200, s201, s202, s203, s204, s205, s206, s207, s208, s209, s210, s211, s212, s213, s214, s215, s216, s217, s218, s219, s220, s221, s222, s223, s224, s225, s226, s227, s228, s229, s230, s231, s232, s233, s234, s235, s236, s237, s238, s239, s240, s241, s242, s243, s244, s245, s246, s247, s248, s249, s250, s251, s252, s253, s254, s255, s256, s257, s258, s259, s260, s261, s262, s263, s264, s265, s266, s267, s268, s269, s270, s271, s272, s273, s274, s275, s276, s277, s278, s279, s280, s281, s282, s283, s284, s285, s286, s287, s288, s289, s290, s291, s292, s293, s294, s295, s296, s297, s298, s299, s300, s301, s302, s303, s304, s305, s306, s307, s308, s309, s310, s311, s312, s313, s314, s315, s316, s317, s318, s319, s320, s321, s322, s323, s324, s325, s326, s327, s328, s329, s330, s331, s332, s333, s334, s335, s336, s337, s338, s339, s340, s341, s342, s343, s344, s345, s346, s347, s348, s349, s350, s351, s352, s353, s354, s355, s356, s357, s358, s359, s360, s361, s362, s363, s364, s365, s366, s367, s368, s369, s370, s371, s372, s373, s374, s375, s376, s377, s378], []⟩ wA := by
  have x0 := X.c 0 _ rfl
  have x3 := X.c 3 _ rfl
  conv => arg 2; whnf
  have x7 := X.c 7 _ rfl
  cases lvb with
  | true =>
    have lv := LV.out
    have hs : st.next l nw = (0, st.put (slotOf l) { st.ver (slotOf l) with n := nw }) := by unfold RS.next; rw [if_pos lv]
    obtain ⟨j, hjv, eat, evj⟩ := at_live I lv AT.out
    subst eat
    obtain ⟨gv, cv, evv⟩ := vers_at A.vw hjv
    subst evv
    have I2 := I.put A.r.ok lv AT.out { st.ver (slotOf l) with n := nw }
    have hx : verC { st.ver (slotOf l) with n := nw } = (verC vs[j]).set 4 (.int .u64 nw) := by rw [evj]; rfl
    go_wp2_with fail
    refine (v_next A.r (by omega) l nw lb t7 0 _ hs).mono ?_
    rintro e y1 ⟨rfl, S2, h2, k2⟩
    obtain ⟨o2, A, SA⟩ := A.vstep h2 k2
    have X := X.stay SA
    have x7' := X.c 7 _ rfl
    have cf : y1.cell? ⟨gv, j * 5 + 4, none⟩ = some (.int .u64 vs[j].n) := A.vw.cell verC_len j 4 hjv (by omega)
    have zf := A.vw.free (j * 5 + 4)
    clear h2 k2 SA hs x0 x3 x7
    go_wp2
    go_meet
    case rel => exact ⟨o2, S2, _, v3, zs, _, ⟨[], by simp⟩, by omega, zb, I2, (A.vput j 4 hjv (by omega) (.int .u64 nw) _ hx).more (by omega)⟩
  | false =>
    have hs := dead_next LV.out nw
    go_wp2_with fail
    refine (v_next A.r (by omega) l nw lb t7 8 _ hs).mono ?_
    rintro e y1 ⟨rfl, S2, h2, k2⟩
    obtain ⟨o2, A, SA⟩ := A.vstep h2 k2
    clear h2 k2 SA hs x0 x3 x7
    go_wp2
    go_meet
    case rel => exact ⟨o2, S2, _, v3, zs, vs, ⟨[], by simp⟩, by omega, zb, I.tick, A.more (by omega)⟩
set_option maxRecDepth 1000000 in
set_option maxHeartbeats 8000000 in
theorem armN {kd : Int} { s0 s1 s2 s3 s4 s6 s14 s17 s18 s19 s20 s21 s22 s23 s24 s25 s26 s27 s28 s29 s30 s31 s32 s33 s34 s35 s36 s37 s38 s39 s40 s41 s42 s43 s44 s45 s46 s47 s48 s49 s50 s51 s52 s53 s54 s55 s56 s57 s58 s59 s60 s61 s62 s63 s64 s65 s66 s67 s68 s69 s70 s71 s72 s73 s74 s75 s76 s77 s78 s79 s80 s81 s82 s83 s84 s85 s86 s87 s88 s89 s90 s91 s92 s93 s94 s95 s96 s97 s98 s99 s100 s101 s102 s103 s104 s105 s106 s107 s108 s109 s110 s111 s112 s113 s114 s115 s116 s117 s118 s119 s120 s121 s122 s123 s125 s126 s127 s128 s129 s130 s131 s132 s133 s134 s135 s136 s137 s138 s139 s140 s141 s142 s143 s144 s145 s146 s147 s148 s149 s150 s151 s152 s153 s154 s155 s156 s157 s158 s159 s160 s161 s162 s163 s164 s165 s166 s167 s168 s169 s170 s171 s172 s173 s174 s175 s176 s177 s178 s179 s180 s181 s182 s183 s184 s185 s186 s187 s188 s189 s190 s191 s192 s193 s194 s195 s196 s197 s198 s199 s200 s201 s202 s203 s204 s205 s206 s207 s208 s209 s210 s211 s212 s213 s214 s215 s216 s217 s218 s219 s220 s221 s222 s223 s224 s225 s226 s227 s228 s229 s230 s231 s232 s233 s234 s235 s236 s237 s238 s239 s240 s241 s242 s243 s244 s245 s246 s247 s248 s249 s250 s251 s252 s253 s254 s255 s256 s257 s258 s259 s260 s261 s262 s263 s264 s265 s266 s267 s268 s269 s270 s271 s272 s273 s274 s275 s276 s277 s278 s279 s280 s281 s282 s283 s284 s285 s286 s287 s288 s289 s290 s291 s292 s293 s294 s295 s296 s297 s298 s299 s300 s301 s302 s303 s304 s305 s306 s307 s308 s309 s310 s311 s312 s313 s314 s315 s316 s317 s318 s319 s320 s321 s322 s323 s324 s325 s326 s327 s328 s329 s330 s331 s332 s333 s334 s335 s336 s337 s338 s339 s340 s341 s342 s343 s344 s345 s346 s347 s348 s349 s350 s351 s352 s353 s354 s355 s356 s357 s358 s359 s360 s361 s362 s363 s364 s365 s366 s367 s368 s369 s370 s371 s372 s373 s374 s375 s376 s377 s378 : Value}
    (hJ : ∀ a' w', PM W p pr b1 b2 k zs s0 s1 s2 s3 s6 (.pointer (some ⟨ob, 0, none⟩)) (.int .u64 l) (.int .i64 at') s14 (.bool lvb) (.bool vok) s22 s23 s24 s25 s26 s27 s28 s29 s30 s31 s32 s33 s34 s35 s36 s37 s38 s39 s40 s41 s42 s43 s44 s45 s46 s47 s48 s49 s50 s51 s52 s53 s54 s55 s56 s57 s58 s59 s60 s61 s378 a' w' → J a' w') (hK : ∀ a' w', Met J a' w' → K a' w')
    (hJE : ∀ a' w', PE W p pr b1 b2 k s0 s1 s2 s3 s6 s25 s26 s27 s28 s29 s30 s31 s32 s33 s34 s35 s36 s37 s38 s39 s40 s41 s42 s43 s44 s45 s46 s47 s48 s49 s50 s51 s52 s53 s54 s55 s56 s57 s58 s59 s60 s61 s378 a' w' → JE a' w') (hKE : ∀ a' w', Met JE a' w' → KE a' w')
    (hQp : RowKit.Hid (∀ c a d v w, Q (.panic c) (a.put d v) w → Q (.panic c) a w)) (h80 : k < 80) (zl : zs.length ≤ k) (zb : ∀ j, U64 (zs.getD j 0)) (I : Inv st zs vs)
    (A : All W wA oA p S st (8 * k + 1) pr b1 b2 v3 st.s (.slice L zs.length c0) zs vv vs)
    (X : Mine oA wA ob [.int .i64 kd, .int .i64 nn, .int .i64 key, .int .i64 vl, .bool raw, .int .u64 lk, .int .u64 od, .int .u64 nw])
    (t7 : 0 ≤ nw ∧ nw ≤ 18446744073709551615) (t6 : 0 ≤ od ∧ od ≤ 18446744073709551615) (t3 : -9223372036854775808 ≤ vl ∧ vl ≤ 9223372036854775807) (t2 : -9223372036854775808 ≤ key ∧ key ≤ 9223372036854775807)
    (lb : U64 l) (AT : RowKit.Hid (lastF (-1) zs l zs.length = at')) (LV : RowKit.Hid (st.s.live l = lvb)) (EV : RowKit.Hid (decide (0 ≤ vl ∧ vl ≤ 65535) = vok)) (hkd : ¬ (0 ≤ kd ∧ kd ≤ 5)) :
    Code.wp Try.prog cArms (Exit.then K (Exit.inBlock 1 (Exit.then KE Q))) ⟨#[s0, s1, s2, s3, s4, .pointer (some ⟨p, 0, none⟩), s6, .pointer (some ⟨pr, 0, none⟩), .slice L zs.length c0, vv, .int .i64 k, .pointer (some ⟨ob, 0, none⟩), .int .u64 l, .int .i64 at', s14, .bool lvb, .bool vok, s17, s18, s19, s20, s21, s22, s23, s24, s25, s26, s27, s28, s29, s30, s31, s32, s33, s34, s35, s36, s37, s38, s39, s40, s41, s42, s43, s44, s45, s46, s47, s48, s49, s50, s51, s52, s53, s54, s55, s56, s57, s58, s59, s60, s61, s62, s63, s64, s65, s66, s67, s68, s69, s70, s71, s72, s73, s74, s75, s76, s77, s78, s79, s80, s81, s82, s83, s84, s85, s86, s87, s88, s89, s90, s91, s92, s93, s94, s95, s96, s97, s98, s99, s100, s101, s102, s103, s104, s105, s106, s107, s108, s109, s110, s111, s112, s113, s114, s115, s116, s117, s118, s119, s120, s121, s122, s123, .int .i64 kd, s125, s126, s127, s128, s129, s130, s131, s132, s133, s134, s135, s136, s137, s138, s139, s140, s141, s142, s143, s144, s145, s146, s147, s148, s149, s150, s151, s152, s153, s154, s155, s156, s157, s158, s159, s160, s161, s162, s163, s164, s165, s166, s167, s168, s169, s170, s171, s172, s173, s174, s175, s176, s177, s178, s179, s180, s181, s182, s183, s184, s185, s186, s187, s188, s189, s190, s191, s192, s193, s194, s195, s196, s197, s198, s199, s200, s201, s202, s203, s204, s205, s206, s207, s208, s209, s210, s211, s212, s213, s214, s215, s216, s217, s218, s219, s220, s221, s222, s223, s224, s225, s226, s227, s228, s229, s230, s231, s232, s233, s234, s235, s236, s237, s238, s239, s240, s241, s242, s243, s244, s245, s246, s247, s248, s249, s250, s251, s252, s253, s254, s255, s256, s257, s258, s259, s260, s261, s262, s263, s264, s265, s266, s267, s268, s269, s270, s271, s272, s273, s274, s275, s276, s277, s278, s279, s280, s281, s282, s283, s284, s285, s286, s287, s288, s289, s290, s291, s292, s293, s294, s295, s296, s297, s298, s299, s300, s301, s302, s303, s304, s305, s306, s307, s308, s309, s310, s311, s312, s313, s314, s315, s316, s317, s318, s319, s320, s321, s322, s323, s324, s325, s326, s327, s328, s329, s330, s331, s332, s333, s334, s335, s336, s337, s338, s339, s340, s341, s342, s343, s344, s345, s346, s347, s348, s349, s350, s351, s352, s353, s354, s355, s356, s357, s358, s359, s360, s361, s362, s363, s364, s365, s366, s367, s368, s369, s370, s371, s372, s373, s374, s375, s376, s377, s378], []⟩ wA := by
  have x0 := X.c 0 _ rfl
  have x3 := X.c 3 _ rfl
  conv => arg 2; whnf
  have q0 : (kd == 0) = false := by rw [beq_eq_false_iff_ne]; omega
  have q1 : (kd == 1) = false := by rw [beq_eq_false_iff_ne]; omega
  have q2 : (kd == 2) = false := by rw [beq_eq_false_iff_ne]; omega
  have q3 : (kd == 3) = false := by rw [beq_eq_false_iff_ne]; omega
  have q4 : (kd == 4) = false := by rw [beq_eq_false_iff_ne]; omega
  have q5 : (kd == 5) = false := by rw [beq_eq_false_iff_ne]; omega
  go_wp2
  go_meet
  case rel => exact ⟨_, S, st, v3, zs, vs, ⟨[], by simp⟩, by omega, zb, I, A.more (by omega)⟩
end
end Go.Proofs.Ythmohehmpleciaa.recPlays
