/- RecPlays, a round's head; conditions: what the parts before it have laid. -/
import Derived.Test.YthmohehmpleciaaRpC
open Go Go.ChangeShapes Go.WideShapes Go.ChangeAt Go.RowKit
set_option linter.unusedVariables false
namespace Go.Proofs.Ythmohehmpleciaa.recPlays
set_option maxRecDepth 1000000 in
/-- Behind the choice of the link. -/
def PD (w : World) (s0 s1 s2 s3 s4 s5 s6 s7 s8 s9 s10 s11 s13 s14 s15 s16 s17 s18 s19 s20 s21 s22 s23 s24 s25 s26 s27 s28 s29 s30 s31 s32 s33 s34 s35 s36 s37 s38 s39 s40 s41 s42 s43 s44 s45 s46 s47 s48 s49 s50 s51 s52 s53 s54 s55 s56 s57 s58 s59 s60 s61 s378 : Value) (a' : Act) (w' : World) : Prop :=
  ∃ u12 u62 u63 u64 u65 u66 u67 u68 u69 u70 u71 u72 u73 u74 u75 u76 u77 u78 u79 u80 u81 u82 u83 u84 u85 u86 u87 u88 u89 u90 u91 u92 u93 u94 u95 u96 u97 u98 u99 u100 u101 u102 u103 u104 u105 u106 u107 u108 u109 u110 u111 u112 u113 u114 u115 u116 u117 u118 u119 u120 u121 u122 u123 u124 u125 u126 u127 u128 u129 u130 u131 u132 u133 u134 u135 u136 u137 u138 u139 u140 u141 u142 u143 u144 u145 u146 u147 u148 u149 u150 u151 u152 u153 u154 u155 u156 u157 u158 u159 u160 u161 u162 u163 u164 u165 u166 u167 u168 u169 u170 u171 u172 u173 u174 u175 u176 u177 u178 u179 u180 u181 u182 u183 u184 u185 u186 u187 u188 u189 u190 u191 u192 u193 u194 u195 u196 u197 u198 u199 u200 u201 u202 u203 u204 u205 u206 u207 u208 u209 u210 u211 u212 u213 u214 u215 u216 u217 u218 u219 u220 u221 u222 u223 u224 u225 u226 u227 u228 u229 u230 u231 u232 u233 u234 u235 u236 u237 u238 u239 u240 u241 u242 u243 u244 u245 u246 u247 u248 u249 u250 u251 u252 u253 u254 u255 u256 u257 u258 u259 u260 u261 u262 u263 u264 u265 u266 u267 u268 u269 u270 u271 u272 u273 u274 u275 u276 u277 u278 u279 u280 u281 u282 u283 u284 u285 u286 u287 u288 u289 u290 u291 u292 u293 u294 u295 u296 u297 u298 u299 u300 u301 u302 u303 u304 u305 u306 u307 u308 u309 u310 u311 u312 u313 u314 u315 u316 u317 u318 u319 u320 u321 u322 u323 u324 u325 u326 u327 u328 u329 u330 u331 u332 u333 u334 u335 u336 u337 u338 u339 u340 u341 u342 u343 u344 u345 u346 u347 u348 u349 u350 u351 u352 u353 u354 u355 u356 u357 u358 u359 u360 u361 u362 u363 u364 u365 u366 u367 u368 u369 u370 u371 u372 u373 u374 u375 u376 u377 : Value, ((∃ l : Int, u12 = .int .u64 l ∧ U64 l) ∧ w = w') ∧ a' = ⟨#[s0, s1, s2, s3, s4, s5, s6, s7, s8, s9, s10, s11, u12, s13, s14, s15, s16, s17, s18, s19, s20, s21, s22, s23, s24, s25, s26, s27, s28, s29, s30, s31, s32, s33, s34, s35, s36, s37, s38, s39, s40, s41, s42, s43, s44, s45, s46, s47, s48, s49, s50, s51, s52, s53, s54, s55, s56, s57, s58, s59, s60, s61, u62, u63, u64, u65, u66, u67, u68, u69, u70, u71, u72, u73, u74, u75, u76, u77, u78, u79, u80, u81, u82, u83, u84, u85, u86, u87, u88, u89, u90, u91, u92, u93, u94, u95, u96, u97, u98, u99, u100, u101, u102, u103, u104, u105, u106, u107, u108, u109, u110, u111, u112, u113, u114, u115, u116, u117, u118, u119, u120, u121, u122, u123, u124, u125, u126, u127, u128, u129, u130, u131, u132, u133, u134, u135, u136, u137, u138, u139, u140, u141, u142, u143, u144, u145, u146, u147, u148, u149, u150, u151, u152, u153, u154, u155, u156, u157, u158, u159, u160, u161, u162, u163, u164, u165, u166, u167, u168, u169, u170, u171, u172, u173, u174, u175, u176, u177, u178, u179, u180, u181, u182, u183, u184, u185, u186, u187, u188, u189, u190, u191, u192, u193, u194, u195, u196, u197, u198, u199, u200, u201, u202, u203, u204, u205, u206, u207, u208, u209, u210, u211, u212, u213, u214, u215, u216, u217, u218, u219, u220, u221, u222, u223, u224, u225, u226, u227, u228, u229, u230, u231, u232, u233, u234, u235, u236, u237, u238, u239, u240, u241, u242, u243, u244, u245, u246, u247, u248, u249, u250, u251, u252, u253, u254, u255, u256, u257, u258, u259, u260, u261, u262, u263, u264, u265, u266, u267, u268, u269, u270, u271, u272, u273, u274, u275, u276, u277, u278, u279, u280, u281, u282, u283, u284, u285, u286, u287, u288, u289, u290, u291, u292, u293, u294, u295, u296, u297, u298, u299, u300, u301, u302, u303, u304, u305, u306, u307, u308, u309, u310, u311, u312, u313, u314, u315, u316, u317, u318, u319, u320, u321, u322, u323, u324, u325, u326, u327, u328, u329, u330, u331, u332, u333, u334, u335, u336, u337, u338, u339, u340, u341, u342, u343, u344, u345, u346, u347, u348, u349, u350, u351, u352, u353, u354, u355, u356, u357, u358, u359, u360, u361, u362, u363, u364, u365, u366, u367, u368, u369, u370, u371, u372, u373, u374, u375, u376, u377, s378], []⟩
noncomputable def cLinkOf : Code := (Try.f6.body.bind (afterG 17)).getD .skip
set_option maxRecDepth 1000000 in
set_option maxHeartbeats 16000000 in
theorem linkOf {W wA : World} {oA : Nat → Nat} {p : Nat} {S : Nat → Prop} {st : RS} {k pr b1 b2 : Nat} {v3 : Value} {L : Option Addr} {c0 : Nat} {zs : List Int} {vv : Value} {vs : List Ver} {kd nn key vl : Int} {raw : Bool} {lk od nw : Int} {ob : Nat} {Q : Exit → Act → World → Prop} {J K : Act → World → Prop} {cnd : Bool} { s0 s1 s2 s3 s4 s6 s14 s15 s16 s17 s18 s19 s20 s21 s22 s23 s24 s25 s26 s27 s28 s29 s30 s31 s32 s33 s34 s35 s36 s37 s38 s39 s40 s41 s42 s43 s44 s45 s46 s47 s48 s49 s50 s51 s52 s53 s54 s55 s56 s57 s58 s59 s60 s61 s62 s63 s64 s65 s66 s67 s68 s69 s70 s71 s72 s73 s74 s75 s76 s77 s78 s79 s80 s81 s82 s83 s84 s86 s87 s88 s89 s90 s91 s92 s93 s94 s95 s96 s97 s98 s99 s100 s101 s102 s103 s104 s105 s106 s107 s108 s109 s110 s111 s112 s113 s114 s115 s116 s117 s118 s119 s120 s121 s122 s123 s124 s125 s126 s127 s128 s129 s130 s131 s132 s133 s134 s135 s136 s137 s138 s139 s140 s141 s142 s143 s144 s145 s146 s147 s148 s149 s150 s151 s152 s153 s154 s155 s156 s157 s158 s159 s160 s161 s162 s163 s164 s165 s166 s167 s168 s169 s170 s171 s172 s173 s174 s175 s176 s177 s178 s179 s180 s181 s182 s183 s184 s185 s186 s187 s188 s189 s190 s191 s192 s193 s194 s195 s196 s197 s198 s199 s200 s201 s202 s203 s204 s205 s206 s207 s208 s209 s210 s211 s212 s213 s214 s215 s216 s217 s218 s219 s220 s221 s222 s223 s224 s225 s226 s227 s228 s229 s230 s231 s232 s233 s234 s235 s236 s237 s238 s239 s240 s241 s242 s243 s244 s245 s246 s247 s248 s249 s250 s251 s252 s253 s254 s255 s256 s257 s258 s259 s260 s261 s262 s263 s264 s265 s266 s267 s268 s269 s270 s271 s272 s273 s274 s275 s276 s277 s278 s279 s280 s281 s282 s283 s284 s285 s286 s287 s288 s289 s290 s291 s292 s293 s294 s295 s296 s297 s298 s299 s300 s301 s302 s303 s304 s305 s306 s307 s308 s309 s310 s311 s312 s313 s314 s315 s316 s317 s318 s319 s320 s321 s322 s323 s324 s325 s326 s327 s328 s329 s330 s331 s332 s333 s334 s335 s336 s337 s338 s339 s340 s341 s342 s343 s344 s345 s346 s347 s348 s349 s350 s351 s352 s353 s354 s355 s356 s357 s358 s359 s360 s361 s362 s363 s364 s365 s366 s367 s368 s369 s370 s371 s372 s373 s374 s375 s376 s377 s378 : Value}
    (hJ : ∀ a' w', PD wA s0 s1 s2 s3 s4 (.pointer (some ⟨p, 0, none⟩)) s6 (.pointer (some ⟨pr, 0, none⟩)) (.slice L zs.length c0) vv (.int .i64 k) (.pointer (some ⟨ob, 0, none⟩)) (.int .i64 (-1)) s14 s15 s16 s17 s18 s19 s20 s21 s22 s23 s24 s25 s26 s27 s28 s29 s30 s31 s32 s33 s34 s35 s36 s37 s38 s39 s40 s41 s42 s43 s44 s45 s46 s47 s48 s49 s50 s51 s52 s53 s54 s55 s56 s57 s58 s59 s60 s61 s378 a' w' → J a' w') (hK : ∀ a' w', Met J a' w' → K a' w')
    (zb : ∀ j, U64 (zs.getD j 0)) (A : All W wA oA p S st (8 * k + 1) pr b1 b2 v3 st.s (.slice L zs.length c0) zs vv vs) (X : Mine oA wA ob [.int .i64 kd, .int .i64 nn, .int .i64 key, .int .i64 vl, .bool raw, .int .u64 lk, .int .u64 od, .int .u64 nw]) (t5 : 0 ≤ lk ∧ lk ≤ 18446744073709551615) (EC : RowKit.Hid ((decide (0 < zs.length) && !raw) = cnd)) :
    Code.wp Try.prog cLinkOf (Exit.then K Q) ⟨#[s0, s1, s2, s3, s4, .pointer (some ⟨p, 0, none⟩), s6, .pointer (some ⟨pr, 0, none⟩), .slice L zs.length c0, vv, .int .i64 k, .pointer (some ⟨ob, 0, none⟩), .int .u64 lk, .int .i64 (-1), s14, s15, s16, s17, s18, s19, s20, s21, s22, s23, s24, s25, s26, s27, s28, s29, s30, s31, s32, s33, s34, s35, s36, s37, s38, s39, s40, s41, s42, s43, s44, s45, s46, s47, s48, s49, s50, s51, s52, s53, s54, s55, s56, s57, s58, s59, s60, s61, s62, s63, s64, s65, s66, s67, s68, s69, s70, s71, s72, s73, s74, s75, s76, s77, s78, s79, s80, s81, s82, s83, s84, .bool cnd, s86, s87, s88, s89, s90, s91, s92, s93, s94, s95, s96, s97, s98, s99, s100, s101, s102, s103, s104, s105, s106, s107, s108, s109, s110, s111, s112, s113, s114, s115, s116, s117, s118, s119, s120, s121, s122, s123, s124, s125, s126, s127, s128, s129, s130, s131, s132, s133, s134, s135, s136, s137, s138, s139, s140, s141, s142, s143, s144, s145, s146, s147, s148, s149, s150, s151, s152, s153, s154, s155, s156, s157, s158, s159, s160, s161, s162, s163, s164, s165, s166, s167, s168, s169, s170, s171, s172, s173, s174, s175, s176, s177, s178, s179, s180, s181, s182, s183, s184, s185, s186, s187, s188, s189, s190, s191, s192, s193, s194, s195, s196, s197, s198, s199, s200, s201, s202, s203, s204, s205, s206, s207, s208, s209, s210, s211, s212, s213, s214, s215, s216, s217, s218, s219, s220, s221, s222, s223, s224, s225, s226, s227, s228, s229, s230, s231, s232, s233, s234, s235, s236, s237, s238, s239, s240, s241, s242, s243, s244, s245, s246, s247, s248, s249, s250, s251, s252, s253, s254, s255, s256, s257, s258, s259, s260, s261, s262, s263, s264, s265, s266, s267, s268, s269, s270, s271, s272, s273, s274, s275, s276, s277, s278, s279, s280, s281, s282, s283, s284, s285, s286, s287, s288, s289, s290, s291, s292, s293, s294, s295, s296, s297, s298, s299, s300, s301, s302, s303, s304, s305, s306, s307, s308, s309, s310, s311, s312, s313, s314, s315, s316, s317, s318, s319, s320, s321, s322, s323, s324, s325, s326, s327, s328, s329, s330, s331, s332, s333, s334, s335, s336, s337, s338, s339, s340, s341, s342, s343, s344, s345, s346, s347, s348, s349, s350, s351, s352, s353, s354, s355, s356, s357, s358, s359, s360, s361, s362, s363, s364, s365, s366, s367, s368, s369, s370, s371, s372, s373, s374, s375, s376, s377, s378], []⟩ wA := by
  have x1 := X.c 1 _ rfl
  obtain ⟨L', c', hv, hL0, hL1⟩ := A.lw.out
  obtain ⟨rfl, rfl⟩ : L = L' ∧ c0 = c' := by simpa using hv
  clear hv
  conv => arg 2; whnf
  dsimp only
  cases cnd with
  | true =>
    have g1 : 0 < zs.length := by have := EC.out; simp at this; omega
    cases L with
    | none => exact absurd (hL0 rfl) (by intro e; subst e; simp at g1)
    | some ad =>
      obtain ⟨ga, rfl⟩ := hL1 _ rfl
      obtain ⟨m1', em1⟩ : ∃ m : Nat, nn % 65536 = m := ⟨(nn % 65536).toNat, by omega⟩
      have hm1 : bits .and .i64 nn 65535 = m1' := (i64_mask16 nn).trans em1
      obtain ⟨j, ej⟩ : ∃ j : Nat, m1' % zs.length = j := ⟨_, rfl⟩
      have hj : j < zs.length := by rw [← ej]; exact Nat.mod_lt _ g1
      have ek : (m1' : Int) % (zs.length : Int) = (j : Int) := by rw [← ej]; rfl
      have cj := A.lw.cell j hj
      have bj := zb j
      obtain ⟨y, ey⟩ : ∃ y, zs.getD j 0 = y := ⟨_, rfl⟩
      rw [ey] at cj bj
      clear em1 ej ey
      go_wp2_with fail
      go_meet
      case rel => exact ⟨⟨y, rfl, bj⟩, rfl⟩
  | false =>
    go_wp2_with fail
    go_meet
    case rel => exact ⟨⟨lk, rfl, t5⟩, rfl⟩

end Go.Proofs.Ythmohehmpleciaa.recPlays
namespace Go.Proofs.Ythmohehmpleciaa.recPlays
noncomputable def cRound0 : Code := (Try.f6.body.bind (afterG 16)).getD .skip
set_option maxRecDepth 1000000 in
set_option maxHeartbeats 16000000 in
theorem round0 {W wA : World} {oA : Nat → Nat} {p : Nat} {S : Nat → Prop} {st : RS} {k pr b1 b2 : Nat} {v3 : Value} {L : Option Addr} {c0 : Nat} {zs : List Int} {vv : Value} {vs : List Ver} {kd nn key vl : Int} {raw : Bool} {lk od nw : Int} {ob : Nat} {Q : Exit → Act → World → Prop} {JE KE : Act → World → Prop} { s0 s1 s2 s3 s4 s6 s14 s15 s16 s17 s18 s19 s20 s21 s22 s23 s24 s25 s26 s27 s28 s29 s30 s31 s32 s33 s34 s35 s36 s37 s38 s39 s40 s41 s42 s43 s44 s45 s46 s47 s48 s49 s50 s51 s52 s53 s54 s55 s56 s57 s58 s59 s60 s61 s62 s63 s64 s65 s66 s67 s68 s69 s70 s71 s72 s73 s74 s75 s76 s77 s78 s79 s80 s81 s82 s83 s84 s85 s86 s87 s88 s89 s90 s91 s92 s93 s94 s95 s96 s97 s98 s99 s100 s101 s102 s103 s104 s105 s106 s107 s108 s109 s110 s111 s112 s113 s114 s115 s116 s117 s118 s119 s120 s121 s122 s123 s124 s125 s126 s127 s128 s129 s130 s131 s132 s133 s134 s135 s136 s137 s138 s139 s140 s141 s142 s143 s144 s145 s146 s147 s148 s149 s150 s151 s152 s153 s154 s155 s156 s157 s158 s159 s160 s161 s162 s163 s164 s165 s166 s167 s168 s169 s170 s171 s172 s173 s174 s175 s176 s177 s178 s179 s180 s181 s182 s183 s184 s185 s186 s187 s188 s189 s190 s191 s192 s193 s194 s195 s196 s197 s198 s199 s200 s201 s202 s203 s204 s205 s206 s207 s208 s209 s210 s211 s212 s213 s214 s215 s216 s217 s218 s219 s220 s221 s222 s223 s224 s225 s226 s227 s228 s229 s230 s231 s232 s233 s234 s235 s236 s237 s238 s239 s240 s241 s242 s243 s244 s245 s246 s247 s248 s249 s250 s251 s252 s253 s254 s255 s256 s257 s258 s259 s260 s261 s262 s263 s264 s265 s266 s267 s268 s269 s270 s271 s272 s273 s274 s275 s276 s277 s278 s279 s280 s281 s282 s283 s284 s285 s286 s287 s288 s289 s290 s291 s292 s293 s294 s295 s296 s297 s298 s299 s300 s301 s302 s303 s304 s305 s306 s307 s308 s309 s310 s311 s312 s313 s314 s315 s316 s317 s318 s319 s320 s321 s322 s323 s324 s325 s326 s327 s328 s329 s330 s331 s332 s333 s334 s335 s336 s337 s338 s339 s340 s341 s342 s343 s344 s345 s346 s347 s348 s349 s350 s351 s352 s353 s354 s355 s356 s357 s358 s359 s360 s361 s362 s363 s364 s365 s366 s367 s368 s369 s370 s371 s372 s373 s374 s375 s376 s377 s378 : Value}
    (hJE : ∀ a' w', PE W p pr b1 b2 k s0 s1 s2 s3 s6 s25 s26 s27 s28 s29 s30 s31 s32 s33 s34 s35 s36 s37 s38 s39 s40 s41 s42 s43 s44 s45 s46 s47 s48 s49 s50 s51 s52 s53 s54 s55 s56 s57 s58 s59 s60 s61 s378 a' w' → JE a' w') (hKE : ∀ a' w', Met JE a' w' → KE a' w') (hQp : RowKit.Hid (∀ c a d v w, Q (.panic c) (a.put d v) w → Q (.panic c) a w))
    (h80 : k < 80) (zl : zs.length ≤ k) (zb : ∀ j, U64 (zs.getD j 0)) (I : Inv st zs vs)
    (A : All W wA oA p S st (8 * k + 1) pr b1 b2 v3 st.s (.slice L zs.length c0) zs vv vs) (X : Mine oA wA ob [.int .i64 kd, .int .i64 nn, .int .i64 key, .int .i64 vl, .bool raw, .int .u64 lk, .int .u64 od, .int .u64 nw])
    (t7 : 0 ≤ nw ∧ nw ≤ 18446744073709551615) (t6 : 0 ≤ od ∧ od ≤ 18446744073709551615) (t3 : -9223372036854775808 ≤ vl ∧ vl ≤ 9223372036854775807) (t2 : -9223372036854775808 ≤ key ∧ key ≤ 9223372036854775807) (t0 : -9223372036854775808 ≤ kd ∧ kd ≤ 9223372036854775807) (t5 : 0 ≤ lk ∧ lk ≤ 18446744073709551615) :
    Code.wp Try.prog cRound0 (Exit.inBlock 1 (Exit.then KE Q)) ⟨#[s0, s1, s2, s3, s4, .pointer (some ⟨p, 0, none⟩), s6, .pointer (some ⟨pr, 0, none⟩), .slice L zs.length c0, vv, .int .i64 k, .pointer (some ⟨ob, 0, none⟩), .int .u64 lk, .int .i64 (-1), s14, s15, s16, s17, s18, s19, s20, s21, s22, s23, s24, s25, s26, s27, s28, s29, s30, s31, s32, s33, s34, s35, s36, s37, s38, s39, s40, s41, s42, s43, s44, s45, s46, s47, s48, s49, s50, s51, s52, s53, s54, s55, s56, s57, s58, s59, s60, s61, s62, s63, s64, s65, s66, s67, s68, s69, s70, s71, s72, s73, s74, s75, s76, s77, s78, s79, s80, s81, s82, s83, s84, s85, s86, s87, s88, s89, s90, s91, s92, s93, s94, s95, s96, s97, s98, s99, s100, s101, s102, s103, s104, s105, s106, s107, s108, s109, s110, s111, s112, s113, s114, s115, s116, s117, s118, s119, s120, s121, s122, s123, s124, s125, s126, s127, s128, s129, s130, s131, s132, s133, s134, s135, s136, s137, s138, s139, s140, s141, s142, s143, s144, s145, s146, s147, s148, s149, s150, s151, s152, s153, s154, s155, s156, s157, s158, s159, s160, s161, s162, s163, s164, s165, s166, s167, s168, s169, s170, s171, s172, s173, s174, s175, s176, s177, s178, s179, s180, s181, s182, s183, s184, s185, s186, s187, s188, s189, s190, s191, s192, s193, s194, s195, s196, s197, s198, s199, s200, s201, s202, s203, s204, s205, s206, s207, s208, s209, s210, s211, s212, s213, s214, s215, s216, s217, s218, s219, s220, s221, s222, s223, s224, s225, s226, s227, s228, s229, s230, s231, s232, s233, s234, s235, s236, s237, s238, s239, s240, s241, s242, s243, s244, s245, s246, s247, s248, s249, s250, s251, s252, s253, s254, s255, s256, s257, s258, s259, s260, s261, s262, s263, s264, s265, s266, s267, s268, s269, s270, s271, s272, s273, s274, s275, s276, s277, s278, s279, s280, s281, s282, s283, s284, s285, s286, s287, s288, s289, s290, s291, s292, s293, s294, s295, s296, s297, s298, s299, s300, s301, s302, s303, s304, s305, s306, s307, s308, s309, s310, s311, s312, s313, s314, s315, s316, s317, s318, s319, s320, s321, s322, s323, s324, s325, s326, s327, s328, s329, s330, s331, s332, s333, s334, s335, s336, s337, s338, s339, s340, s341, s342, s343, s344, s345, s346, s347, s348, s349, s350, s351, s352, s353, s354, s355, s356, s357, s358, s359, s360, s361, s362, s363, s364, s365, s366, s367, s368, s369, s370, s371, s372, s373, s374, s375, s376, s377, s378], []⟩ wA := by
  have x4 := X.c 4 _ rfl
  conv => arg 2; whnf
  dsimp only
  go_upto_region 17 with fail
  obtain ⟨cnd, ec⟩ : ∃ c, (decide (0 < zs.length) && !raw) = c := ⟨_, rfl⟩
  have EC := Lib.hid ec
  clear ec
  rename_i Ko hKo K5 hK5
  go_cut [85] from 62 to 377 (fun s wx => s = .bool cnd ∧ wA = wx)
  case first =>
    by_cases g1 : zs.length = 0
    · go_wp2_with fail
      go_meet
      case rel => exact ⟨by rw [← EC.out, show decide (0 < zs.length) = false from decide_eq_false (by omega)]; rfl, rfl⟩
    · have g2 : 0 < zs.length := by omega
      go_wp2_with fail
      go_meet
      case rel => exact ⟨by rw [← EC.out, show decide (0 < zs.length) = true from decide_eq_true g2]; rfl, rfl⟩
  case rest =>
  obtain ⟨rfl, rfl⟩ := hcut
  go_upto_if 85 with fail
  go_cut [12] from 62 to 377 (fun s wx => (∃ l : Int, s = .int .u64 l ∧ U64 l) ∧ wA = wx)
  case first =>
    rename_i J6 K6 hJ6 hK6
    exact linkOf hJ6 hK6 zb A X t5 EC
  case rest =>
  obtain ⟨⟨l, rfl, lb⟩, rfl⟩ := hcut
  exact hKo _ _ (round2 hJE hKE hQp h80 zl zb I A X t7 t6 t3 t2 t0 lb)
end Go.Proofs.Ythmohehmpleciaa.recPlays
namespace Go.Proofs.Ythmohehmpleciaa.recPlays
set_option maxRecDepth 1000000 in
set_option maxHeartbeats 16000000 in
theorem body {W wr : World} {o : Nat → Nat} {p : Nat} {S : Nat → Prop} {st : RS} {k pr b1 b2 : Nat} {v3 : Value} {lv : Value} {zs : List Int} {vv : Value} {vs : List Ver} {a1 : Option Addr} {len1 cap1 : Nat} {f : Nat → OpI} {Q : Exit → Act → World → Prop} {JE KE : Act → World → Prop} { s0 s2 s3 s4 s6 s11 s12 s13 s14 s15 s16 s17 s18 s19 s20 s21 s22 s23 s24 s25 s26 s27 s28 s29 s30 s31 s32 s33 s34 s35 s36 s37 s38 s39 s40 s41 s42 s43 s44 s45 s46 s47 s48 s49 s50 s51 s52 s53 s54 s55 s56 s57 s58 s59 s60 s61 s62 s63 s64 s65 s66 s67 s68 s69 s70 s71 s72 s73 s74 s75 s76 s77 s78 s79 s80 s81 s82 s83 s84 s85 s86 s87 s88 s89 s90 s91 s92 s93 s94 s95 s96 s97 s98 s99 s100 s101 s102 s103 s104 s105 s106 s107 s108 s109 s110 s111 s112 s113 s114 s115 s116 s117 s118 s119 s120 s121 s122 s123 s124 s125 s126 s127 s128 s129 s130 s131 s132 s133 s134 s135 s136 s137 s138 s139 s140 s141 s142 s143 s144 s145 s146 s147 s148 s149 s150 s151 s152 s153 s154 s155 s156 s157 s158 s159 s160 s161 s162 s163 s164 s165 s166 s167 s168 s169 s170 s171 s172 s173 s174 s175 s176 s177 s178 s179 s180 s181 s182 s183 s184 s185 s186 s187 s188 s189 s190 s191 s192 s193 s194 s195 s196 s197 s198 s199 s200 s201 s202 s203 s204 s205 s206 s207 s208 s209 s210 s211 s212 s213 s214 s215 s216 s217 s218 s219 s220 s221 s222 s223 s224 s225 s226 s227 s228 s229 s230 s231 s232 s233 s234 s235 s236 s237 s238 s239 s240 s241 s242 s243 s244 s245 s246 s247 s248 s249 s250 s251 s252 s253 s254 s255 s256 s257 s258 s259 s260 s261 s262 s263 s264 s265 s266 s267 s268 s269 s270 s271 s272 s273 s274 s275 s276 s277 s278 s279 s280 s281 s282 s283 s284 s285 s286 s287 s288 s289 s290 s291 s292 s293 s294 s295 s296 s297 s298 s299 s300 s301 s302 s303 s304 s305 s306 s307 s308 s309 s310 s311 s312 s313 s314 s315 s316 s317 s318 s319 s320 s321 s322 s323 s324 s325 s326 s327 s328 s329 s330 s331 s332 s333 s334 s335 s336 s337 s338 s339 s340 s341 s342 s343 s344 s345 s346 s347 s348 s349 s350 s351 s352 s353 s354 s355 s356 s357 s358 s359 s360 s361 s362 s363 s364 s365 s366 s367 s368 s369 s370 s371 s372 s373 s374 s375 s376 s377 s378 : Value}
    (hJE : ∀ a' w', PE W p pr b1 b2 k s0 (.slice a1 len1 cap1) s2 s3 s6 s25 s26 s27 s28 s29 s30 s31 s32 s33 s34 s35 s36 s37 s38 s39 s40 s41 s42 s43 s44 s45 s46 s47 s48 s49 s50 s51 s52 s53 s54 s55 s56 s57 s58 s59 s60 s61 s378 a' w' → JE a' w') (hKE : ∀ a' w', Met JE a' w' → KE a' w') (hQp : RowKit.Hid (∀ c a d v w, Q (.panic c) (a.put d v) w → Q (.panic c) a w))
    (hl : k < len1) (h80 : k < 80) (zl : zs.length ≤ k) (zb : ∀ j, U64 (zs.getD j 0)) (I : Inv st zs vs)
    (A : All W wr o p S st (8 * k + 1) pr b1 b2 v3 st.s lv zs vv vs) (w1 : IsOps W a1 len1 cap1 f) :
    Code.wp Try.prog cBody (Exit.then KE Q) ⟨#[s0, .slice a1 len1 cap1, s2, s3, s4, .pointer (some ⟨p, 0, none⟩), s6, .pointer (some ⟨pr, 0, none⟩), lv, vv, .int .i64 k, s11, s12, s13, s14, s15, s16, s17, s18, s19, s20, s21, s22, s23, s24, s25, s26, s27, s28, s29, s30, s31, s32, s33, s34, s35, s36, s37, s38, s39, s40, s41, s42, s43, s44, s45, s46, s47, s48, s49, s50, s51, s52, s53, s54, s55, s56, s57, s58, s59, s60, s61, s62, s63, s64, s65, s66, s67, s68, s69, s70, s71, s72, s73, s74, s75, s76, s77, s78, s79, s80, s81, s82, s83, s84, s85, s86, s87, s88, s89, s90, s91, s92, s93, s94, s95, s96, s97, s98, s99, s100, s101, s102, s103, s104, s105, s106, s107, s108, s109, s110, s111, s112, s113, s114, s115, s116, s117, s118, s119, s120, s121, s122, s123, s124, s125, s126, s127, s128, s129, s130, s131, s132, s133, s134, s135, s136, s137, s138, s139, s140, s141, s142, s143, s144, s145, s146, s147, s148, s149, s150, s151, s152, s153, s154, s155, s156, s157, s158, s159, s160, s161, s162, s163, s164, s165, s166, s167, s168, s169, s170, s171, s172, s173, s174, s175, s176, s177, s178, s179, s180, s181, s182, s183, s184, s185, s186, s187, s188, s189, s190, s191, s192, s193, s194, s195, s196, s197, s198, s199, s200, s201, s202, s203, s204, s205, s206, s207, s208, s209, s210, s211, s212, s213, s214, s215, s216, s217, s218, s219, s220, s221, s222, s223, s224, s225, s226, s227, s228, s229, s230, s231, s232, s233, s234, s235, s236, s237, s238, s239, s240, s241, s242, s243, s244, s245, s246, s247, s248, s249, s250, s251, s252, s253, s254, s255, s256, s257, s258, s259, s260, s261, s262, s263, s264, s265, s266, s267, s268, s269, s270, s271, s272, s273, s274, s275, s276, s277, s278, s279, s280, s281, s282, s283, s284, s285, s286, s287, s288, s289, s290, s291, s292, s293, s294, s295, s296, s297, s298, s299, s300, s301, s302, s303, s304, s305, s306, s307, s308, s309, s310, s311, s312, s313, s314, s315, s316, s317, s318, s319, s320, s321, s322, s323, s324, s325, s326, s327, s328, s329, s330, s331, s332, s333, s334, s335, s336, s337, s338, s339, s340, s341, s342, s343, s344, s345, s346, s347, s348, s349, s350, s351, s352, s353, s354, s355, s356, s357, s358, s359, s360, s361, s362, s363, s364, s365, s366, s367, s368, s369, s370, s371, s372, s373, s374, s375, s376, s377, s378], []⟩ wr := by
  obtain ⟨l2, l3, lc, ok2⟩ := id w1
  conv => arg 2; whnf
  dsimp only
  obtain ⟨b, off, rfl, hb, hc⟩ := lc (by omega)
  obtain ⟨d0, d1, d2, d3, d4, d5, d6, d7⟩ := hc k hl
  obtain ⟨t0, t1, t2, t3, t5, t6, t7⟩ := ok2 k hl
  obtain ⟨op, eo⟩ : ∃ op, f k = op := ⟨_, rfl⟩
  rw [eo] at d0 d1 d2 d3 d4 d5 d6 d7 t0 t1 t2 t3 t5 t6 t7
  obtain ⟨kd, nn, key, vl, raw, lk, od, nw⟩ := op
  dsimp only at d0 d1 d2 d3 d4 d5 d6 d7 t0 t1 t2 t3 t5 t6 t7
  have bc := fun i => A.r.b.cell (p := ⟨b, off + k * 8 + i, none⟩) hb
  have d0 := (A.r.b.cell (p := ⟨b, off + k * 8, none⟩) hb).trans d0
  have d1 := (bc 1).trans d1
  have d2 := (bc 2).trans d2
  have d3 := (bc 3).trans d3
  have d4 := (bc 4).trans d4
  have d5 := (bc 5).trans d5
  have d6 := (bc 6).trans d6
  have d7 := (bc 7).trans d7
  clear eo hc lc ok2 bc
  obtain ⟨L, c0, hv, hL0, hL1⟩ := A.lw.out
  subst hv
  obtain ⟨oA, A, SA, NA⟩ := A.quiet (Keep.alloc (Keep.refl (fun _ => False) wr) (.cells #[.int .i64 kd, .int .i64 nn, .int .i64 key, .int .i64 vl, .bool raw, .int .u64 lk, .int .u64 od, .int .u64 nw] 50))
  have X : Mine oA (wr.alloc (.cells #[.int .i64 kd, .int .i64 nn, .int .i64 key, .int .i64 vl, .bool raw, .int .u64 lk, .int .u64 od, .int .u64 nw] 50)) wr.heap.size [.int .i64 kd, .int .i64 nn, .int .i64 key, .int .i64 vl, .bool raw, .int .u64 lk, .int .u64 od, .int .u64 nw] :=
    Mine.new NA (Nat.le_refl _) (by simp) (fun i u hu => (World.cell?_alloc_new _ _ _ _).trans (by simpa using hu))
  obtain ⟨wA, eA⟩ : ∃ x, wr.alloc (.cells #[.int .i64 kd, .int .i64 nn, .int .i64 key, .int .i64 vl, .bool raw, .int .u64 lk, .int .u64 od, .int .u64 nw] 50) = x := ⟨_, rfl⟩
  obtain ⟨ob, eob⟩ : ∃ ob, wr.heap.size = ob := ⟨_, rfl⟩
  rw [eA, eob] at X
  rw [eA] at A
  have x1 := X.c 1 _ rfl
  have x4 := X.c 4 _ rfl
  have x5 := X.c 5 _ rfl
  clear SA NA
  go_upto_region 16 with fail
  rename_i K5 hK5
  clear d0 d1 d2 d3 d4 d5 d6 d7 eA eob x1 x4 x5
  clear d0 d1 d2 d3 d4 d5 d6 d7
  go_cut [13] from 62 to 377 (fun s wx => s = .int .i64 (-1) ∧ wA = wx)
  case first =>
    go_wp2_with fail
    go_meet
    case rel => exact ⟨rfl, rfl⟩
  case rest =>
    obtain ⟨rfl, rfl⟩ := hcut
    exact hK5 _ _ (round0 hJE hKE hQp h80 zl zb I A X t7 t6 t3 t2 t0 t5)
end Go.Proofs.Ythmohehmpleciaa.recPlays
