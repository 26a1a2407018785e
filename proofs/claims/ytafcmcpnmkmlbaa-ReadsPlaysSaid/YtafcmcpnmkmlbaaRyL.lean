/- ReadsPlays, a round and the loop; conditions: what the parts before it have laid. -/
import Derived.Test.YtafcmcpnmkmlbaaRyT
namespace Go.Proofs.Ytafcmcpnmkmlbaa.readsPlays
open Go.ChangeShapes Go.WideShapes Go.ChangeAt Go.RowKit
set_option linter.unusedVariables false
def RX (W : World) (wx : World) : Prop := Below W.heap.size W wx
set_option maxRecDepth 1000000 in
/-- Behind the loop. -/
def PX (W : World) (s0 s1 s2 s3 s5 s22 s23 s24 s25 s26 s27 s28 : Value) (a' : Act) (w' : World) : Prop :=
  ∃ u4 u6 u7 u8 u9 u10 u11 u12 u13 u14 u15 u16 u17 u18 u19 u20 u21 u29 u30 u31 u32 u33 u34 u35 u36 u37 u38 u39 u40 u41 u42 u43 u44 u45 u46 u47 u48 u49 u50 u51 u52 u53 u54 u55 u56 u57 u58 u59 u60 u61 u62 u63 u64 u65 u66 u67 u68 u69 u70 u71 u72 u73 u74 u75 u76 u77 u78 u79 u80 u81 u82 u83 u84 u85 u86 u87 u88 u89 u90 u91 u92 u93 u94 u95 u96 u97 u98 u99 u100 u101 u102 u103 u104 u105 u106 u107 u108 u109 u110 u111 u112 u113 u114 u115 u116 u117 u118 u119 u120 u121 u122 u123 u124 u125 u126 u127 u128 u129 u130 u131 u132 u133 u134 u135 u136 u137 u138 u139 u140 u141 u142 u143 u144 u145 u146 u147 u148 u149 u150 u151 u152 u153 u154 u155 u156 u157 u158 u159 u160 u161 u162 u163 u164 u165 u166 u167 u168 u169 u170 u171 u172 u173 u174 u175 u176 u177 u178 u179 u180 u181 u182 u183 u184 u185 u186 u187 u188 u189 u190 u191 u192 u193 u194 u195 u196 u197 u198 u199 u200 u201 u202 u203 u204 u205 u206 u207 u208 u209 u210 u211 u212 u213 u214 u215 u216 u217 u218 u219 u220 u221 u222 u223 u224 u225 u226 u227 u228 u229 u230 u231 u232 u233 u234 u235 u236 u237 u238 u239 u240 u241 u242 u243 u244 u245 u246 u247 u248 u249 u250 u251 u252 u253 u254 u255 u256 u257 u258 u259 u260 u261 u262 u263 u264 u265 u266 u267 u268 u269 u270 u271 u272 u273 u274 u275 u276 u277 : Value, RX W w' ∧ a' = ⟨#[s0, s1, s2, s3, u4, s5, u6, u7, u8, u9, u10, u11, u12, u13, u14, u15, u16, u17, u18, u19, u20, u21, s22, s23, s24, s25, s26, s27, s28, u29, u30, u31, u32, u33, u34, u35, u36, u37, u38, u39, u40, u41, u42, u43, u44, u45, u46, u47, u48, u49, u50, u51, u52, u53, u54, u55, u56, u57, u58, u59, u60, u61, u62, u63, u64, u65, u66, u67, u68, u69, u70, u71, u72, u73, u74, u75, u76, u77, u78, u79, u80, u81, u82, u83, u84, u85, u86, u87, u88, u89, u90, u91, u92, u93, u94, u95, u96, u97, u98, u99, u100, u101, u102, u103, u104, u105, u106, u107, u108, u109, u110, u111, u112, u113, u114, u115, u116, u117, u118, u119, u120, u121, u122, u123, u124, u125, u126, u127, u128, u129, u130, u131, u132, u133, u134, u135, u136, u137, u138, u139, u140, u141, u142, u143, u144, u145, u146, u147, u148, u149, u150, u151, u152, u153, u154, u155, u156, u157, u158, u159, u160, u161, u162, u163, u164, u165, u166, u167, u168, u169, u170, u171, u172, u173, u174, u175, u176, u177, u178, u179, u180, u181, u182, u183, u184, u185, u186, u187, u188, u189, u190, u191, u192, u193, u194, u195, u196, u197, u198, u199, u200, u201, u202, u203, u204, u205, u206, u207, u208, u209, u210, u211, u212, u213, u214, u215, u216, u217, u218, u219, u220, u221, u222, u223, u224, u225, u226, u227, u228, u229, u230, u231, u232, u233, u234, u235, u236, u237, u238, u239, u240, u241, u242, u243, u244, u245, u246, u247, u248, u249, u250, u251, u252, u253, u254, u255, u256, u257, u258, u259, u260, u261, u262, u263, u264, u265, u266, u267, u268, u269, u270, u271, u272, u273, u274, u275, u276, u277], []⟩
set_option maxRecDepth 1000000 in
/-- Between two rounds. -/
def PI (W : World) (len1 t : Nat) (s0 s1 s2 s3 s22 s23 s24 s25 s26 s27 s28 : Value) (m : Nat) (a' : Act) (w' : World) : Prop :=
  ∃ u4 u6 u7 u8 u9 u10 u11 u12 u13 u14 u15 u16 u17 u18 u19 u20 u21 u29 u30 u31 u32 u33 u34 u35 u36 u37 u38 u39 u40 u41 u42 u43 u44 u45 u46 u47 u48 u49 u50 u51 u52 u53 u54 u55 u56 u57 u58 u59 u60 u61 u62 u63 u64 u65 u66 u67 u68 u69 u70 u71 u72 u73 u74 u75 u76 u77 u78 u79 u80 u81 u82 u83 u84 u85 u86 u87 u88 u89 u90 u91 u92 u93 u94 u95 u96 u97 u98 u99 u100 u101 u102 u103 u104 u105 u106 u107 u108 u109 u110 u111 u112 u113 u114 u115 u116 u117 u118 u119 u120 u121 u122 u123 u124 u125 u126 u127 u128 u129 u130 u131 u132 u133 u134 u135 u136 u137 u138 u139 u140 u141 u142 u143 u144 u145 u146 u147 u148 u149 u150 u151 u152 u153 u154 u155 u156 u157 u158 u159 u160 u161 u162 u163 u164 u165 u166 u167 u168 u169 u170 u171 u172 u173 u174 u175 u176 u177 u178 u179 u180 u181 u182 u183 u184 u185 u186 u187 u188 u189 u190 u191 u192 u193 u194 u195 u196 u197 u198 u199 u200 u201 u202 u203 u204 u205 u206 u207 u208 u209 u210 u211 u212 u213 u214 u215 u216 u217 u218 u219 u220 u221 u222 u223 u224 u225 u226 u227 u228 u229 u230 u231 u232 u233 u234 u235 u236 u237 u238 u239 u240 u241 u242 u243 u244 u245 u246 u247 u248 u249 u250 u251 u252 u253 u254 u255 u256 u257 u258 u259 u260 u261 u262 u263 u264 u265 u266 u267 u268 u269 u270 u271 u272 u273 u274 u275 u276 u277 : Value, (∃ k : Nat, m + k = len1 ∧ Rel W len1 t k u6 u7 u8 u9 w') ∧ a' = ⟨#[s0, s1, s2, s3, u4, .pointer (some ⟨t, 0, none⟩), u6, u7, u8, u9, u10, u11, u12, u13, u14, u15, u16, u17, u18, u19, u20, u21, s22, s23, s24, s25, s26, s27, s28, u29, u30, u31, u32, u33, u34, u35, u36, u37, u38, u39, u40, u41, u42, u43, u44, u45, u46, u47, u48, u49, u50, u51, u52, u53, u54, u55, u56, u57, u58, u59, u60, u61, u62, u63, u64, u65, u66, u67, u68, u69, u70, u71, u72, u73, u74, u75, u76, u77, u78, u79, u80, u81, u82, u83, u84, u85, u86, u87, u88, u89, u90, u91, u92, u93, u94, u95, u96, u97, u98, u99, u100, u101, u102, u103, u104, u105, u106, u107, u108, u109, u110, u111, u112, u113, u114, u115, u116, u117, u118, u119, u120, u121, u122, u123, u124, u125, u126, u127, u128, u129, u130, u131, u132, u133, u134, u135, u136, u137, u138, u139, u140, u141, u142, u143, u144, u145, u146, u147, u148, u149, u150, u151, u152, u153, u154, u155, u156, u157, u158, u159, u160, u161, u162, u163, u164, u165, u166, u167, u168, u169, u170, u171, u172, u173, u174, u175, u176, u177, u178, u179, u180, u181, u182, u183, u184, u185, u186, u187, u188, u189, u190, u191, u192, u193, u194, u195, u196, u197, u198, u199, u200, u201, u202, u203, u204, u205, u206, u207, u208, u209, u210, u211, u212, u213, u214, u215, u216, u217, u218, u219, u220, u221, u222, u223, u224, u225, u226, u227, u228, u229, u230, u231, u232, u233, u234, u235, u236, u237, u238, u239, u240, u241, u242, u243, u244, u245, u246, u247, u248, u249, u250, u251, u252, u253, u254, u255, u256, u257, u258, u259, u260, u261, u262, u263, u264, u265, u266, u267, u268, u269, u270, u271, u272, u273, u274, u275, u276, u277], []⟩
section
variable {W wA : World} {oA : Nat → Nat} {t : Nat} {S : Nat → Prop} {s : RdS} {v1 v2 v3 : Value} {z1 z2 : List Int} {z3 : List ScV} {k gk : Nat} {key kd lo hi link : Int} {xz : List Int} {Ax : Option Addr} {cx b off len1 cap1 : Nat} {a1 : Option Addr} {f : Nat → OpI} {J : Nat → Act → World → Prop} {K JE KE JX KX : Act → World → Prop} {Q : Exit → Act → World → Prop}
set_option maxRecDepth 1000000 in
set_option maxHeartbeats 16000000 in
theorem early { s2 s3 s4 s10 s11 s12 s13 s14 s15 s16 s17 s18 s19 s20 s21 s22 s23 s24 s25 s26 s27 s28 s29 s30 s31 s32 s33 s34 s35 s36 s37 s38 s39 s40 s41 s42 s43 s44 s45 s46 s47 s48 s49 s50 s51 s52 s53 s54 s55 s56 s57 s58 s59 s60 s61 s62 s63 s64 s65 s66 s67 s68 s69 s70 s71 s72 s73 s74 s75 s76 s77 s78 s79 s80 s81 s82 s83 s84 s85 s86 s87 s88 s89 s90 s91 s92 s93 s94 s95 s96 s97 s98 s99 s100 s101 s102 s103 s104 s105 s106 s107 s108 s109 s110 s111 s112 s113 s114 s115 s116 s117 s118 s119 s120 s121 s122 s123 s124 s125 s126 s127 s128 s129 s130 s131 s132 s133 s134 s135 s136 s137 s138 s139 s140 s141 s142 s143 s144 s145 s146 s147 s148 s149 s150 s151 s152 s153 s154 s155 s156 s157 s158 s159 s160 s161 s162 s163 s164 s165 s166 s167 s168 s169 s170 s171 s172 s173 s174 s175 s176 s177 s178 s179 s180 s181 s182 s183 s184 s185 s186 s187 s188 s189 s190 s191 s192 s193 s194 s195 s196 s197 s198 s199 s200 s201 s202 s203 s204 s205 s206 s207 s208 s209 s210 s211 s212 s213 s214 s215 s216 s217 s218 s219 s220 s221 s222 s223 s224 s225 s226 s227 s228 s229 s230 s231 s232 s233 s234 s235 s236 s237 s238 s239 s240 s241 s242 s243 s244 s245 s246 s247 s248 s249 s250 s251 s252 s253 s254 s255 s256 s257 s258 s259 s260 s261 s262 s263 s264 s265 s266 s267 s268 s269 s270 s271 s272 s273 s274 s275 s276 s277 : Value}
    (hQr : RowKit.Hid (∀ a w, (bodyPost Try.prog Try.f5 fun e w' => e = .returned (.bool true) ∧ Below W.heap.size W w') Exit.ret a w → Q Exit.ret a w))
    (hl : k < len1) (hlc : len1 ≤ cap1 ∧ cap1 ≤ 9223372036854775807) (k120 : k < 120)
    (d0 : wA.cell? ⟨b, off + k * 5, none⟩ = some (.int .i64 kd)) (d1 : wA.cell? ⟨b, off + k * 5 + 1, none⟩ = some (.int .i64 lo)) (d2 : wA.cell? ⟨b, off + k * 5 + 2, none⟩ = some (.int .i64 hi)) (d3 : wA.cell? ⟨b, off + k * 5 + 3, none⟩ = some (.int .u64 link)) (d4 : wA.cell? ⟨b, off + k * 5 + 4, none⟩ = some (.slice Ax xz.length cx))
    (hlong : 100 < xz.length) (hb : Below W.heap.size W wA) :
    Code.wp Try.prog cBody (Exit.then KE Q) ⟨#[.slice (some ⟨b, off, none⟩) len1 cap1, .int .i64 key, s2, s3, s4, .pointer (some ⟨t, 0, none⟩), v1, v2, v3, .int .i64 k, s10, s11, s12, s13, s14, s15, s16, s17, s18, s19, s20, s21, s22, s23, s24, s25, s26, s27, s28, s29, s30, s31, s32, s33, s34, s35, s36, s37, s38, s39, s40, s41, s42, s43, s44, s45, s46, s47, s48, s49, s50, s51, s52, s53, s54, s55, s56, s57, s58, s59, s60, s61, s62, s63, s64, s65, s66, s67, s68, s69, s70, s71, s72, s73, s74, s75, s76, s77, s78, s79, s80, s81, s82, s83, s84, s85, s86, s87, s88, s89, s90, s91, s92, s93, s94, s95, s96, s97, s98, s99, s100, s101, s102, s103, s104, s105, s106, s107, s108, s109, s110, s111, s112, s113, s114, s115, s116, s117, s118, s119, s120, s121, s122, s123, s124, s125, s126, s127, s128, s129, s130, s131, s132, s133, s134, s135, s136, s137, s138, s139, s140, s141, s142, s143, s144, s145, s146, s147, s148, s149, s150, s151, s152, s153, s154, s155, s156, s157, s158, s159, s160, s161, s162, s163, s164, s165, s166, s167, s168, s169, s170, s171, s172, s173, s174, s175, s176, s177, s178, s179, s180, s181, s182, s183, s184, s185, s186, s187, s188, s189, s190, s191, s192, s193, s194, s195, s196, s197, s198, s199, s200, s201, s202, s203, s204, s205, s206, s207, s208, s209, s210, s211, s212, s213, s214, s215, s216, s217, s218, s219, s220, s221, s222, s223, s224, s225, s226, s227, s228, s229, s230, s231, s232, s233, s234, s235, s236, s237, s238, s239, s240, s241, s242, s243, s244, s245, s246, s247, s248, s249, s250, s251, s252, s253, s254, s255, s256, s257, s258, s259, s260, s261, s262, s263, s264, s265, s266, s267, s268, s269, s270, s271, s272, s273, s274, s275, s276, s277], []⟩ wA := by
  have kA := Keep.alloc (Keep.refl (fun _ => False) wA) (.cells #[.int .i64 kd, .int .i64 lo, .int .i64 hi, .int .u64 link, (.slice Ax xz.length cx)] 41)
  have hb2 := hb.trans (kA.below hb.size (by simp))
  have q1 : decide ((100 : Int) < (xz.length : Int)) = true := decide_eq_true (by omega)
  conv => arg 2; whnf
  dsimp only
  go_wp2
  refine hQr.out _ _ ?_
  go_ret
  exact ⟨rfl, hb2⟩
set_option maxRecDepth 1000000 in
set_option maxHeartbeats 16000000 in
theorem body { s2 s3 s4 s10 s11 s12 s13 s14 s15 s16 s17 s18 s19 s20 s21 s22 s23 s24 s25 s26 s27 s28 s29 s30 s31 s32 s33 s34 s35 s36 s37 s38 s39 s40 s41 s42 s43 s44 s45 s46 s47 s48 s49 s50 s51 s52 s53 s54 s55 s56 s57 s58 s59 s60 s61 s62 s63 s64 s65 s66 s67 s68 s69 s70 s71 s72 s73 s74 s75 s76 s77 s78 s79 s80 s81 s82 s83 s84 s85 s86 s87 s88 s89 s90 s91 s92 s93 s94 s95 s96 s97 s98 s99 s100 s101 s102 s103 s104 s105 s106 s107 s108 s109 s110 s111 s112 s113 s114 s115 s116 s117 s118 s119 s120 s121 s122 s123 s124 s125 s126 s127 s128 s129 s130 s131 s132 s133 s134 s135 s136 s137 s138 s139 s140 s141 s142 s143 s144 s145 s146 s147 s148 s149 s150 s151 s152 s153 s154 s155 s156 s157 s158 s159 s160 s161 s162 s163 s164 s165 s166 s167 s168 s169 s170 s171 s172 s173 s174 s175 s176 s177 s178 s179 s180 s181 s182 s183 s184 s185 s186 s187 s188 s189 s190 s191 s192 s193 s194 s195 s196 s197 s198 s199 s200 s201 s202 s203 s204 s205 s206 s207 s208 s209 s210 s211 s212 s213 s214 s215 s216 s217 s218 s219 s220 s221 s222 s223 s224 s225 s226 s227 s228 s229 s230 s231 s232 s233 s234 s235 s236 s237 s238 s239 s240 s241 s242 s243 s244 s245 s246 s247 s248 s249 s250 s251 s252 s253 s254 s255 s256 s257 s258 s259 s260 s261 s262 s263 s264 s265 s266 s267 s268 s269 s270 s271 s272 s273 s274 s275 s276 s277 : Value}
    (hJE : ∀ a' w', PE W t k (.slice (some ⟨b, off, none⟩) len1 cap1) (.int .i64 key) s2 s3 (.int .i64 k) s22 s23 s24 s25 s26 s27 s28 s29 s30 s31 s32 s33 s34 s35 s36 s37 s38 a' w' → JE a' w') (hKE : ∀ a' w', Met JE a' w' → KE a' w')
    (hQp : RowKit.Hid (∀ c a d v w, Q (.panic c) (a.put d v) w → Q (.panic c) a w))
    (hl : k < len1) (hlc : len1 ≤ cap1 ∧ cap1 ≤ 9223372036854775807) (k120 : k < 120) (ul : U64 link)
    (d0 : wA.cell? ⟨b, off + k * 5, none⟩ = some (.int .i64 kd)) (d1 : wA.cell? ⟨b, off + k * 5 + 1, none⟩ = some (.int .i64 lo)) (d2 : wA.cell? ⟨b, off + k * 5 + 2, none⟩ = some (.int .i64 hi)) (d3 : wA.cell? ⟨b, off + k * 5 + 3, none⟩ = some (.int .u64 link)) (d4 : wA.cell? ⟨b, off + k * 5 + 4, none⟩ = some (.slice Ax xz.length cx))
    (hx : Lies W (.slice Ax xz.length cx) xz ∧ xz.length ≤ 100) (A : All13 W wA oA t S s v1 z1 v2 z2 v3 z3 0 []) (I : I13 W s z1 z2 z3 k) :
    Code.wp Try.prog cBody (Exit.then KE Q) ⟨#[.slice (some ⟨b, off, none⟩) len1 cap1, .int .i64 key, s2, s3, s4, .pointer (some ⟨t, 0, none⟩), v1, v2, v3, .int .i64 k, s10, s11, s12, s13, s14, s15, s16, s17, s18, s19, s20, s21, s22, s23, s24, s25, s26, s27, s28, s29, s30, s31, s32, s33, s34, s35, s36, s37, s38, s39, s40, s41, s42, s43, s44, s45, s46, s47, s48, s49, s50, s51, s52, s53, s54, s55, s56, s57, s58, s59, s60, s61, s62, s63, s64, s65, s66, s67, s68, s69, s70, s71, s72, s73, s74, s75, s76, s77, s78, s79, s80, s81, s82, s83, s84, s85, s86, s87, s88, s89, s90, s91, s92, s93, s94, s95, s96, s97, s98, s99, s100, s101, s102, s103, s104, s105, s106, s107, s108, s109, s110, s111, s112, s113, s114, s115, s116, s117, s118, s119, s120, s121, s122, s123, s124, s125, s126, s127, s128, s129, s130, s131, s132, s133, s134, s135, s136, s137, s138, s139, s140, s141, s142, s143, s144, s145, s146, s147, s148, s149, s150, s151, s152, s153, s154, s155, s156, s157, s158, s159, s160, s161, s162, s163, s164, s165, s166, s167, s168, s169, s170, s171, s172, s173, s174, s175, s176, s177, s178, s179, s180, s181, s182, s183, s184, s185, s186, s187, s188, s189, s190, s191, s192, s193, s194, s195, s196, s197, s198, s199, s200, s201, s202, s203, s204, s205, s206, s207, s208, s209, s210, s211, s212, s213, s214, s215, s216, s217, s218, s219, s220, s221, s222, s223, s224, s225, s226, s227, s228, s229, s230, s231, s232, s233, s234, s235, s236, s237, s238, s239, s240, s241, s242, s243, s244, s245, s246, s247, s248, s249, s250, s251, s252, s253, s254, s255, s256, s257, s258, s259, s260, s261, s262, s263, s264, s265, s266, s267, s268, s269, s270, s271, s272, s273, s274, s275, s276, s277], []⟩ wA := by
  have eK : ∀ (w' : World), wA.alloc (.cells #[.int .i64 kd, .int .i64 lo, .int .i64 hi, .int .u64 link, (.slice Ax xz.length cx)] 41) = w' → ∃ o', All13 W w' o' t S s v1 z1 v2 z2 v3 z3 wA.heap.size [.int .i64 kd, .int .i64 lo, .int .i64 hi, .int .u64 link, (.slice Ax xz.length cx)] := fun w' e => by
    subst e
    refine ⟨_, A.op (Keep.alloc (Keep.refl (fun _ => False) wA) _) (Nat.le_refl _) (by simp) (fun i u hu => ?_)⟩
    match i, hu with
    | 0, hu => simp at hu; subst hu; simp
    | 1, hu => simp at hu; subst hu; simp
    | 2, hu => simp at hu; subst hu; simp
    | 3, hu => simp at hu; subst hu; simp
    | 4, hu => simp at hu; subst hu; simp
  obtain ⟨wB, eB⟩ : ∃ w', wA.alloc (.cells #[.int .i64 kd, .int .i64 lo, .int .i64 hi, .int .u64 link, (.slice Ax xz.length cx)] 41) = w' := ⟨_, rfl⟩
  obtain ⟨oB, B⟩ := eK wB eB
  obtain ⟨ob, eo⟩ : ∃ c, wA.heap.size = c := ⟨_, rfl⟩
  rw [eo] at B
  have x0 := B.co 0 _ rfl
  have x1 := B.co 1 _ rfl
  have x4 := B.co 4 _ rfl
  have q1 : decide ((100 : Int) < (xz.length : Int)) = false := decide_eq_false (by have := hx.2; omega)
  clear eK A
  conv => arg 2; whnf
  dsimp only
  go_upto_region 13 with fail
  clear d0 d1 d2 d3 d4 eB
  rename_i Ka hKa
  go_cut [11] from 47 to 54 (fun v wx => v = .bool (decide (0 ≤ lo) && decide (lo ≤ 63)) ∧ wB = wx)
  case first =>
    by_cases h0 : 0 ≤ lo
    · by_cases h1 : lo ≤ 63
      · have e1 : decide (0 ≤ lo) = true := decide_eq_true h0
        have e2 : decide (lo ≤ 63) = true := decide_eq_true h1
        have E1 := Lib.hid e1
        have E2 := Lib.hid e2
        go_wp2_with fail
        go_meet
        case rel => exact ⟨by rw [E1.out, E2.out]; rfl, rfl⟩
      · have e1 : decide (0 ≤ lo) = true := decide_eq_true h0
        have e2 : decide (lo ≤ 63) = false := decide_eq_false h1
        have E1 := Lib.hid e1
        have E2 := Lib.hid e2
        go_wp2_with fail
        go_meet
        case rel => exact ⟨by rw [E1.out, E2.out]; rfl, rfl⟩
    · have e1 : decide (0 ≤ lo) = false := decide_eq_false h0
      have E1 := Lib.hid e1
      go_wp2_with fail
      go_meet
      case rel => exact ⟨by rw [E1.out]; rfl, rfl⟩
  case rest =>
  obtain ⟨rfl, rfl⟩ := hcut
  obtain ⟨inB, eI⟩ : ∃ c, (decide (0 ≤ lo) && decide (lo ≤ 63)) = c := ⟨_, rfl⟩
  rw [eI]
  have EI := Lib.hid eI
  clear eI
  go_upto_block 2 with fail
  rename_i K5 hK5
  go_cut [6, 7, 8] from 57 to 141 (fun v1 v2 v3 wx => Mid W t k v1 v2 v3 wx)
  case rest =>
    obtain ⟨o', S', s', z1', z2', z3', B', I'⟩ := hcut
    exact hK5 _ _ (tail hJE hKE hQp B' I' k120)
  case first =>
    rename_i J6 K6 hJ6 hK6
    rcases (by omega : kd = 0 ∨ kd = 1 ∨ (kd ≠ 0 ∧ kd ≠ 1)) with rfl | rfl | hkd
    · by_cases hin : 0 ≤ lo ∧ lo ≤ 63
      · exact arm0b hJ6 hK6 B I k120 ul hin (by rw [← EI.out, decide_eq_true hin.1, decide_eq_true hin.2]; rfl)
      · exact arm0a hJ6 hK6 B I k120 ul (by omega) (by
          rw [← EI.out]
          rcases (by omega : ¬ 0 ≤ lo ∨ ¬ lo ≤ 63) with h | h
          · rw [decide_eq_false h]; rfl
          · rw [decide_eq_false h, Bool.and_false])
    · exact arm1 hJ6 hK6 B I k120 hx EI.out.symm
    · exact armN hJ6 hK6 B I hkd
set_option maxRecDepth 1000000 in
set_option maxHeartbeats 16000000 in
theorem leave { s2 s3 s4 s10 s11 s12 s13 s14 s15 s16 s17 s18 s19 s20 s21 s22 s23 s24 s25 s26 s27 s28 s29 s30 s31 s32 s33 s34 s35 s36 s37 s38 s39 s40 s41 s42 s43 s44 s45 s46 s47 s48 s49 s50 s51 s52 s53 s54 s55 s56 s57 s58 s59 s60 s61 s62 s63 s64 s65 s66 s67 s68 s69 s70 s71 s72 s73 s74 s75 s76 s77 s78 s79 s80 s81 s82 s83 s84 s85 s86 s87 s88 s89 s90 s91 s92 s93 s94 s95 s96 s97 s98 s99 s100 s101 s102 s103 s104 s105 s106 s107 s108 s109 s110 s111 s112 s113 s114 s115 s116 s117 s118 s119 s120 s121 s122 s123 s124 s125 s126 s127 s128 s129 s130 s131 s132 s133 s134 s135 s136 s137 s138 s139 s140 s141 s142 s143 s144 s145 s146 s147 s148 s149 s150 s151 s152 s153 s154 s155 s156 s157 s158 s159 s160 s161 s162 s163 s164 s165 s166 s167 s168 s169 s170 s171 s172 s173 s174 s175 s176 s177 s178 s179 s180 s181 s182 s183 s184 s185 s186 s187 s188 s189 s190 s191 s192 s193 s194 s195 s196 s197 s198 s199 s200 s201 s202 s203 s204 s205 s206 s207 s208 s209 s210 s211 s212 s213 s214 s215 s216 s217 s218 s219 s220 s221 s222 s223 s224 s225 s226 s227 s228 s229 s230 s231 s232 s233 s234 s235 s236 s237 s238 s239 s240 s241 s242 s243 s244 s245 s246 s247 s248 s249 s250 s251 s252 s253 s254 s255 s256 s257 s258 s259 s260 s261 s262 s263 s264 s265 s266 s267 s268 s269 s270 s271 s272 s273 s274 s275 s276 s277 : Value}
    (hJX : ∀ a' w', PX W (.slice a1 len1 cap1) (.int .i64 key) s2 s3 (.pointer (some ⟨t, 0, none⟩)) s22 s23 s24 s25 s26 s27 s28 a' w' → JX a' w') (hKX : ∀ a' w', Met JX a' w' → KX a' w')
    (w1 : IsOps W a1 len1 cap1 f) (kl : k ≤ len1) (k120 : k ≤ 120) (A : All13 W wA oA t S s v1 z1 v2 z2 v3 z3 0 []) (hn : ¬ (k < len1 ∧ k < 120)) :
    Code.wp Try.prog cRound (Exit.then K (Exit.inBlock 0 (Exit.then KX (bodyPost Try.prog Try.f5 fun e w' => e = .returned (.bool true) ∧ Below W.heap.size W w')))) ⟨#[.slice a1 len1 cap1, .int .i64 key, s2, s3, s4, .pointer (some ⟨t, 0, none⟩), v1, v2, v3, .int .i64 k, s10, s11, s12, s13, s14, s15, s16, s17, s18, s19, s20, s21, s22, s23, s24, s25, s26, s27, s28, s29, s30, s31, s32, s33, s34, s35, s36, s37, s38, s39, s40, s41, s42, s43, s44, s45, s46, s47, s48, s49, s50, s51, s52, s53, s54, s55, s56, s57, s58, s59, s60, s61, s62, s63, s64, s65, s66, s67, s68, s69, s70, s71, s72, s73, s74, s75, s76, s77, s78, s79, s80, s81, s82, s83, s84, s85, s86, s87, s88, s89, s90, s91, s92, s93, s94, s95, s96, s97, s98, s99, s100, s101, s102, s103, s104, s105, s106, s107, s108, s109, s110, s111, s112, s113, s114, s115, s116, s117, s118, s119, s120, s121, s122, s123, s124, s125, s126, s127, s128, s129, s130, s131, s132, s133, s134, s135, s136, s137, s138, s139, s140, s141, s142, s143, s144, s145, s146, s147, s148, s149, s150, s151, s152, s153, s154, s155, s156, s157, s158, s159, s160, s161, s162, s163, s164, s165, s166, s167, s168, s169, s170, s171, s172, s173, s174, s175, s176, s177, s178, s179, s180, s181, s182, s183, s184, s185, s186, s187, s188, s189, s190, s191, s192, s193, s194, s195, s196, s197, s198, s199, s200, s201, s202, s203, s204, s205, s206, s207, s208, s209, s210, s211, s212, s213, s214, s215, s216, s217, s218, s219, s220, s221, s222, s223, s224, s225, s226, s227, s228, s229, s230, s231, s232, s233, s234, s235, s236, s237, s238, s239, s240, s241, s242, s243, s244, s245, s246, s247, s248, s249, s250, s251, s252, s253, s254, s255, s256, s257, s258, s259, s260, s261, s262, s263, s264, s265, s266, s267, s268, s269, s270, s271, s272, s273, s274, s275, s276, s277], []⟩ wA := by
  have l2 := w1.cap
  have l3 := w1.max
  have hb := A.r.b
  clear A w1
  conv => arg 2; whnf
  dsimp only
  rcases (by omega : (k = 120 ∧ k < len1) ∨ k = len1) with ⟨rfl, hl⟩ | rfl
  all_goals
    clear hn
    go_wp2_with fail
    go_meet
    case rel => exact hb
set_option maxRecDepth 1000000 in
set_option maxHeartbeats 16000000 in
theorem oneRound { s2 s3 s4 s10 s11 s12 s13 s14 s15 s16 s17 s18 s19 s20 s21 s22 s23 s24 s25 s26 s27 s28 s29 s30 s31 s32 s33 s34 s35 s36 s37 s38 s39 s40 s41 s42 s43 s44 s45 s46 s47 s48 s49 s50 s51 s52 s53 s54 s55 s56 s57 s58 s59 s60 s61 s62 s63 s64 s65 s66 s67 s68 s69 s70 s71 s72 s73 s74 s75 s76 s77 s78 s79 s80 s81 s82 s83 s84 s85 s86 s87 s88 s89 s90 s91 s92 s93 s94 s95 s96 s97 s98 s99 s100 s101 s102 s103 s104 s105 s106 s107 s108 s109 s110 s111 s112 s113 s114 s115 s116 s117 s118 s119 s120 s121 s122 s123 s124 s125 s126 s127 s128 s129 s130 s131 s132 s133 s134 s135 s136 s137 s138 s139 s140 s141 s142 s143 s144 s145 s146 s147 s148 s149 s150 s151 s152 s153 s154 s155 s156 s157 s158 s159 s160 s161 s162 s163 s164 s165 s166 s167 s168 s169 s170 s171 s172 s173 s174 s175 s176 s177 s178 s179 s180 s181 s182 s183 s184 s185 s186 s187 s188 s189 s190 s191 s192 s193 s194 s195 s196 s197 s198 s199 s200 s201 s202 s203 s204 s205 s206 s207 s208 s209 s210 s211 s212 s213 s214 s215 s216 s217 s218 s219 s220 s221 s222 s223 s224 s225 s226 s227 s228 s229 s230 s231 s232 s233 s234 s235 s236 s237 s238 s239 s240 s241 s242 s243 s244 s245 s246 s247 s248 s249 s250 s251 s252 s253 s254 s255 s256 s257 s258 s259 s260 s261 s262 s263 s264 s265 s266 s267 s268 s269 s270 s271 s272 s273 s274 s275 s276 s277 : Value}
    (hJ : ∀ n' a' w', PI W len1 t (.slice a1 len1 cap1) (.int .i64 key) s2 s3 s22 s23 s24 s25 s26 s27 s28 n' a' w' → J n' a' w') (hK : ∀ a' w', Handed J gk a' w' → K a' w')
    (hJX : ∀ a' w', PX W (.slice a1 len1 cap1) (.int .i64 key) s2 s3 (.pointer (some ⟨t, 0, none⟩)) s22 s23 s24 s25 s26 s27 s28 a' w' → JX a' w') (hKX : ∀ a' w', Met JX a' w' → KX a' w')
    (hgk : gk + k = len1) (w1 : IsOps W a1 len1 cap1 f) (kl : k ≤ len1) (k120 : k ≤ 120) (A : All13 W wA oA t S s v1 z1 v2 z2 v3 z3 0 []) (I : I13 W s z1 z2 z3 k) :
    Code.wp Try.prog cRound (Exit.then K (Exit.inBlock 0 (Exit.then KX (bodyPost Try.prog Try.f5 fun e w' => e = .returned (.bool true) ∧ Below W.heap.size W w')))) ⟨#[.slice a1 len1 cap1, .int .i64 key, s2, s3, s4, .pointer (some ⟨t, 0, none⟩), v1, v2, v3, .int .i64 k, s10, s11, s12, s13, s14, s15, s16, s17, s18, s19, s20, s21, s22, s23, s24, s25, s26, s27, s28, s29, s30, s31, s32, s33, s34, s35, s36, s37, s38, s39, s40, s41, s42, s43, s44, s45, s46, s47, s48, s49, s50, s51, s52, s53, s54, s55, s56, s57, s58, s59, s60, s61, s62, s63, s64, s65, s66, s67, s68, s69, s70, s71, s72, s73, s74, s75, s76, s77, s78, s79, s80, s81, s82, s83, s84, s85, s86, s87, s88, s89, s90, s91, s92, s93, s94, s95, s96, s97, s98, s99, s100, s101, s102, s103, s104, s105, s106, s107, s108, s109, s110, s111, s112, s113, s114, s115, s116, s117, s118, s119, s120, s121, s122, s123, s124, s125, s126, s127, s128, s129, s130, s131, s132, s133, s134, s135, s136, s137, s138, s139, s140, s141, s142, s143, s144, s145, s146, s147, s148, s149, s150, s151, s152, s153, s154, s155, s156, s157, s158, s159, s160, s161, s162, s163, s164, s165, s166, s167, s168, s169, s170, s171, s172, s173, s174, s175, s176, s177, s178, s179, s180, s181, s182, s183, s184, s185, s186, s187, s188, s189, s190, s191, s192, s193, s194, s195, s196, s197, s198, s199, s200, s201, s202, s203, s204, s205, s206, s207, s208, s209, s210, s211, s212, s213, s214, s215, s216, s217, s218, s219, s220, s221, s222, s223, s224, s225, s226, s227, s228, s229, s230, s231, s232, s233, s234, s235, s236, s237, s238, s239, s240, s241, s242, s243, s244, s245, s246, s247, s248, s249, s250, s251, s252, s253, s254, s255, s256, s257, s258, s259, s260, s261, s262, s263, s264, s265, s266, s267, s268, s269, s270, s271, s272, s273, s274, s275, s276, s277], []⟩ wA := by
  by_cases hlt : k < len1 ∧ k < 120
  · obtain ⟨hl, h120⟩ := hlt
    have l2 := w1.cap
    have l3 := w1.max
    obtain ⟨b, off, ea, hb, hc⟩ := w1.cell (by omega)
    subst ea
    have ho := w1.ok k hl
    have hll := w1.lies k hl
    obtain ⟨c0, c1, c2, c3, c4⟩ := hc k hl
    obtain ⟨Ax, cx, ev, _⟩ := id hll
    rw [ev] at c4 hll
    have d0 := (A.r.b.cell (p := ⟨b, off + k * 5, none⟩) hb).trans c0
    have d1 := (A.r.b.cell (p := ⟨b, off + k * 5 + 1, none⟩) hb).trans c1
    have d2 := (A.r.b.cell (p := ⟨b, off + k * 5 + 2, none⟩) hb).trans c2
    have d3 := (A.r.b.cell (p := ⟨b, off + k * 5 + 3, none⟩) hb).trans c3
    have d4 := (A.r.b.cell (p := ⟨b, off + k * 5 + 4, none⟩) hb).trans c4
    clear c0 c1 c2 c3 c4 hc ev
    conv => arg 2; whnf
    dsimp only
    go_upto_block 1 with fail
    rename_i K5 hK5
    have HK := Lib.hid hK5
    clear hK5
    go_cut [6, 7, 8] from 39 to 277 (fun v1 v2 v3 wx => Mid W t k v1 v2 v3 wx)
    case first =>
      rename_i JE KE hJE hKE
      by_cases hlong : 100 < (f k).z.length
      · exact early (Lib.hid fun a w h => h) hl ⟨l2, l3⟩ h120 d0 d1 d2 d3 d4 hlong A.r.b
      · exact body hJE hKE (Lib.hid fun c a d v w h => by cases d <;> exact h) hl ⟨l2, l3⟩ h120 ⟨ho.b3.1, ho.b3.2⟩ d0 d1 d2 d3 d4 ⟨hll, by omega⟩ A I
    case rest =>
      obtain ⟨o2, S2, s2, y1, y2, y3, A2, I2⟩ := hcut
      have hK5 := HK.out
      have wk : IntKind.i64.wrap ((k : Int) + 1) = (k : Int) + 1 := IntWalk.i64_in _ (by omega)
      clear HK d0 d1 d2 d3 d4 A I hll ho
      go_wp2_with fail
      go_roundg (len1 - (k + 1))
      case measure => omega
      case rel => exact ⟨k + 1, by omega, o2, S2, s2, y1, y2, y3, by omega, by omega, by go_num, A2, I2⟩
  · exact leave hJX hKX w1 kl k120 A hlt
set_option maxRecDepth 1000000 in
set_option maxHeartbeats 16000000 in
theorem theLoop { s2 s3 s4 s10 s11 s12 s13 s14 s15 s16 s17 s18 s19 s20 s21 s22 s23 s24 s25 s26 s27 s28 s29 s30 s31 s32 s33 s34 s35 s36 s37 s38 s39 s40 s41 s42 s43 s44 s45 s46 s47 s48 s49 s50 s51 s52 s53 s54 s55 s56 s57 s58 s59 s60 s61 s62 s63 s64 s65 s66 s67 s68 s69 s70 s71 s72 s73 s74 s75 s76 s77 s78 s79 s80 s81 s82 s83 s84 s85 s86 s87 s88 s89 s90 s91 s92 s93 s94 s95 s96 s97 s98 s99 s100 s101 s102 s103 s104 s105 s106 s107 s108 s109 s110 s111 s112 s113 s114 s115 s116 s117 s118 s119 s120 s121 s122 s123 s124 s125 s126 s127 s128 s129 s130 s131 s132 s133 s134 s135 s136 s137 s138 s139 s140 s141 s142 s143 s144 s145 s146 s147 s148 s149 s150 s151 s152 s153 s154 s155 s156 s157 s158 s159 s160 s161 s162 s163 s164 s165 s166 s167 s168 s169 s170 s171 s172 s173 s174 s175 s176 s177 s178 s179 s180 s181 s182 s183 s184 s185 s186 s187 s188 s189 s190 s191 s192 s193 s194 s195 s196 s197 s198 s199 s200 s201 s202 s203 s204 s205 s206 s207 s208 s209 s210 s211 s212 s213 s214 s215 s216 s217 s218 s219 s220 s221 s222 s223 s224 s225 s226 s227 s228 s229 s230 s231 s232 s233 s234 s235 s236 s237 s238 s239 s240 s241 s242 s243 s244 s245 s246 s247 s248 s249 s250 s251 s252 s253 s254 s255 s256 s257 s258 s259 s260 s261 s262 s263 s264 s265 s266 s267 s268 s269 s270 s271 s272 s273 s274 s275 s276 s277 : Value}
    (hJX : ∀ a' w', PX W (.slice a1 len1 cap1) (.int .i64 key) s2 s3 (.pointer (some ⟨t, 0, none⟩)) s22 s23 s24 s25 s26 s27 s28 a' w' → JX a' w') (hKX : ∀ a' w', Met JX a' w' → KX a' w')
    (w1 : IsOps W a1 len1 cap1 f) (A : All13 W wA oA t S s (.slice none 0 0) [] (.slice none 0 0) [] (.slice none 0 0) [] 0 []) (I : I13 W s [] [] [] 0) :
    Code.wp Try.prog cLoop (Exit.then KX (bodyPost Try.prog Try.f5 fun e w' => e = .returned (.bool true) ∧ Below W.heap.size W w')) ⟨#[.slice a1 len1 cap1, .int .i64 key, s2, s3, s4, .pointer (some ⟨t, 0, none⟩), .slice none 0 0, .slice none 0 0, .slice none 0 0, .int .i64 0, s10, s11, s12, s13, s14, s15, s16, s17, s18, s19, s20, s21, s22, s23, s24, s25, s26, s27, s28, s29, s30, s31, s32, s33, s34, s35, s36, s37, s38, s39, s40, s41, s42, s43, s44, s45, s46, s47, s48, s49, s50, s51, s52, s53, s54, s55, s56, s57, s58, s59, s60, s61, s62, s63, s64, s65, s66, s67, s68, s69, s70, s71, s72, s73, s74, s75, s76, s77, s78, s79, s80, s81, s82, s83, s84, s85, s86, s87, s88, s89, s90, s91, s92, s93, s94, s95, s96, s97, s98, s99, s100, s101, s102, s103, s104, s105, s106, s107, s108, s109, s110, s111, s112, s113, s114, s115, s116, s117, s118, s119, s120, s121, s122, s123, s124, s125, s126, s127, s128, s129, s130, s131, s132, s133, s134, s135, s136, s137, s138, s139, s140, s141, s142, s143, s144, s145, s146, s147, s148, s149, s150, s151, s152, s153, s154, s155, s156, s157, s158, s159, s160, s161, s162, s163, s164, s165, s166, s167, s168, s169, s170, s171, s172, s173, s174, s175, s176, s177, s178, s179, s180, s181, s182, s183, s184, s185, s186, s187, s188, s189, s190, s191, s192, s193, s194, s195, s196, s197, s198, s199, s200, s201, s202, s203, s204, s205, s206, s207, s208, s209, s210, s211, s212, s213, s214, s215, s216, s217, s218, s219, s220, s221, s222, s223, s224, s225, s226, s227, s228, s229, s230, s231, s232, s233, s234, s235, s236, s237, s238, s239, s240, s241, s242, s243, s244, s245, s246, s247, s248, s249, s250, s251, s252, s253, s254, s255, s256, s257, s258, s259, s260, s261, s262, s263, s264, s265, s266, s267, s268, s269, s270, s271, s272, s273, s274, s275, s276, s277], []⟩ wA := by
  conv => arg 2; whnf
  dsimp only
  go_wp2_with fail
  go_loopg [6, 7, 8, 9] len1 (fun m v1 v2 v3 i wr => ∃ k : Nat, m + k = len1 ∧ Rel W len1 t k v1 v2 v3 i wr)
  case atStart => exact ⟨0, rfl, oA, S, s, [], [], [], Nat.zero_le _, by omega, rfl, A, I⟩
  case round =>
    rename_i J1 K4 hJ4 hK4
    obtain ⟨k, hgk, o', S', s', z1', z2', z3', kl, k120, rfl, A', I'⟩ := hrel
    exact oneRound hJ4 hK4 hJX hKX hgk w1 kl k120 A' I'
end
end Go.Proofs.Ytafcmcpnmkmlbaa.readsPlays
