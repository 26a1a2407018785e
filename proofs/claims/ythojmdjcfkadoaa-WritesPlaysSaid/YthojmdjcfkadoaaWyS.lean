/- WritesPlays: the call of an op, and what it answers; conditions: what the parts before it have laid. -/
import Derived.Test.YthojmdjcfkadoaaWyE
namespace Go.Proofs.Ythojmdjcfkadoaa.writesPlays
open Go.ChangeShapes Go.WideShapes Go.ChangeAt Go.RowKit
set_option linter.unusedVariables false
theorem box_set {w : World} {S : Nat → Prop} {v : Value} {b : Nat} {a0 a1 a2 : Value} (X : Bx w S v b [a0, a1, a2]) (u0 u1 u2 : Value) :
    Bx (((w.setCell ⟨b, 0, none⟩ u0).setCell ⟨b, 1, none⟩ u1).setCell ⟨b, 2, none⟩ u2) S v b [u0, u1, u2] := by
  refine ⟨fun i u hu => ?_, X.nS, X.nv, by simpa [World.setCell] using X.lt, fun i => by rw [World.frozen?_setCell, World.frozen?_setCell, World.frozen?_setCell]; exact X.fz i⟩
  match i, hu with
  | 0, hu =>
    simp at hu; subst hu
    rw [World.cell?_setCell_other _ _ _ _ (by first | (simp; done) | (simp; omega)), World.cell?_setCell_other _ _ _ _ (by first | (simp; done) | (simp; omega))]; exact World.cell?_setCell_same _ _ _ (X.c 0 _ rfl)
  | 1, hu =>
    simp at hu; subst hu
    rw [World.cell?_setCell_other _ _ _ _ (by first | (simp; done) | (simp; omega))]
    refine World.cell?_setCell_same _ _ _ (u := a1) ?_
    rw [World.cell?_setCell_other _ _ _ _ (by first | (simp; done) | (simp; omega))]; exact X.c 1 _ rfl
  | 2, hu =>
    simp at hu; subst hu
    refine World.cell?_setCell_same _ _ _ (u := a2) ?_
    rw [World.cell?_setCell_other _ _ _ _ (by first | (simp; done) | (simp; omega)), World.cell?_setCell_other _ _ _ _ (by first | (simp; done) | (simp; omega))]; exact X.c 2 _ rfl
section
variable {W wA : World} {t : Nat} {S : Nat → Prop} {z : List WrI} {v : Value} {k kk xb ob : Nat} {key val kd : Int} {inB : Bool} {Q : Exit → Act → World → Prop} {JE KE : Act → World → Prop}
set_option maxRecDepth 1000000 in
set_option maxHeartbeats 8000000 in
theorem sw1 { s0 s1 s2 s3 s4 s5 s6 s7 s8 s9 s10 s13 s19 s20 s21 s22 s23 s24 s25 s26 s27 s28 s29 s30 s31 s32 s33 s34 s35 s36 s37 s38 s39 s40 s41 s42 s43 s44 s45 s46 s47 s48 s49 s50 s51 s52 s53 s54 s55 s56 s57 s58 s59 s60 s61 s62 s63 s64 s65 s66 s67 s68 s69 s70 s71 s72 s73 s74 s75 s76 s77 s78 s79 s80 s81 s82 s83 s84 s85 s86 s87 s88 s89 s90 s91 s92 s93 s94 s95 s96 s97 s98 s99 s100 s101 s102 s103 s104 s105 s106 s107 s108 s109 s110 s111 s112 s113 s114 s115 s116 s117 s118 s119 s120 s121 s122 s123 s124 s125 s126 s127 s128 s129 s130 s131 s132 s133 s134 s135 s136 s137 s138 s139 s140 s141 s142 s143 s144 s145 s146 s147 s148 s149 s150 s151 s152 s153 s154 s155 s156 s157 s158 s159 s160 s161 s162 s163 s164 s165 s166 s167 s168 s169 s170 s171 s172 s173 s174 s175 s176 s177 s178 s179 s180 s181 s182 s183 s184 s185 s186 s187 s188 s189 s190 s191 s192 s193 s194 s195 s196 s197 s198 s199 s200 s201 s202 s203 s204 s205 s206 s207 s208 s209 s210 s211 s212 s213 s214 s215 s216 s217 s218 s219 s220 s221 s222 s223 s224 s225 s226 s227 s228 s229 s230 s231 s232 s233 s234 s235 s236 s237 s238 s239 s240 s241 s242 s243 s244 s245 s246 s247 s248 s249 s250 s251 s252 s253 s254 s255 s256 s257 s258 s259 s260 s261 s262 s263 s264 s265 s266 s267 s268 s269 s270 s271 s272 s273 s274 s275 s276 s277 s278 s279 s280 s281 s282 s283 s284 s285 s286 s287 s288 s289 s290 s291 s292 s293 s294 s295 s296 s297 s298 s299 s300 s301 s302 s303 s304 s305 s306 s307 s308 s309 s310 s311 s312 s313 s314 s315 s316 s317 s318 s319 s320 s321 s322 s323 s324 s325 s326 s327 s328 s329 s330 s331 s332 s333 s334 s335 s336 s337 s338 s339 s340 s341 : Value}
    (hJE : ∀ a' w', PE W t k s0 s1 s2 s3 s4 s5 s6 s7 s8 s9 s13 s19 s20 s21 s22 s23 s24 s25 s26 s27 s28 s29 s30 s31 s32 s33 s34 s35 s36 s37 s38 s39 s40 s41 s42 s43 s44 s45 s46 s47 s48 s49 s50 s51 s52 s53 s54 s55 s56 s57 s141 s142 s143 s144 s145 s146 s147 s148 s149 s150 s151 s152 s153 s154 s155 s156 s157 s158 s159 s160 s161 s162 s163 s164 s165 s166 s167 s168 s169 s170 s171 s172 s173 s174 s175 s176 s177 s178 s179 s180 s181 s182 s183 s184 s185 s186 s187 s188 s189 s190 s191 s192 s193 s194 s195 s196 s197 s198 s199 s200 s201 s202 s203 s204 s205 s206 s207 s208 s209 s210 s211 s212 s213 s214 s215 s216 s217 s218 s219 s220 s221 s222 s223 s224 s225 s226 s227 s228 s229 s230 s231 s232 s233 s234 s235 s236 s237 s238 s239 s240 s241 s242 s243 s244 s245 s246 s247 s248 s249 s250 s251 s252 s253 s254 s255 s256 s257 s258 s259 s260 s261 s262 s263 s264 s265 s266 s267 s268 s269 s270 s271 s272 s273 s274 s275 s276 s277 s278 s279 s280 s281 s282 s283 s284 s285 s286 s287 s288 s289 s290 s291 s292 s293 s294 s295 s296 s297 s298 s299 s300 s301 s302 s303 s304 s305 s306 s307 s308 s309 s310 s311 s312 s313 s314 s315 s316 s317 s318 s319 s320 s321 s322 s323 s324 s325 s326 s327 s328 s329 s330 s331 s332 s333 s334 s335 s336 s337 s338 s339 s340 s341 a' w' → JE a' w') (hKE : ∀ a' w', Met JE a' w' → KE a' w')
    (A : A14 W wA t S z v z) (O : Bx wA S v ob [.int .i64 kd, .int .i64 key, .int .i64 val]) (X : Bx wA S v xb [.int .i64 key, .int .i64 0, .bool true]) (zl : z.length ≤ k) (k60 : k < 60) (hI : IsK z key kk) (hkd : kd ≠ 0) (eB : inB = (decide (0 ≤ key) && decide (key ≤ 63))) :
    Code.wp Try.prog cSw (Exit.inBlock 1 (Exit.then KE Q)) ⟨#[s0, s1, s2, s3, s4, s5, s6, s7, s8, s9, s10, .pointer (some ⟨t, 0, none⟩), v, s13, .pointer (some ⟨ob, 0, none⟩), .bool inB, .int .i64 kk, .pointer (some ⟨xb, 0, none⟩), .bool inB, s19, s20, s21, s22, s23, s24, s25, s26, s27, s28, s29, s30, s31, s32, s33, s34, s35, s36, s37, s38, s39, s40, s41, s42, s43, s44, s45, s46, s47, s48, s49, s50, s51, s52, s53, s54, s55, s56, s57, s58, s59, s60, s61, s62, s63, s64, s65, s66, s67, s68, s69, s70, s71, s72, s73, s74, s75, s76, s77, s78, s79, s80, s81, s82, s83, s84, s85, s86, s87, s88, s89, s90, s91, s92, s93, s94, s95, s96, s97, s98, s99, s100, s101, s102, s103, s104, s105, s106, s107, s108, s109, s110, s111, s112, s113, s114, s115, s116, s117, s118, s119, s120, s121, s122, s123, s124, s125, s126, s127, s128, s129, s130, s131, s132, s133, s134, s135, s136, s137, s138, s139, s140, s141, s142, s143, s144, s145, s146, s147, s148, s149, s150, s151, s152, s153, s154, s155, s156, s157, s158, s159, s160, s161, s162, s163, s164, s165, s166, s167, s168, s169, s170, s171, s172, s173, s174, s175, s176, s177, s178, s179, s180, s181, s182, s183, s184, s185, s186, s187, s188, s189, s190, s191, s192, s193, s194, s195, s196, s197, s198, s199, s200, s201, s202, s203, s204, s205, s206, s207, s208, s209, s210, s211, s212, s213, s214, s215, s216, s217, s218, s219, s220, s221, s222, s223, s224, s225, s226, s227, s228, s229, s230, s231, s232, s233, s234, s235, s236, s237, s238, s239, s240, s241, s242, s243, s244, s245, s246, s247, s248, s249, s250, s251, s252, s253, s254, s255, s256, s257, s258, s259, s260, s261, s262, s263, s264, s265, s266, s267, s268, s269, s270, s271, s272, s273, s274, s275, s276, s277, s278, s279, s280, s281, s282, s283, s284, s285, s286, s287, s288, s289, s290, s291, s292, s293, s294, s295, s296, s297, s298, s299, s300, s301, s302, s303, s304, s305, s306, s307, s308, s309, s310, s311, s312, s313, s314, s315, s316, s317, s318, s319, s320, s321, s322, s323, s324, s325, s326, s327, s328, s329, s330, s331, s332, s333, s334, s335, s336, s337, s338, s339, s340, s341], []⟩ wA := by
  obtain ⟨nd, z0⟩ : (z.map WrI.k).Nodup ∧ True := ⟨by obtain ⟨v0, a, _⟩ := A.r.a; exact a.nd, trivial⟩
  obtain ⟨r, sB, hs, hr⟩ : ∃ r sB, dropI z key = (r, sB) ∧ ((inB = false ∧ r = 1 ∧ sB = z) ∨ (inB = true ∧ r = 0 ∧ sB = setW z ⟨key, 0, true⟩)) := by
    unfold dropI
    by_cases h : key < 0 ∨ 63 < key
    · refine ⟨1, z, by rw [if_pos h], .inl ⟨?_, rfl, rfl⟩⟩
      rw [eB]
      rcases h with h | h
      · rw [decide_eq_false (show ¬ 0 ≤ key by omega)]; rfl
      · rw [decide_eq_false (show ¬ key ≤ 63 by omega), Bool.and_false]
    · refine ⟨0, _, by rw [if_neg h], .inr ⟨?_, rfl, rfl⟩⟩
      rw [eB, decide_eq_true (show 0 ≤ key by omega), decide_eq_true (show key ≤ 63 by omega)]; rfl
  have x0 := O.c 0 _ rfl
  have x1 := O.c 1 _ rfl
  have q0 : (kd == 0) = false := by simpa using hkd
  have AA := Lib.hid A
  have XX := Lib.hid X
  clear eB z0 A X
  conv => arg 2; whnf
  dsimp only
  go_upto_region 15 with fail
  rename_i Ko hKo K5 hK5
  have HK := Lib.hid hKo
  clear hKo
  go_wp2_with fail
  refine (wr_drop AA.out.r key r sB hs).mono ?_
  rintro e w1 ⟨rfl, S1, C1, k1⟩
  have A1 := AA.out.step C1 k1
  have X1 := XX.out.step k1
  clear C1 k1 x0 x1 O hs
  rcases hr with ⟨rfl, rfl, rfl⟩ | ⟨rfl, rfl, rfl⟩
  · go_wp2_with fail
    exact HK.out _ _ (endW (x := ⟨key, 0, true⟩) hJE hKE A1 X1 nd zl k60 hI (.inl ⟨rfl, rfl⟩))
  · go_wp2_with fail
    exact HK.out _ _ (endW (x := ⟨key, 0, true⟩) hJE hKE A1 X1 nd zl k60 hI (.inr ⟨rfl, rfl⟩))
set_option maxRecDepth 1000000 in
set_option maxHeartbeats 8000000 in
theorem sw0 { s0 s1 s2 s3 s4 s5 s6 s7 s8 s9 s10 s13 s19 s20 s21 s22 s23 s24 s25 s26 s27 s28 s29 s30 s31 s32 s33 s34 s35 s36 s37 s38 s39 s40 s41 s42 s43 s44 s45 s46 s47 s48 s49 s50 s51 s52 s53 s54 s55 s56 s57 s58 s59 s60 s61 s62 s63 s64 s65 s66 s67 s68 s69 s70 s71 s72 s73 s74 s75 s76 s77 s78 s79 s80 s81 s82 s83 s84 s85 s86 s87 s88 s89 s90 s91 s92 s93 s94 s95 s96 s97 s98 s99 s100 s101 s102 s103 s104 s105 s106 s107 s108 s109 s110 s111 s112 s113 s114 s115 s116 s117 s118 s119 s120 s121 s122 s123 s124 s125 s126 s127 s128 s129 s130 s131 s132 s133 s134 s135 s136 s137 s138 s139 s140 s141 s142 s143 s144 s145 s146 s147 s148 s149 s150 s151 s152 s153 s154 s155 s156 s157 s158 s159 s160 s161 s162 s163 s164 s165 s166 s167 s168 s169 s170 s171 s172 s173 s174 s175 s176 s177 s178 s179 s180 s181 s182 s183 s184 s185 s186 s187 s188 s189 s190 s191 s192 s193 s194 s195 s196 s197 s198 s199 s200 s201 s202 s203 s204 s205 s206 s207 s208 s209 s210 s211 s212 s213 s214 s215 s216 s217 s218 s219 s220 s221 s222 s223 s224 s225 s226 s227 s228 s229 s230 s231 s232 s233 s234 s235 s236 s237 s238 s239 s240 s241 s242 s243 s244 s245 s246 s247 s248 s249 s250 s251 s252 s253 s254 s255 s256 s257 s258 s259 s260 s261 s262 s263 s264 s265 s266 s267 s268 s269 s270 s271 s272 s273 s274 s275 s276 s277 s278 s279 s280 s281 s282 s283 s284 s285 s286 s287 s288 s289 s290 s291 s292 s293 s294 s295 s296 s297 s298 s299 s300 s301 s302 s303 s304 s305 s306 s307 s308 s309 s310 s311 s312 s313 s314 s315 s316 s317 s318 s319 s320 s321 s322 s323 s324 s325 s326 s327 s328 s329 s330 s331 s332 s333 s334 s335 s336 s337 s338 s339 s340 s341 : Value}
    (hJE : ∀ a' w', PE W t k s0 s1 s2 s3 s4 s5 s6 s7 s8 s9 s13 s19 s20 s21 s22 s23 s24 s25 s26 s27 s28 s29 s30 s31 s32 s33 s34 s35 s36 s37 s38 s39 s40 s41 s42 s43 s44 s45 s46 s47 s48 s49 s50 s51 s52 s53 s54 s55 s56 s57 s141 s142 s143 s144 s145 s146 s147 s148 s149 s150 s151 s152 s153 s154 s155 s156 s157 s158 s159 s160 s161 s162 s163 s164 s165 s166 s167 s168 s169 s170 s171 s172 s173 s174 s175 s176 s177 s178 s179 s180 s181 s182 s183 s184 s185 s186 s187 s188 s189 s190 s191 s192 s193 s194 s195 s196 s197 s198 s199 s200 s201 s202 s203 s204 s205 s206 s207 s208 s209 s210 s211 s212 s213 s214 s215 s216 s217 s218 s219 s220 s221 s222 s223 s224 s225 s226 s227 s228 s229 s230 s231 s232 s233 s234 s235 s236 s237 s238 s239 s240 s241 s242 s243 s244 s245 s246 s247 s248 s249 s250 s251 s252 s253 s254 s255 s256 s257 s258 s259 s260 s261 s262 s263 s264 s265 s266 s267 s268 s269 s270 s271 s272 s273 s274 s275 s276 s277 s278 s279 s280 s281 s282 s283 s284 s285 s286 s287 s288 s289 s290 s291 s292 s293 s294 s295 s296 s297 s298 s299 s300 s301 s302 s303 s304 s305 s306 s307 s308 s309 s310 s311 s312 s313 s314 s315 s316 s317 s318 s319 s320 s321 s322 s323 s324 s325 s326 s327 s328 s329 s330 s331 s332 s333 s334 s335 s336 s337 s338 s339 s340 s341 a' w' → JE a' w') (hKE : ∀ a' w', Met JE a' w' → KE a' w')
    (A : A14 W wA t S z v z) (O : Bx wA S v ob [.int .i64 0, .int .i64 key, .int .i64 val]) (X : Bx wA S v xb [.int .i64 key, .int .i64 0, .bool true]) (ox : ob ≠ xb) (xW : W.heap.size ≤ xb) (zl : z.length ≤ k) (k60 : k < 60) (hI : IsK z key kk) (eB : inB = (decide (0 ≤ key) && decide (key ≤ 63))) :
    Code.wp Try.prog cSw (Exit.inBlock 1 (Exit.then KE Q)) ⟨#[s0, s1, s2, s3, s4, s5, s6, s7, s8, s9, s10, .pointer (some ⟨t, 0, none⟩), v, s13, .pointer (some ⟨ob, 0, none⟩), .bool inB, .int .i64 kk, .pointer (some ⟨xb, 0, none⟩), .bool inB, s19, s20, s21, s22, s23, s24, s25, s26, s27, s28, s29, s30, s31, s32, s33, s34, s35, s36, s37, s38, s39, s40, s41, s42, s43, s44, s45, s46, s47, s48, s49, s50, s51, s52, s53, s54, s55, s56, s57, s58, s59, s60, s61, s62, s63, s64, s65, s66, s67, s68, s69, s70, s71, s72, s73, s74, s75, s76, s77, s78, s79, s80, s81, s82, s83, s84, s85, s86, s87, s88, s89, s90, s91, s92, s93, s94, s95, s96, s97, s98, s99, s100, s101, s102, s103, s104, s105, s106, s107, s108, s109, s110, s111, s112, s113, s114, s115, s116, s117, s118, s119, s120, s121, s122, s123, s124, s125, s126, s127, s128, s129, s130, s131, s132, s133, s134, s135, s136, s137, s138, s139, s140, s141, s142, s143, s144, s145, s146, s147, s148, s149, s150, s151, s152, s153, s154, s155, s156, s157, s158, s159, s160, s161, s162, s163, s164, s165, s166, s167, s168, s169, s170, s171, s172, s173, s174, s175, s176, s177, s178, s179, s180, s181, s182, s183, s184, s185, s186, s187, s188, s189, s190, s191, s192, s193, s194, s195, s196, s197, s198, s199, s200, s201, s202, s203, s204, s205, s206, s207, s208, s209, s210, s211, s212, s213, s214, s215, s216, s217, s218, s219, s220, s221, s222, s223, s224, s225, s226, s227, s228, s229, s230, s231, s232, s233, s234, s235, s236, s237, s238, s239, s240, s241, s242, s243, s244, s245, s246, s247, s248, s249, s250, s251, s252, s253, s254, s255, s256, s257, s258, s259, s260, s261, s262, s263, s264, s265, s266, s267, s268, s269, s270, s271, s272, s273, s274, s275, s276, s277, s278, s279, s280, s281, s282, s283, s284, s285, s286, s287, s288, s289, s290, s291, s292, s293, s294, s295, s296, s297, s298, s299, s300, s301, s302, s303, s304, s305, s306, s307, s308, s309, s310, s311, s312, s313, s314, s315, s316, s317, s318, s319, s320, s321, s322, s323, s324, s325, s326, s327, s328, s329, s330, s331, s332, s333, s334, s335, s336, s337, s338, s339, s340, s341], []⟩ wA := by
  obtain ⟨nd, z0⟩ : (z.map WrI.k).Nodup ∧ True := ⟨by obtain ⟨v0, a, _⟩ := A.r.a; exact a.nd, trivial⟩
  obtain ⟨r, sB, hs, hr⟩ : ∃ r sB, putI z key val = (r, sB) ∧ ((r = 1 ∧ sB = z ∧ (inB = false ∨ (inB = true ∧ val < 0) ∨ (inB = true ∧ 0 ≤ val ∧ ¬ val ≤ 65535))) ∨ (inB = true ∧ 0 ≤ val ∧ val ≤ 65535 ∧ r = 0 ∧ sB = setW z ⟨key, val, false⟩)) := by
    unfold putI
    by_cases h : key < 0 ∨ 63 < key
    · refine ⟨1, z, by rw [if_pos (by omega)], .inl ⟨rfl, rfl, .inl ?_⟩⟩
      rw [eB]
      rcases h with h | h
      · rw [decide_eq_false (show ¬ 0 ≤ key by omega)]; rfl
      · rw [decide_eq_false (show ¬ key ≤ 63 by omega), Bool.and_false]
    · have e : inB = true := by rw [eB, decide_eq_true (show 0 ≤ key by omega), decide_eq_true (show key ≤ 63 by omega)]; rfl
      by_cases h2 : val < 0
      · exact ⟨1, z, by rw [if_pos (by omega)], .inl ⟨rfl, rfl, .inr (.inl ⟨e, h2⟩)⟩⟩
      · by_cases h3 : 65535 < val
        · exact ⟨1, z, by rw [if_pos (by omega)], .inl ⟨rfl, rfl, .inr (.inr ⟨e, by omega, by omega⟩)⟩⟩
        · exact ⟨0, _, by rw [if_neg (by omega)], .inr ⟨e, by omega, by omega, rfl, rfl⟩⟩
  have x0 := O.c 0 _ rfl
  have x1 := O.c 1 _ rfl
  have x2 := O.c 2 _ rfl
  have y0 := X.c 0 _ rfl
  have y1 := X.c 1 _ rfl
  have y2 := X.c 2 _ rfl
  obtain ⟨wB, eW⟩ : ∃ wB, ((wA.setCell ⟨xb, 0, none⟩ (.int .i64 key)).setCell ⟨xb, 1, none⟩ (.int .i64 val)).setCell ⟨xb, 2, none⟩ (.bool false) = wB := ⟨_, rfl⟩
  have kB : Keep (fun j => j = xb) wA wB := by
    rw [← eW]
    exact (((Keep.refl (fun j => j = xb) wA).setCell (p := ⟨xb, 0, none⟩) rfl _).setCell (p := ⟨xb, 1, none⟩) rfl _).setCell (p := ⟨xb, 2, none⟩) rfl _
  have AB := Lib.hid (A.far kB (fun g e => by rw [e]; exact ⟨X.nS, X.nv, xW⟩))
  have XB : Bx wB S v xb [.int .i64 key, .int .i64 val, .bool false] := by rw [← eW]; exact box_set X _ _ _
  have OB := Lib.hid (O.far kB (fun e => ox e))
  have XB := Lib.hid XB
  have f0 := X.fz 0
  have f1 := X.fz 1
  have f2 := X.fz 2
  have b1 := OB.out.c 1 _ rfl
  have b2 := OB.out.c 2 _ rfl
  clear eB z0 A X O kB
  conv => arg 2; whnf
  dsimp only
  go_upto_region 15 with fail
  rename_i Ko hKo K5 hK5
  have HK := Lib.hid hKo
  clear hKo
  rcases hr with ⟨rfl, rfl, rfl | ⟨rfl, hv⟩ | ⟨rfl, hv, hv2⟩⟩ | ⟨rfl, h0, h1, rfl, rfl⟩
  · (go_upto_region 17 with fail); clear x0 x1 x2 y0 y1 y2 f0 f1 f2 eW; go_wp2_with fail; refine (wr_put AB.out.r key val _ _ hs).mono ?_; rintro e w1 ⟨rfl, S1, C1, k1⟩; have A1 := AB.out.step C1 k1; have X1 := XB.out.step k1; clear C1 k1 b1 b2 hs; go_wp2_with fail; exact HK.out _ _ (endW (x := ⟨key, val, false⟩) hJE hKE A1 X1 nd zl k60 hI (.inl ⟨rfl, rfl⟩))
  · (go_upto_region 17 with fail); clear x0 x1 x2 y0 y1 y2 f0 f1 f2 eW; go_wp2_with fail; refine (wr_put AB.out.r key val _ _ hs).mono ?_; rintro e w1 ⟨rfl, S1, C1, k1⟩; have A1 := AB.out.step C1 k1; have X1 := XB.out.step k1; clear C1 k1 b1 b2 hs; go_wp2_with fail; exact HK.out _ _ (endW (x := ⟨key, val, false⟩) hJE hKE A1 X1 nd zl k60 hI (.inl ⟨rfl, rfl⟩))
  · (go_upto_region 17 with fail); clear x0 x1 x2 y0 y1 y2 f0 f1 f2 eW; go_wp2_with fail; refine (wr_put AB.out.r key val _ _ hs).mono ?_; rintro e w1 ⟨rfl, S1, C1, k1⟩; have A1 := AB.out.step C1 k1; have X1 := XB.out.step k1; clear C1 k1 b1 b2 hs; go_wp2_with fail; exact HK.out _ _ (endW (x := ⟨key, val, false⟩) hJE hKE A1 X1 nd zl k60 hI (.inl ⟨rfl, rfl⟩))
  · (go_upto_region 17 with fail); clear x0 x1 x2 y0 y1 y2 f0 f1 f2 eW; go_wp2_with fail; refine (wr_put AB.out.r key val _ _ hs).mono ?_; rintro e w1 ⟨rfl, S1, C1, k1⟩; have A1 := AB.out.step C1 k1; have X1 := XB.out.step k1; clear C1 k1 b1 b2 hs; go_wp2_with fail; exact HK.out _ _ (endW (x := ⟨key, val, false⟩) hJE hKE A1 X1 nd zl k60 hI (.inr ⟨rfl, rfl⟩))
end
end Go.Proofs.Ythojmdjcfkadoaa.writesPlays
