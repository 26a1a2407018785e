/- Several texts, one behind the other: HpK2, HpK3, HpK4, HpKN. -/
import Derived.Test.YtmfpjnlplimkeaaGreatLawHashPlaysZas
/- HashPlays, arm 2 (a version is made and pushed); conditions: what the parts before it have laid. -/
namespace Go.Proofs.YtmfpjnlplimkeaaGreat.hashPlays
open Go.ChangeShapes Go.WideShapes Go.ChangeAt Go.RowKit
set_option linter.unusedVariables false
section
variable {W wA : World} {oA : Nat → Nat} {x p n : Nat} {S : Nat → Prop} {s : RS} {h : HS} {D : Nat → Nat → Prop} {k b9 b10 : Nat} {f9 : Nat → Bool} {f10 : Nat → Int} {v1 : Value} {z1 : List Int} {ob : Nat} {key : Int} {inB isB : Bool} {cv : Value} {Q : Exit → Act → World → Prop} {J K JE KE : Act → World → Prop}
set_option maxRecDepth 1000000 in
set_option maxHeartbeats 8000000 in
theorem arm2 { s0 s1 s2 s3 s4 s6 s8 s18 s19 s20 s21 s22 s23 s24 s25 s26 s27 s28 s29 s30 s31 s32 s33 s34 s35 s36 s37 s38 s39 s40 s41 s42 s43 s44 s45 s46 s47 s48 s49 s50 s51 s52 s53 s54 s55 s56 s57 s58 s59 s60 s61 s62 s63 s64 s65 s66 s67 s68 s69 s70 s71 s72 s73 s74 s75 s76 s77 s78 s79 s80 s81 s82 s83 s84 s85 s86 s87 s88 s89 s90 s91 s92 s93 s94 s95 s96 s97 s98 s99 s100 s101 s102 s103 s104 s105 s106 s107 s108 s109 s110 s111 s112 s113 s114 s115 s116 s117 s118 s119 s120 s121 s122 s123 s124 s125 s126 s127 s128 s130 s131 s132 s133 s134 s135 s136 s137 s138 s139 s140 s141 s142 s143 s144 s145 s146 s147 s148 s149 s150 s151 s152 s153 s154 s155 s156 s157 s158 s159 s160 s161 s162 s163 s164 s165 s166 s167 s168 s169 s170 s171 s172 s173 s174 s175 s176 s177 s178 s179 s180 s181 s182 s183 s184 s185 s186 s187 s188 s189 s190 s191 s192 s193 s194 s195 s196 s197 s198 s199 s200 s201 s202 s203 s204 s205 s206 s207 s208 s209 s210 s211 s212 s213 s214 s215 s216 s217 s218 s219 s220 s221 s222 s223 s224 s225 s226 s227 s228 s229 s230 s231 s232 s233 s234 s235 s236 s237 s238 s239 s240 s241 s242 s243 s244 s245 s246 s247 s248 s249 s250 s251 s252 s253 s254 s255 s256 s257 s258 s259 s260 s261 s262 s263 s264 s265 s266 s267 s268 s269 s270 s271 s272 s273 s274 s275 s276 s277 s278 s279 s280 s281 s282 s283 s284 s285 s286 s287 s288 s289 s290 s291 s292 s293 s294 s295 s296 s297 s298 s299 s300 s301 s302 s303 s304 s305 s306 s307 s308 s309 s310 s311 s312 s313 s314 s315 s316 s317 s318 s319 s320 s321 s322 s323 s324 s325 s326 s327 s328 s329 s330 s331 s332 s333 s334 s335 s336 s337 s338 s339 : Value}
    (hJ : ∀ a' w', PM W x p n b9 b10 ob (2) key k s0 s1 s2 s3 s6 s8 (.bool inB) (.bool isB) cv (.bool isB) s25 s26 s27 s28 s29 s30 s31 s32 s33 s34 s35 s36 s37 s38 s39 s40 s41 s42 s43 s44 s45 s46 s47 s48 s49 s50 s51 s52 s53 s54 s55 s56 s57 s58 s59 s60 s61 s62 s63 s64 s65 s66 s67 s68 s69 s70 s71 s72 s73 s74 s75 s76 s77 s78 s79 s80 s81 s82 s83 s84 s85 s86 s87 s88 s89 s90 s91 s92 s93 s94 s95 s96 s97 s98 s99 s100 s101 s102 s103 s104 s105 s106 s107 s108 s109 s110 s111 s112 s113 s114 s115 s116 s117 s118 s119 s120 s121 s122 s123 s124 s125 s126 s127 s128 (.int .i64 (2)) s267 s268 s269 s270 s271 s272 s273 s274 s275 s276 s277 s278 s279 s280 s281 s282 s283 s284 s285 s286 s287 s288 s289 s290 s291 s292 s293 s294 s295 s296 s297 s298 s299 s300 s301 s302 s303 s304 s305 s306 s307 s308 s309 s310 s311 s312 s313 s314 s315 s316 s317 s318 s319 s320 s321 s322 s323 s324 s325 s326 s327 s328 s329 s330 s331 s332 s333 s334 s335 s336 s337 s338 s339 a' w' → J a' w') (hK : ∀ a' w', Met J a' w' → K a' w')
    (hJE : ∀ a' w', PE W x p n b9 b10 k s0 s1 s2 s3 s6 s8 s30 s31 s32 s33 s34 s35 s36 s37 s38 s39 s40 s41 s42 s43 s44 s45 s46 s47 s48 s49 s50 s51 s52 s53 s54 s55 s56 s57 s58 s59 s60 s61 s62 s63 s64 s65 s66 s67 s68 s69 s70 s71 s72 s73 s74 s75 s76 s77 s78 s79 s80 s329 s330 s331 s332 s333 s334 s335 s336 s337 s338 s339 a' w' → JE a' w') (hKE : ∀ a' w', Met JE a' w' → KE a' w')
    (hQp : RowKit.Hid (∀ c a d v w, Q (.panic c) (a.put d v) w → Q (.panic c) a w)) (k80 : k < 80) (I : I10 h f9 f10 z1 k)
    (A : All10 W wA oA x p n S s h D (40000 + 1000000 * k) b9 f9 b10 f10 v1 z1 (.slice none 0 0) [] (.slice none 0 0) [] ob [.int .i64 (2), .int .i64 key]) (KI : KeyI h D key inB isB cv) :
    Code.wp Tryz.prog cArms (Exit.then K (Exit.inBlock 1 (Exit.then KE Q))) ⟨#[s0, s1, s2, s3, s4, .pointer (some ⟨p, 0, none⟩), s6, .pointer (some ⟨x, 0, none⟩), s8, .pointer (some ⟨b9, 0, none⟩), .pointer (some ⟨b10, 0, none⟩), v1, .int .i64 k, .pointer (some ⟨ob, 0, none⟩), .bool inB, .bool isB, cv, .bool isB, s18, s19, s20, s21, s22, s23, s24, s25, s26, s27, s28, s29, s30, s31, s32, s33, s34, s35, s36, s37, s38, s39, s40, s41, s42, s43, s44, s45, s46, s47, s48, s49, s50, s51, s52, s53, s54, s55, s56, s57, s58, s59, s60, s61, s62, s63, s64, s65, s66, s67, s68, s69, s70, s71, s72, s73, s74, s75, s76, s77, s78, s79, s80, s81, s82, s83, s84, s85, s86, s87, s88, s89, s90, s91, s92, s93, s94, s95, s96, s97, s98, s99, s100, s101, s102, s103, s104, s105, s106, s107, s108, s109, s110, s111, s112, s113, s114, s115, s116, s117, s118, s119, s120, s121, s122, s123, s124, s125, s126, s127, s128, .int .i64 (2), s130, s131, s132, s133, s134, s135, s136, s137, s138, s139, s140, s141, s142, s143, s144, s145, s146, s147, s148, s149, s150, s151, s152, s153, s154, s155, s156, s157, s158, s159, s160, s161, s162, s163, s164, s165, s166, s167, s168, s169, s170, s171, s172, s173, s174, s175, s176, s177, s178, s179, s180, s181, s182, s183, s184, s185, s186, s187, s188, s189, s190, s191, s192, s193, s194, s195, s196, s197, s198, s199, s200, s201, s202, s203, s204, s205, s206, s207, s208, s209, s210, s211, s212, s213, s214, s215, s216, s217, s218, s219, s220, s221, s222, s223, s224, s225, s226, s227, s228, s229, s230, s231, s232, s233, s234, s235, s236, s237, s238, s239, s240, s241, s242, s243, s244, s245, s246, s247, s248, s249, s250, s251, s252, s253, s254, s255, s256, s257, s258, s259, s260, s261, s262, s263, s264, s265, s266, s267, s268, s269, s270, s271, s272, s273, s274, s275, s276, s277, s278, s279, s280, s281, s282, s283, s284, s285, s286, s287, s288, s289, s290, s291, s292, s293, s294, s295, s296, s297, s298, s299, s300, s301, s302, s303, s304, s305, s306, s307, s308, s309, s310, s311, s312, s313, s314, s315, s316, s317, s318, s319, s320, s321, s322, s323, s324, s325, s326, s327, s328, s329, s330, s331, s332, s333, s334, s335, s336, s337, s338, s339], []⟩ wA := by
  have x1 := A.co 1 _ rfl
  conv => arg 2; whnf
  dsimp only
  have no : isB = false → Code.wp Tryz.prog cArms (Exit.then K (Exit.inBlock 1 (Exit.then KE Q))) ⟨#[s0, s1, s2, s3, s4, .pointer (some ⟨p, 0, none⟩), s6, .pointer (some ⟨x, 0, none⟩), s8, .pointer (some ⟨b9, 0, none⟩), .pointer (some ⟨b10, 0, none⟩), v1, .int .i64 k, .pointer (some ⟨ob, 0, none⟩), .bool inB, .bool isB, cv, .bool isB, s18, s19, s20, s21, s22, s23, s24, s25, s26, s27, s28, s29, s30, s31, s32, s33, s34, s35, s36, s37, s38, s39, s40, s41, s42, s43, s44, s45, s46, s47, s48, s49, s50, s51, s52, s53, s54, s55, s56, s57, s58, s59, s60, s61, s62, s63, s64, s65, s66, s67, s68, s69, s70, s71, s72, s73, s74, s75, s76, s77, s78, s79, s80, s81, s82, s83, s84, s85, s86, s87, s88, s89, s90, s91, s92, s93, s94, s95, s96, s97, s98, s99, s100, s101, s102, s103, s104, s105, s106, s107, s108, s109, s110, s111, s112, s113, s114, s115, s116, s117, s118, s119, s120, s121, s122, s123, s124, s125, s126, s127, s128, .int .i64 (2), s130, s131, s132, s133, s134, s135, s136, s137, s138, s139, s140, s141, s142, s143, s144, s145, s146, s147, s148, s149, s150, s151, s152, s153, s154, s155, s156, s157, s158, s159, s160, s161, s162, s163, s164, s165, s166, s167, s168, s169, s170, s171, s172, s173, s174, s175, s176, s177, s178, s179, s180, s181, s182, s183, s184, s185, s186, s187, s188, s189, s190, s191, s192, s193, s194, s195, s196, s197, s198, s199, s200, s201, s202, s203, s204, s205, s206, s207, s208, s209, s210, s211, s212, s213, s214, s215, s216, s217, s218, s219, s220, s221, s222, s223, s224, s225, s226, s227, s228, s229, s230, s231, s232, s233, s234, s235, s236, s237, s238, s239, s240, s241, s242, s243, s244, s245, s246, s247, s248, s249, s250, s251, s252, s253, s254, s255, s256, s257, s258, s259, s260, s261, s262, s263, s264, s265, s266, s267, s268, s269, s270, s271, s272, s273, s274, s275, s276, s277, s278, s279, s280, s281, s282, s283, s284, s285, s286, s287, s288, s289, s290, s291, s292, s293, s294, s295, s296, s297, s298, s299, s300, s301, s302, s303, s304, s305, s306, s307, s308, s309, s310, s311, s312, s313, s314, s315, s316, s317, s318, s319, s320, s321, s322, s323, s324, s325, s326, s327, s328, s329, s330, s331, s332, s333, s334, s335, s336, s337, s338, s339], []⟩ wA := fun e => by
    subst e
    conv => arg 2; whnf
    dsimp only
    go_wp2_with fail
    go_meet
    case rel => exact ⟨oA, S, s, h, D, f9, f10, z1, ob, A.noop.up (by omega), I.later (by omega)⟩
  rcases KI with ⟨hk, rfl, rfl, rfl⟩ | ⟨j, rfl, j64, rfl, ⟨hl, rfl, rfl⟩ | ⟨l, q, hl, rfl, rfl, hd⟩⟩
  · exact no rfl
  · exact no rfl
  · clear no
    have q3 : (j : Int).toNat = j := (by omega); have q5 : (0 : Int) ≤ (j : Int) := (by omega); have q6 : (j : Int) < 64 := (by omega)
    have e10 := I.e10 j j64
    rw [hl] at e10
    have e10 : f10 j = (l.length : Int) := e10
    have ll := I.len j l hl
    rcases make_new A.r.ok (j : Int) 1 1 2 (by omega) (by omega) (by omega) (by omega) with ⟨s', hmk, es⟩ | ⟨y, s', hmk, yb, yl, yn⟩
    · go_wp2_with fail
      refine (x_make A.r (by omega) _ _ 1 2 ⟨by omega, by omega⟩ ⟨by omega, by omega⟩ _ _ _ hmk).mono ?_
      rintro e y1 ⟨rfl, S1, C1, k1⟩
      have A := A.step C1 k1
      clear C1 k1 x1 hmk
      go_wp2_with fail
      go_meet
      case rel => exact ⟨_, S1, s', h, D, f9, f10, z1, A.up (by omega), I.later (by omega)⟩
    · have hln := A.r.hk.ln
      go_wp2_with fail
      refine (x_make A.r (by omega) _ _ 1 2 ⟨by omega, by omega⟩ ⟨by omega, by omega⟩ _ _ _ hmk).mono ?_
      rintro e y1 ⟨rfl, S1, C1, k1⟩
      have A := A.step C1 k1
      clear C1 k1 x1 hmk
      have hps : pushI s'.s l y = (true, y :: l) := by unfold pushI; rw [if_pos ⟨yl, yn l (hln j l hl)⟩]
      go_wp2_with fail
      refine (x_push A.r (by omega) j hd l hl (by omega) y yb _ _ hps (fun _ k' l' h' => yn l' (hln k' l' h'))).mono ?_
      rintro e y2 ⟨rfl, S2, s2, e2, C2, k2⟩
      have A := A.step C2 k2
      clear C2 k2 hps yn hln
      have x1 := A.co 1 _ rfl
      have xj := A.t10.cell j j64
      have zj := A.t10.free j
      rw [e10] at xj
      have wj : IntKind.i64.wrap ((l.length : Int) + 1) = (l.length : Int) + 1 := IntWalk.i64_in _ (by omega)
      have A := A.set10 j j64 ((l.length : Int) + 1) (f10' := fun i => if i = j then (l.length : Int) + 1 else f10 i) (fun i => rfl)
      clear e10
      go_wp2_with fail
      go_meet
      case rel => exact ⟨_, S2, s2, _, D, f9, _, z1, A.up (by omega), I.set hl (by omega) (by simp; omega) (by simp)⟩
end
end Go.Proofs.YtmfpjnlplimkeaaGreat.hashPlays
/- HashPlays, arm 3 (all of a key's versions are cut); conditions: what the parts before it have laid. -/
namespace Go.Proofs.YtmfpjnlplimkeaaGreat.hashPlays
open Go.ChangeShapes Go.WideShapes Go.ChangeAt Go.RowKit
set_option linter.unusedVariables false
section
variable {W wA : World} {oA : Nat → Nat} {x p n : Nat} {S : Nat → Prop} {s : RS} {h : HS} {D : Nat → Nat → Prop} {k b9 b10 : Nat} {f9 : Nat → Bool} {f10 : Nat → Int} {v1 : Value} {z1 : List Int} {ob : Nat} {key : Int} {inB isB : Bool} {cv : Value} {Q : Exit → Act → World → Prop} {J K JE KE : Act → World → Prop}
set_option maxRecDepth 1000000 in
set_option maxHeartbeats 8000000 in
theorem arm3 { s0 s1 s2 s3 s4 s6 s8 s18 s19 s20 s21 s22 s23 s24 s25 s26 s27 s28 s29 s30 s31 s32 s33 s34 s35 s36 s37 s38 s39 s40 s41 s42 s43 s44 s45 s46 s47 s48 s49 s50 s51 s52 s53 s54 s55 s56 s57 s58 s59 s60 s61 s62 s63 s64 s65 s66 s67 s68 s69 s70 s71 s72 s73 s74 s75 s76 s77 s78 s79 s80 s81 s82 s83 s84 s85 s86 s87 s88 s89 s90 s91 s92 s93 s94 s95 s96 s97 s98 s99 s100 s101 s102 s103 s104 s105 s106 s107 s108 s109 s110 s111 s112 s113 s114 s115 s116 s117 s118 s119 s120 s121 s122 s123 s124 s125 s126 s127 s128 s130 s131 s132 s133 s134 s135 s136 s137 s138 s139 s140 s141 s142 s143 s144 s145 s146 s147 s148 s149 s150 s151 s152 s153 s154 s155 s156 s157 s158 s159 s160 s161 s162 s163 s164 s165 s166 s167 s168 s169 s170 s171 s172 s173 s174 s175 s176 s177 s178 s179 s180 s181 s182 s183 s184 s185 s186 s187 s188 s189 s190 s191 s192 s193 s194 s195 s196 s197 s198 s199 s200 s201 s202 s203 s204 s205 s206 s207 s208 s209 s210 s211 s212 s213 s214 s215 s216 s217 s218 s219 s220 s221 s222 s223 s224 s225 s226 s227 s228 s229 s230 s231 s232 s233 s234 s235 s236 s237 s238 s239 s240 s241 s242 s243 s244 s245 s246 s247 s248 s249 s250 s251 s252 s253 s254 s255 s256 s257 s258 s259 s260 s261 s262 s263 s264 s265 s266 s267 s268 s269 s270 s271 s272 s273 s274 s275 s276 s277 s278 s279 s280 s281 s282 s283 s284 s285 s286 s287 s288 s289 s290 s291 s292 s293 s294 s295 s296 s297 s298 s299 s300 s301 s302 s303 s304 s305 s306 s307 s308 s309 s310 s311 s312 s313 s314 s315 s316 s317 s318 s319 s320 s321 s322 s323 s324 s325 s326 s327 s328 s329 s330 s331 s332 s333 s334 s335 s336 s337 s338 s339 : Value}
    (hJ : ∀ a' w', PM W x p n b9 b10 ob (3) key k s0 s1 s2 s3 s6 s8 (.bool inB) (.bool isB) cv (.bool isB) s25 s26 s27 s28 s29 s30 s31 s32 s33 s34 s35 s36 s37 s38 s39 s40 s41 s42 s43 s44 s45 s46 s47 s48 s49 s50 s51 s52 s53 s54 s55 s56 s57 s58 s59 s60 s61 s62 s63 s64 s65 s66 s67 s68 s69 s70 s71 s72 s73 s74 s75 s76 s77 s78 s79 s80 s81 s82 s83 s84 s85 s86 s87 s88 s89 s90 s91 s92 s93 s94 s95 s96 s97 s98 s99 s100 s101 s102 s103 s104 s105 s106 s107 s108 s109 s110 s111 s112 s113 s114 s115 s116 s117 s118 s119 s120 s121 s122 s123 s124 s125 s126 s127 s128 (.int .i64 (3)) s267 s268 s269 s270 s271 s272 s273 s274 s275 s276 s277 s278 s279 s280 s281 s282 s283 s284 s285 s286 s287 s288 s289 s290 s291 s292 s293 s294 s295 s296 s297 s298 s299 s300 s301 s302 s303 s304 s305 s306 s307 s308 s309 s310 s311 s312 s313 s314 s315 s316 s317 s318 s319 s320 s321 s322 s323 s324 s325 s326 s327 s328 s329 s330 s331 s332 s333 s334 s335 s336 s337 s338 s339 a' w' → J a' w') (hK : ∀ a' w', Met J a' w' → K a' w')
    (hJE : ∀ a' w', PE W x p n b9 b10 k s0 s1 s2 s3 s6 s8 s30 s31 s32 s33 s34 s35 s36 s37 s38 s39 s40 s41 s42 s43 s44 s45 s46 s47 s48 s49 s50 s51 s52 s53 s54 s55 s56 s57 s58 s59 s60 s61 s62 s63 s64 s65 s66 s67 s68 s69 s70 s71 s72 s73 s74 s75 s76 s77 s78 s79 s80 s329 s330 s331 s332 s333 s334 s335 s336 s337 s338 s339 a' w' → JE a' w') (hKE : ∀ a' w', Met JE a' w' → KE a' w')
    (hQp : RowKit.Hid (∀ c a d v w, Q (.panic c) (a.put d v) w → Q (.panic c) a w)) (k80 : k < 80) (I : I10 h f9 f10 z1 k)
    (A : All10 W wA oA x p n S s h D (40000 + 1000000 * k) b9 f9 b10 f10 v1 z1 (.slice none 0 0) [] (.slice none 0 0) [] ob [.int .i64 (3), .int .i64 key]) (KI : KeyI h D key inB isB cv) :
    Code.wp Tryz.prog cArms (Exit.then K (Exit.inBlock 1 (Exit.then KE Q))) ⟨#[s0, s1, s2, s3, s4, .pointer (some ⟨p, 0, none⟩), s6, .pointer (some ⟨x, 0, none⟩), s8, .pointer (some ⟨b9, 0, none⟩), .pointer (some ⟨b10, 0, none⟩), v1, .int .i64 k, .pointer (some ⟨ob, 0, none⟩), .bool inB, .bool isB, cv, .bool isB, s18, s19, s20, s21, s22, s23, s24, s25, s26, s27, s28, s29, s30, s31, s32, s33, s34, s35, s36, s37, s38, s39, s40, s41, s42, s43, s44, s45, s46, s47, s48, s49, s50, s51, s52, s53, s54, s55, s56, s57, s58, s59, s60, s61, s62, s63, s64, s65, s66, s67, s68, s69, s70, s71, s72, s73, s74, s75, s76, s77, s78, s79, s80, s81, s82, s83, s84, s85, s86, s87, s88, s89, s90, s91, s92, s93, s94, s95, s96, s97, s98, s99, s100, s101, s102, s103, s104, s105, s106, s107, s108, s109, s110, s111, s112, s113, s114, s115, s116, s117, s118, s119, s120, s121, s122, s123, s124, s125, s126, s127, s128, .int .i64 (3), s130, s131, s132, s133, s134, s135, s136, s137, s138, s139, s140, s141, s142, s143, s144, s145, s146, s147, s148, s149, s150, s151, s152, s153, s154, s155, s156, s157, s158, s159, s160, s161, s162, s163, s164, s165, s166, s167, s168, s169, s170, s171, s172, s173, s174, s175, s176, s177, s178, s179, s180, s181, s182, s183, s184, s185, s186, s187, s188, s189, s190, s191, s192, s193, s194, s195, s196, s197, s198, s199, s200, s201, s202, s203, s204, s205, s206, s207, s208, s209, s210, s211, s212, s213, s214, s215, s216, s217, s218, s219, s220, s221, s222, s223, s224, s225, s226, s227, s228, s229, s230, s231, s232, s233, s234, s235, s236, s237, s238, s239, s240, s241, s242, s243, s244, s245, s246, s247, s248, s249, s250, s251, s252, s253, s254, s255, s256, s257, s258, s259, s260, s261, s262, s263, s264, s265, s266, s267, s268, s269, s270, s271, s272, s273, s274, s275, s276, s277, s278, s279, s280, s281, s282, s283, s284, s285, s286, s287, s288, s289, s290, s291, s292, s293, s294, s295, s296, s297, s298, s299, s300, s301, s302, s303, s304, s305, s306, s307, s308, s309, s310, s311, s312, s313, s314, s315, s316, s317, s318, s319, s320, s321, s322, s323, s324, s325, s326, s327, s328, s329, s330, s331, s332, s333, s334, s335, s336, s337, s338, s339], []⟩ wA := by
  have x1 := A.co 1 _ rfl
  have no : isB = false → Code.wp Tryz.prog cArms (Exit.then K (Exit.inBlock 1 (Exit.then KE Q))) ⟨#[s0, s1, s2, s3, s4, .pointer (some ⟨p, 0, none⟩), s6, .pointer (some ⟨x, 0, none⟩), s8, .pointer (some ⟨b9, 0, none⟩), .pointer (some ⟨b10, 0, none⟩), v1, .int .i64 k, .pointer (some ⟨ob, 0, none⟩), .bool inB, .bool isB, cv, .bool isB, s18, s19, s20, s21, s22, s23, s24, s25, s26, s27, s28, s29, s30, s31, s32, s33, s34, s35, s36, s37, s38, s39, s40, s41, s42, s43, s44, s45, s46, s47, s48, s49, s50, s51, s52, s53, s54, s55, s56, s57, s58, s59, s60, s61, s62, s63, s64, s65, s66, s67, s68, s69, s70, s71, s72, s73, s74, s75, s76, s77, s78, s79, s80, s81, s82, s83, s84, s85, s86, s87, s88, s89, s90, s91, s92, s93, s94, s95, s96, s97, s98, s99, s100, s101, s102, s103, s104, s105, s106, s107, s108, s109, s110, s111, s112, s113, s114, s115, s116, s117, s118, s119, s120, s121, s122, s123, s124, s125, s126, s127, s128, .int .i64 (3), s130, s131, s132, s133, s134, s135, s136, s137, s138, s139, s140, s141, s142, s143, s144, s145, s146, s147, s148, s149, s150, s151, s152, s153, s154, s155, s156, s157, s158, s159, s160, s161, s162, s163, s164, s165, s166, s167, s168, s169, s170, s171, s172, s173, s174, s175, s176, s177, s178, s179, s180, s181, s182, s183, s184, s185, s186, s187, s188, s189, s190, s191, s192, s193, s194, s195, s196, s197, s198, s199, s200, s201, s202, s203, s204, s205, s206, s207, s208, s209, s210, s211, s212, s213, s214, s215, s216, s217, s218, s219, s220, s221, s222, s223, s224, s225, s226, s227, s228, s229, s230, s231, s232, s233, s234, s235, s236, s237, s238, s239, s240, s241, s242, s243, s244, s245, s246, s247, s248, s249, s250, s251, s252, s253, s254, s255, s256, s257, s258, s259, s260, s261, s262, s263, s264, s265, s266, s267, s268, s269, s270, s271, s272, s273, s274, s275, s276, s277, s278, s279, s280, s281, s282, s283, s284, s285, s286, s287, s288, s289, s290, s291, s292, s293, s294, s295, s296, s297, s298, s299, s300, s301, s302, s303, s304, s305, s306, s307, s308, s309, s310, s311, s312, s313, s314, s315, s316, s317, s318, s319, s320, s321, s322, s323, s324, s325, s326, s327, s328, s329, s330, s331, s332, s333, s334, s335, s336, s337, s338, s339], []⟩ wA := fun e => by
    subst e
    conv => arg 2; whnf
    dsimp only
    go_wp2
    go_loopg [] 0 (fun m wr => m = 0 ∧ wA = wr)
    case atStart => exact ⟨rfl, rfl⟩
    case round =>
      obtain ⟨rfl, rfl⟩ := hrel
      go_wp2_with fail
      go_meet
      case rel => exact ⟨oA, S, s, h, D, f9, f10, z1, A.up (by omega), I.later (by omega)⟩
  rcases KI with ⟨hk, rfl, rfl, rfl⟩ | ⟨j, rfl, j64, rfl, ⟨hl, rfl, rfl⟩ | ⟨l, q, hl, rfl, rfl, hd⟩⟩
  · exact no rfl
  · exact no rfl
  · clear no
    have q3 : (j : Int).toNat = j := (by omega); have q5 : (0 : Int) ≤ (j : Int) := (by omega); have q6 : (j : Int) < 64 := (by omega)
    have ll := I.len j l hl
    conv => arg 2; whnf
    dsimp only
    go_wp2
    go_loopg [] l.length (fun m wr => ∃ o' S' s' h' f10' l', All10 W wr o' x p n S' s' h' D (40000 + 1000000 * k + 3000 * (l.length - m)) b9 f9 b10 f10' v1 z1 (.slice none 0 0) [] (.slice none 0 0) [] ob [.int .i64 3, .int .i64 (j : Int)] ∧ I10 h' f9 f10' z1 k ∧ h'.ch j = some l' ∧ l'.length = m ∧ m ≤ l.length)
    case atStart => exact ⟨oA, S, s, h, f10, l, A.up (by omega), I, hl, rfl, Nat.le_refl _⟩
    case round =>
      obtain ⟨o', S', s', h', f10', l', B, I', hl', lm, ml⟩ := hrel
      clear A x1
      have x1 := B.co 1 _ rfl
      have e10 := I'.e10 j j64
      rw [hl'] at e10
      have e10 : f10' j = (l'.length : Int) := e10
      have xj := B.t10.cell j j64
      cases l' with
      | nil =>
        have e0 : f10' j = 0 := e10
        rw [e0] at xj
        clear e10 e0
        go_wp2_with fail
        go_meet
        case rel => exact ⟨o', S', s', h', D, f9, f10', z1, B.up (by omega), I'.later (by omega)⟩
      | cons y t =>
        have yb : U64 y := by
          have hy := (B.r.hk.ln j _ hl').live y (by simp)
          obtain ⟨h1, _, h2⟩ := slot_live hy
          have := link_b B.r.ok.p _ h1
          rw [← h2] at this
          exact ⟨by omega, by omega⟩
        have hcu : cutI (y :: t) y = (true, t) := by unfold cutI; rw [if_pos (by simp)]; simp
        have ln : (y :: t).length = t.length + 1 := rfl
        have e0 : f10' j = (t.length : Int) + 1 := by rw [e10]; simp
        have d0 : decide ((0 : Int) < (t.length : Int) + 1) = true := decide_eq_true (by omega)
        rw [e0] at xj
        clear e10
        go_wp2_with fail
        refine (x_head B.r (by omega) j hd (y :: t) hl' y rfl).mono ?_
        rintro e y1 ⟨rfl, S1, s1, e1, C1, k1⟩
        have B := B.step C1 k1
        clear C1 k1 x1 xj
        go_wp2_with fail
        refine (x_cut B.r (by omega) j hd (y :: t) hl' (by omega) y yb _ _ hcu).mono ?_
        rintro e y2 ⟨rfl, S2, s2, e2, C2, k2⟩
        have B := B.step C2 k2
        clear C2 k2 hcu
        have x1 := B.co 1 _ rfl
        have xj := B.t10.cell j j64
        have zj := B.t10.free j
        rw [e0] at xj
        have wj : IntKind.i64.wrap ((t.length : Int) + 1 - 1) = (t.length : Int) := by rw [IntWalk.i64_in _ (by omega)]; omega
        have wj2 : IntKind.i64.wrap (t.length : Int) = (t.length : Int) := IntWalk.i64_in _ (by omega)
        have B := B.set10 j j64 (t.length : Int) (f10' := fun i => if i = j then (t.length : Int) else f10' i) (fun i => rfl)
        clear e0
        go_wp2_with fail
        go_roundg t.length
        case measure => omega
        case rel => exact ⟨_, S2, s2, _, _, t, B.up (by omega), I'.set hl' (Nat.le_refl k) (by omega) rfl, HS.set_at, rfl, by omega⟩
end
end Go.Proofs.YtmfpjnlplimkeaaGreat.hashPlays
/- HashPlays, arm 4 (Drop); conditions: what the parts before it have laid. -/
namespace Go.Proofs.YtmfpjnlplimkeaaGreat.hashPlays
open Go.ChangeShapes Go.WideShapes Go.ChangeAt Go.RowKit
set_option linter.unusedVariables false
def lft (put : List Nat) (j q : Nat) : List Int := ((put.take q).filter (fun i => decide (i ≠ j))).map (fun (i : Nat) => (i : Int))
theorem lft_next {put : List Nat} {j q : Nat} (hq : q < put.length) : lft put j (q + 1) = if put.getD q 0 = j then lft put j q else lft put j q ++ [((put.getD q 0 : Nat) : Int)] := by
  unfold lft
  have e : put.getD q 0 = put[q] := by rw [List.getD_eq_getElem?_getD, List.getElem?_eq_getElem hq]; rfl
  rw [List.take_add_one, List.getElem?_eq_getElem hq, Option.toList_some, List.filter_append, List.map_append, e]
  by_cases h : put[q] = j
  · rw [if_pos h]; simp [h]
  · rw [if_neg h]; simp [h]
section
variable {W wA : World} {oA : Nat → Nat} {x p n : Nat} {S : Nat → Prop} {s : RS} {h : HS} {D : Nat → Nat → Prop} {k b9 b10 : Nat} {f9 : Nat → Bool} {f10 : Nat → Int} {v1 : Value} {z1 : List Int} {ob : Nat} {key : Int} {inB isB : Bool} {cv : Value} {Q : Exit → Act → World → Prop} {J K JE KE : Act → World → Prop}
set_option maxRecDepth 1000000 in
set_option maxHeartbeats 8000000 in
theorem arm4 { s0 s1 s2 s3 s4 s6 s8 s18 s19 s20 s21 s22 s23 s24 s25 s26 s27 s28 s29 s30 s31 s32 s33 s34 s35 s36 s37 s38 s39 s40 s41 s42 s43 s44 s45 s46 s47 s48 s49 s50 s51 s52 s53 s54 s55 s56 s57 s58 s59 s60 s61 s62 s63 s64 s65 s66 s67 s68 s69 s70 s71 s72 s73 s74 s75 s76 s77 s78 s79 s80 s81 s82 s83 s84 s85 s86 s87 s88 s89 s90 s91 s92 s93 s94 s95 s96 s97 s98 s99 s100 s101 s102 s103 s104 s105 s106 s107 s108 s109 s110 s111 s112 s113 s114 s115 s116 s117 s118 s119 s120 s121 s122 s123 s124 s125 s126 s127 s128 s130 s131 s132 s133 s134 s135 s136 s137 s138 s139 s140 s141 s142 s143 s144 s145 s146 s147 s148 s149 s150 s151 s152 s153 s154 s155 s156 s157 s158 s159 s160 s161 s162 s163 s164 s165 s166 s167 s168 s169 s170 s171 s172 s173 s174 s175 s176 s177 s178 s179 s180 s181 s182 s183 s184 s185 s186 s187 s188 s189 s190 s191 s192 s193 s194 s195 s196 s197 s198 s199 s200 s201 s202 s203 s204 s205 s206 s207 s208 s209 s210 s211 s212 s213 s214 s215 s216 s217 s218 s219 s220 s221 s222 s223 s224 s225 s226 s227 s228 s229 s230 s231 s232 s233 s234 s235 s236 s237 s238 s239 s240 s241 s242 s243 s244 s245 s246 s247 s248 s249 s250 s251 s252 s253 s254 s255 s256 s257 s258 s259 s260 s261 s262 s263 s264 s265 s266 s267 s268 s269 s270 s271 s272 s273 s274 s275 s276 s277 s278 s279 s280 s281 s282 s283 s284 s285 s286 s287 s288 s289 s290 s291 s292 s293 s294 s295 s296 s297 s298 s299 s300 s301 s302 s303 s304 s305 s306 s307 s308 s309 s310 s311 s312 s313 s314 s315 s316 s317 s318 s319 s320 s321 s322 s323 s324 s325 s326 s327 s328 s329 s330 s331 s332 s333 s334 s335 s336 s337 s338 s339 : Value}
    (hJ : ∀ a' w', PM W x p n b9 b10 ob (4) key k s0 s1 s2 s3 s6 s8 (.bool inB) (.bool isB) cv (.bool isB) s25 s26 s27 s28 s29 s30 s31 s32 s33 s34 s35 s36 s37 s38 s39 s40 s41 s42 s43 s44 s45 s46 s47 s48 s49 s50 s51 s52 s53 s54 s55 s56 s57 s58 s59 s60 s61 s62 s63 s64 s65 s66 s67 s68 s69 s70 s71 s72 s73 s74 s75 s76 s77 s78 s79 s80 s81 s82 s83 s84 s85 s86 s87 s88 s89 s90 s91 s92 s93 s94 s95 s96 s97 s98 s99 s100 s101 s102 s103 s104 s105 s106 s107 s108 s109 s110 s111 s112 s113 s114 s115 s116 s117 s118 s119 s120 s121 s122 s123 s124 s125 s126 s127 s128 (.int .i64 (4)) s267 s268 s269 s270 s271 s272 s273 s274 s275 s276 s277 s278 s279 s280 s281 s282 s283 s284 s285 s286 s287 s288 s289 s290 s291 s292 s293 s294 s295 s296 s297 s298 s299 s300 s301 s302 s303 s304 s305 s306 s307 s308 s309 s310 s311 s312 s313 s314 s315 s316 s317 s318 s319 s320 s321 s322 s323 s324 s325 s326 s327 s328 s329 s330 s331 s332 s333 s334 s335 s336 s337 s338 s339 a' w' → J a' w') (hK : ∀ a' w', Met J a' w' → K a' w')
    (hJE : ∀ a' w', PE W x p n b9 b10 k s0 s1 s2 s3 s6 s8 s30 s31 s32 s33 s34 s35 s36 s37 s38 s39 s40 s41 s42 s43 s44 s45 s46 s47 s48 s49 s50 s51 s52 s53 s54 s55 s56 s57 s58 s59 s60 s61 s62 s63 s64 s65 s66 s67 s68 s69 s70 s71 s72 s73 s74 s75 s76 s77 s78 s79 s80 s329 s330 s331 s332 s333 s334 s335 s336 s337 s338 s339 a' w' → JE a' w') (hKE : ∀ a' w', Met JE a' w' → KE a' w')
    (hQp : RowKit.Hid (∀ c a d v w, Q (.panic c) (a.put d v) w → Q (.panic c) a w)) (k80 : k < 80) (I : I10 h f9 f10 z1 k)
    (A : All10 W wA oA x p n S s h D (40000 + 1000000 * k) b9 f9 b10 f10 v1 z1 (.slice none 0 0) [] (.slice none 0 0) [] ob [.int .i64 (4), .int .i64 key]) (KI : KeyI h D key inB isB cv) :
    Code.wp Tryz.prog cArms (Exit.then K (Exit.inBlock 1 (Exit.then KE Q))) ⟨#[s0, s1, s2, s3, s4, .pointer (some ⟨p, 0, none⟩), s6, .pointer (some ⟨x, 0, none⟩), s8, .pointer (some ⟨b9, 0, none⟩), .pointer (some ⟨b10, 0, none⟩), v1, .int .i64 k, .pointer (some ⟨ob, 0, none⟩), .bool inB, .bool isB, cv, .bool isB, s18, s19, s20, s21, s22, s23, s24, s25, s26, s27, s28, s29, s30, s31, s32, s33, s34, s35, s36, s37, s38, s39, s40, s41, s42, s43, s44, s45, s46, s47, s48, s49, s50, s51, s52, s53, s54, s55, s56, s57, s58, s59, s60, s61, s62, s63, s64, s65, s66, s67, s68, s69, s70, s71, s72, s73, s74, s75, s76, s77, s78, s79, s80, s81, s82, s83, s84, s85, s86, s87, s88, s89, s90, s91, s92, s93, s94, s95, s96, s97, s98, s99, s100, s101, s102, s103, s104, s105, s106, s107, s108, s109, s110, s111, s112, s113, s114, s115, s116, s117, s118, s119, s120, s121, s122, s123, s124, s125, s126, s127, s128, .int .i64 (4), s130, s131, s132, s133, s134, s135, s136, s137, s138, s139, s140, s141, s142, s143, s144, s145, s146, s147, s148, s149, s150, s151, s152, s153, s154, s155, s156, s157, s158, s159, s160, s161, s162, s163, s164, s165, s166, s167, s168, s169, s170, s171, s172, s173, s174, s175, s176, s177, s178, s179, s180, s181, s182, s183, s184, s185, s186, s187, s188, s189, s190, s191, s192, s193, s194, s195, s196, s197, s198, s199, s200, s201, s202, s203, s204, s205, s206, s207, s208, s209, s210, s211, s212, s213, s214, s215, s216, s217, s218, s219, s220, s221, s222, s223, s224, s225, s226, s227, s228, s229, s230, s231, s232, s233, s234, s235, s236, s237, s238, s239, s240, s241, s242, s243, s244, s245, s246, s247, s248, s249, s250, s251, s252, s253, s254, s255, s256, s257, s258, s259, s260, s261, s262, s263, s264, s265, s266, s267, s268, s269, s270, s271, s272, s273, s274, s275, s276, s277, s278, s279, s280, s281, s282, s283, s284, s285, s286, s287, s288, s289, s290, s291, s292, s293, s294, s295, s296, s297, s298, s299, s300, s301, s302, s303, s304, s305, s306, s307, s308, s309, s310, s311, s312, s313, s314, s315, s316, s317, s318, s319, s320, s321, s322, s323, s324, s325, s326, s327, s328, s329, s330, s331, s332, s333, s334, s335, s336, s337, s338, s339], []⟩ wA := by
  have x1 := A.co 1 _ rfl
  have zl := I.zlen A.r.hk
  have no : isB = false → (key < 0 ∨ 63 < key ∨ h.ch key.toNat = none) → Code.wp Tryz.prog cArms (Exit.then K (Exit.inBlock 1 (Exit.then KE Q))) ⟨#[s0, s1, s2, s3, s4, .pointer (some ⟨p, 0, none⟩), s6, .pointer (some ⟨x, 0, none⟩), s8, .pointer (some ⟨b9, 0, none⟩), .pointer (some ⟨b10, 0, none⟩), v1, .int .i64 k, .pointer (some ⟨ob, 0, none⟩), .bool inB, .bool isB, cv, .bool isB, s18, s19, s20, s21, s22, s23, s24, s25, s26, s27, s28, s29, s30, s31, s32, s33, s34, s35, s36, s37, s38, s39, s40, s41, s42, s43, s44, s45, s46, s47, s48, s49, s50, s51, s52, s53, s54, s55, s56, s57, s58, s59, s60, s61, s62, s63, s64, s65, s66, s67, s68, s69, s70, s71, s72, s73, s74, s75, s76, s77, s78, s79, s80, s81, s82, s83, s84, s85, s86, s87, s88, s89, s90, s91, s92, s93, s94, s95, s96, s97, s98, s99, s100, s101, s102, s103, s104, s105, s106, s107, s108, s109, s110, s111, s112, s113, s114, s115, s116, s117, s118, s119, s120, s121, s122, s123, s124, s125, s126, s127, s128, .int .i64 (4), s130, s131, s132, s133, s134, s135, s136, s137, s138, s139, s140, s141, s142, s143, s144, s145, s146, s147, s148, s149, s150, s151, s152, s153, s154, s155, s156, s157, s158, s159, s160, s161, s162, s163, s164, s165, s166, s167, s168, s169, s170, s171, s172, s173, s174, s175, s176, s177, s178, s179, s180, s181, s182, s183, s184, s185, s186, s187, s188, s189, s190, s191, s192, s193, s194, s195, s196, s197, s198, s199, s200, s201, s202, s203, s204, s205, s206, s207, s208, s209, s210, s211, s212, s213, s214, s215, s216, s217, s218, s219, s220, s221, s222, s223, s224, s225, s226, s227, s228, s229, s230, s231, s232, s233, s234, s235, s236, s237, s238, s239, s240, s241, s242, s243, s244, s245, s246, s247, s248, s249, s250, s251, s252, s253, s254, s255, s256, s257, s258, s259, s260, s261, s262, s263, s264, s265, s266, s267, s268, s269, s270, s271, s272, s273, s274, s275, s276, s277, s278, s279, s280, s281, s282, s283, s284, s285, s286, s287, s288, s289, s290, s291, s292, s293, s294, s295, s296, s297, s298, s299, s300, s301, s302, s303, s304, s305, s306, s307, s308, s309, s310, s311, s312, s313, s314, s315, s316, s317, s318, s319, s320, s321, s322, s323, s324, s325, s326, s327, s328, s329, s330, s331, s332, s333, s334, s335, s336, s337, s338, s339], []⟩ wA := fun e hk => by
    subst e
    conv => arg 2; whnf
    dsimp only
    go_wp2_with fail
    refine (x_drop_no A.r (by omega) key (by rcases hk with h | h | h; exact .inl h; exact .inr (.inl h); exact .inr (.inr (.inl h))) (fun l hl => Nat.le_trans (I.len _ l hl) (by omega))).mono ?_
    rintro e y1 ⟨S1, s1, rfl, e1, C1, k1⟩
    have A := A.step C1 k1
    clear C1 k1 x1
    go_wp2_with fail
    go_meet
    case rel => exact ⟨_, S1, s1, h, D, f9, f10, z1, A.up (by omega), I.later (by omega)⟩
  rcases KI with ⟨hk, rfl, rfl, rfl⟩ | ⟨j, rfl, j64, rfl, ⟨hl, rfl, rfl⟩ | ⟨l, q, hl, rfl, rfl, hd⟩⟩
  · exact no rfl (by omega)
  · exact no rfl (.inr (.inr (by rw [show (j : Int).toNat = j by omega]; exact hl)))
  · clear no
    have q3 : (j : Int).toNat = j := (by omega); have q5 : (0 : Int) ≤ (j : Int) := (by omega); have q6 : (j : Int) < 64 := (by omega)
    have ll := I.len j l hl
    have e10 := I.e10 j j64
    rw [hl] at e10
    have e10 : f10 j = (l.length : Int) := e10
    have xj := A.t10.cell j j64
    conv => arg 2; whnf
    dsimp only
    cases l with
    | cons y t =>
      have e0 : f10 j = (t.length : Int) + 1 := by rw [e10]; simp
      rw [e0] at xj
      have d0 : ((t.length : Int) + 1 == 0) = false := by rw [beq_eq_false_iff_ne]; omega
      clear e10 e0
      go_wp2_with fail
      refine (x_drop_no A.r (by omega) (j : Int) (.inr (.inr (.inr ⟨y, t, by rw [q3]; exact hl⟩))) (fun l hl => Nat.le_trans (I.len _ l hl) (by omega))).mono ?_
      rintro e y1 ⟨S1, s1, rfl, e1, C1, k1⟩
      have A := A.step C1 k1
      clear C1 k1 x1 xj
      go_wp2_with fail
      go_meet
      case rel => exact ⟨_, S1, s1, h, D, f9, f10, z1, A.up (by omega), I.later (by omega)⟩
    | nil =>
      have e0 : f10 j = 0 := e10
      rw [e0] at xj
      clear e10 e0
      go_wp2_with fail
      refine (x_drop_yes A.r (by omega) j hl).mono ?_
      rintro e y1 ⟨S1, s1, rfl, e1, C1, k1⟩
      have A := A.step C1 k1
      clear C1 k1 x1 xj
      have x1 := A.co 1 _ rfl
      have x9 := A.t9.cell j j64
      have z9 := A.t9.free j
      have A := A.set9 j j64 false (f9' := fun i => if i = j then false else f9 i) (fun i => rfl)
      have x1b := A.co 1 _ rfl
      obtain ⟨A1, c1, ev, hA0, hA1⟩ := OwnN.out A.a1
      subst ev
      have zp : z1.length = h.put.length := by rw [I.ez, List.length_map]
      have zg : ∀ i, i < z1.length → z1.getD i 0 = ((h.put.getD i 0 : Nat) : Int) := fun i hi => by
        rw [I.ez, List.getD_eq_getElem?_getD, List.getElem?_map, List.getD_eq_getElem?_getD, List.getElem?_eq_getElem (by omega)]
        rfl
      have ZP := Lib.hid zp
      clear zp
      go_upto_region 49 with fail
      go_loopg [23, 24] z1.length (fun m v i wr => ∃ o' q', m + q' = z1.length ∧ i = .int .i64 q' ∧ All10 W wr o' x p n S1 s1 (h.drop j) (less D j) (41000 + 1000000 * k) b9 (fun i => if i = j then false else f9 i) b10 f10 (.slice A1 z1.length c1) z1 v (lft h.put j q') (.slice none 0 0) [] ob [.int .i64 4, .int .i64 (j : Int)])
      case atStart => exact ⟨_, 0, rfl, rfl, by have := A.up (m := 41000 + 1000000 * k) (by omega); exact this⟩
      case round =>
        obtain ⟨o', q', hq, rfl, B⟩ := hrel
        clear A x1 x1b x9 z9
        obtain ⟨A2, c2, ev2, _, _⟩ := OwnN.out B.a2
        subst ev2
        have x1 := B.co 1 _ rfl
        by_cases hlt : q' < z1.length
        · cases A1 with
          | none => exact absurd (hA0 rfl) (by intro e; rw [e] at hlt; simp at hlt)
          | some ad =>
            obtain ⟨g1, rfl⟩ := hA1 _ rfl
            have cq := OwnN.cell B.a1 q' hlt
            have ln := lft_next (put := h.put) (j := j) (q := q') (by have := ZP.out; omega)
            rw [zg q' hlt] at cq
            obtain ⟨y, ey⟩ : ∃ y, h.put.getD q' 0 = y := ⟨_, rfl⟩
            rw [ey] at cq ln
            have wq : IntKind.i64.wrap ((q' : Int) + 1) = (q' : Int) + 1 := IntWalk.i64_in _ (by omega)
            have gq : ¬ (q' : Int) < 0 := by omega
            clear ey zg hA0 hA1
            by_cases hy : y = j
            · have b1 : ((y : Int) != (j : Int)) = false := by rw [hy]; simp
              rw [if_pos hy] at ln
              clear hy
              go_wp2_with fail
              go_quiet (fail)
              go_wp2
              go_roundg (z1.length - (q' + 1))
              case measure => omega
              case rel => exact ⟨_, q' + 1, by omega, by go_num, by rw [ln]; exact (B.quiet (drewN_keep (fun _ => False) _ _))⟩
            · have b1 : ((y : Int) != (j : Int)) = true := by simp; omega
              rw [if_neg hy] at ln
              clear hy
              have ll2 : (lft h.put j q').length ≤ 100000 := by unfold lft; rw [List.length_map]; exact Nat.le_trans (List.length_filter_le _ _) (by rw [List.length_take]; have := ZP.out; omega)
              go_wp2_with fail
              go_quiet (fail)
              have B := B.quiet (drewN_keep (fun _ => False) _ nq)
              have cq := (drewN_keep (fun _ => False) _ nq).cell cq (by simp)
              go_wp2_with (with_reducible refine wp_stop 265 rfl ?_)
              intro _
              refine wp_pushN rfl (.tmp 259) (.tmp 264) rfl W.heap.size B.r.b.size (.slice A2 (lft h.put j q').length c2) (lft h.put j q') rfl B.a2 (y : Int) rfl ll2 ?_
              intro g3 c3 y3 o3 k3 hg3
              have B := (B.rot.push o3 k3 hg3).rot.rot
              clear o3 k3 hg3
              go_wp2_with fail
              go_roundg (z1.length - (q' + 1))
              case measure => omega
              case rel => exact ⟨_, q' + 1, by omega, by go_num, by rw [ln]; exact B⟩
        · obtain rfl : q' = z1.length := by omega
          have el : lft h.put j z1.length = (h.put.filter (fun i => decide (i ≠ j))).map (fun (i : Nat) => (i : Int)) := by unfold lft; rw [ZP.out, List.take_length]
          have HI := I.drop hl
          rw [← el] at HI
          clear zg hA0 hA1 el
          go_wp2_with fail
          go_meet
          case rel => exact ⟨_, S1, s1, h.drop j, less D j, _, f10, _, B.nil1.rot.up (by show 41000 + 1000000 * k ≤ 500000 + 1000000 * k; omega), HI.later (by omega)⟩
end
end Go.Proofs.YtmfpjnlplimkeaaGreat.hashPlays
/- HashPlays, the other kinds; conditions: what the parts before it have laid. -/
namespace Go.Proofs.YtmfpjnlplimkeaaGreat.hashPlays
open Go.ChangeShapes Go.WideShapes Go.ChangeAt Go.RowKit
set_option linter.unusedVariables false
section
variable {W wA : World} {oA : Nat → Nat} {x p n : Nat} {S : Nat → Prop} {s : RS} {h : HS} {D : Nat → Nat → Prop} {k b9 b10 : Nat} {f9 : Nat → Bool} {f10 : Nat → Int} {v1 : Value} {z1 : List Int} {ob : Nat} {key : Int} {inB isB : Bool} {cv : Value} {Q : Exit → Act → World → Prop} {J K JE KE : Act → World → Prop}
set_option maxRecDepth 1000000 in
set_option maxHeartbeats 8000000 in
theorem armN {kd : Int} { s0 s1 s2 s3 s4 s6 s8 s18 s19 s20 s21 s22 s23 s24 s25 s26 s27 s28 s29 s30 s31 s32 s33 s34 s35 s36 s37 s38 s39 s40 s41 s42 s43 s44 s45 s46 s47 s48 s49 s50 s51 s52 s53 s54 s55 s56 s57 s58 s59 s60 s61 s62 s63 s64 s65 s66 s67 s68 s69 s70 s71 s72 s73 s74 s75 s76 s77 s78 s79 s80 s81 s82 s83 s84 s85 s86 s87 s88 s89 s90 s91 s92 s93 s94 s95 s96 s97 s98 s99 s100 s101 s102 s103 s104 s105 s106 s107 s108 s109 s110 s111 s112 s113 s114 s115 s116 s117 s118 s119 s120 s121 s122 s123 s124 s125 s126 s127 s128 s130 s131 s132 s133 s134 s135 s136 s137 s138 s139 s140 s141 s142 s143 s144 s145 s146 s147 s148 s149 s150 s151 s152 s153 s154 s155 s156 s157 s158 s159 s160 s161 s162 s163 s164 s165 s166 s167 s168 s169 s170 s171 s172 s173 s174 s175 s176 s177 s178 s179 s180 s181 s182 s183 s184 s185 s186 s187 s188 s189 s190 s191 s192 s193 s194 s195 s196 s197 s198 s199 s200 s201 s202 s203 s204 s205 s206 s207 s208 s209 s210 s211 s212 s213 s214 s215 s216 s217 s218 s219 s220 s221 s222 s223 s224 s225 s226 s227 s228 s229 s230 s231 s232 s233 s234 s235 s236 s237 s238 s239 s240 s241 s242 s243 s244 s245 s246 s247 s248 s249 s250 s251 s252 s253 s254 s255 s256 s257 s258 s259 s260 s261 s262 s263 s264 s265 s266 s267 s268 s269 s270 s271 s272 s273 s274 s275 s276 s277 s278 s279 s280 s281 s282 s283 s284 s285 s286 s287 s288 s289 s290 s291 s292 s293 s294 s295 s296 s297 s298 s299 s300 s301 s302 s303 s304 s305 s306 s307 s308 s309 s310 s311 s312 s313 s314 s315 s316 s317 s318 s319 s320 s321 s322 s323 s324 s325 s326 s327 s328 s329 s330 s331 s332 s333 s334 s335 s336 s337 s338 s339 : Value}
    (hJ : ∀ a' w', PM W x p n b9 b10 ob (kd) key k s0 s1 s2 s3 s6 s8 (.bool inB) (.bool isB) cv (.bool isB) s25 s26 s27 s28 s29 s30 s31 s32 s33 s34 s35 s36 s37 s38 s39 s40 s41 s42 s43 s44 s45 s46 s47 s48 s49 s50 s51 s52 s53 s54 s55 s56 s57 s58 s59 s60 s61 s62 s63 s64 s65 s66 s67 s68 s69 s70 s71 s72 s73 s74 s75 s76 s77 s78 s79 s80 s81 s82 s83 s84 s85 s86 s87 s88 s89 s90 s91 s92 s93 s94 s95 s96 s97 s98 s99 s100 s101 s102 s103 s104 s105 s106 s107 s108 s109 s110 s111 s112 s113 s114 s115 s116 s117 s118 s119 s120 s121 s122 s123 s124 s125 s126 s127 s128 (.int .i64 (kd)) s267 s268 s269 s270 s271 s272 s273 s274 s275 s276 s277 s278 s279 s280 s281 s282 s283 s284 s285 s286 s287 s288 s289 s290 s291 s292 s293 s294 s295 s296 s297 s298 s299 s300 s301 s302 s303 s304 s305 s306 s307 s308 s309 s310 s311 s312 s313 s314 s315 s316 s317 s318 s319 s320 s321 s322 s323 s324 s325 s326 s327 s328 s329 s330 s331 s332 s333 s334 s335 s336 s337 s338 s339 a' w' → J a' w') (hK : ∀ a' w', Met J a' w' → K a' w')
    (hJE : ∀ a' w', PE W x p n b9 b10 k s0 s1 s2 s3 s6 s8 s30 s31 s32 s33 s34 s35 s36 s37 s38 s39 s40 s41 s42 s43 s44 s45 s46 s47 s48 s49 s50 s51 s52 s53 s54 s55 s56 s57 s58 s59 s60 s61 s62 s63 s64 s65 s66 s67 s68 s69 s70 s71 s72 s73 s74 s75 s76 s77 s78 s79 s80 s329 s330 s331 s332 s333 s334 s335 s336 s337 s338 s339 a' w' → JE a' w') (hKE : ∀ a' w', Met JE a' w' → KE a' w')
    (hQp : RowKit.Hid (∀ c a d v w, Q (.panic c) (a.put d v) w → Q (.panic c) a w)) (k80 : k < 80) (I : I10 h f9 f10 z1 k)
    (A : All10 W wA oA x p n S s h D (40000 + 1000000 * k) b9 f9 b10 f10 v1 z1 (.slice none 0 0) [] (.slice none 0 0) [] ob [.int .i64 (kd), .int .i64 key]) (hkd : ¬ (kd = 0 ∨ kd = 2 ∨ kd = 3 ∨ kd = 4)) (KI : KeyI h D key inB isB cv) :
    Code.wp Tryz.prog cArms (Exit.then K (Exit.inBlock 1 (Exit.then KE Q))) ⟨#[s0, s1, s2, s3, s4, .pointer (some ⟨p, 0, none⟩), s6, .pointer (some ⟨x, 0, none⟩), s8, .pointer (some ⟨b9, 0, none⟩), .pointer (some ⟨b10, 0, none⟩), v1, .int .i64 k, .pointer (some ⟨ob, 0, none⟩), .bool inB, .bool isB, cv, .bool isB, s18, s19, s20, s21, s22, s23, s24, s25, s26, s27, s28, s29, s30, s31, s32, s33, s34, s35, s36, s37, s38, s39, s40, s41, s42, s43, s44, s45, s46, s47, s48, s49, s50, s51, s52, s53, s54, s55, s56, s57, s58, s59, s60, s61, s62, s63, s64, s65, s66, s67, s68, s69, s70, s71, s72, s73, s74, s75, s76, s77, s78, s79, s80, s81, s82, s83, s84, s85, s86, s87, s88, s89, s90, s91, s92, s93, s94, s95, s96, s97, s98, s99, s100, s101, s102, s103, s104, s105, s106, s107, s108, s109, s110, s111, s112, s113, s114, s115, s116, s117, s118, s119, s120, s121, s122, s123, s124, s125, s126, s127, s128, .int .i64 (kd), s130, s131, s132, s133, s134, s135, s136, s137, s138, s139, s140, s141, s142, s143, s144, s145, s146, s147, s148, s149, s150, s151, s152, s153, s154, s155, s156, s157, s158, s159, s160, s161, s162, s163, s164, s165, s166, s167, s168, s169, s170, s171, s172, s173, s174, s175, s176, s177, s178, s179, s180, s181, s182, s183, s184, s185, s186, s187, s188, s189, s190, s191, s192, s193, s194, s195, s196, s197, s198, s199, s200, s201, s202, s203, s204, s205, s206, s207, s208, s209, s210, s211, s212, s213, s214, s215, s216, s217, s218, s219, s220, s221, s222, s223, s224, s225, s226, s227, s228, s229, s230, s231, s232, s233, s234, s235, s236, s237, s238, s239, s240, s241, s242, s243, s244, s245, s246, s247, s248, s249, s250, s251, s252, s253, s254, s255, s256, s257, s258, s259, s260, s261, s262, s263, s264, s265, s266, s267, s268, s269, s270, s271, s272, s273, s274, s275, s276, s277, s278, s279, s280, s281, s282, s283, s284, s285, s286, s287, s288, s289, s290, s291, s292, s293, s294, s295, s296, s297, s298, s299, s300, s301, s302, s303, s304, s305, s306, s307, s308, s309, s310, s311, s312, s313, s314, s315, s316, s317, s318, s319, s320, s321, s322, s323, s324, s325, s326, s327, s328, s329, s330, s331, s332, s333, s334, s335, s336, s337, s338, s339], []⟩ wA := by
  have q0 : (kd == 0) = false := by rw [beq_eq_false_iff_ne]; omega
  have q2 : (kd == 2) = false := by rw [beq_eq_false_iff_ne]; omega
  have q3 : (kd == 3) = false := by rw [beq_eq_false_iff_ne]; omega
  have q4 : (kd == 4) = false := by rw [beq_eq_false_iff_ne]; omega
  conv => arg 2; whnf
  dsimp only
  go_wp2_with fail
  go_meet
  case rel => exact ⟨oA, S, s, h, D, f9, f10, z1, A.up (by omega), I.later (by omega)⟩
end
end Go.Proofs.YtmfpjnlplimkeaaGreat.hashPlays
