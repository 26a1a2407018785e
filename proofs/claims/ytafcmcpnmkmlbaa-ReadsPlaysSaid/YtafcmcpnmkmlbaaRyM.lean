/- ReadsPlays: the switch over an op's kind; conditions: what the parts before it have laid. -/
import Derived.Test.YtafcmcpnmkmlbaaRyS
namespace Go.Proofs.Ytafcmcpnmkmlbaa.readsPlays
open Go.ChangeShapes Go.WideShapes Go.ChangeAt Go.RowKit
set_option linter.unusedVariables false
theorem span_cases {s : RdS} {lo hi : Int} {z : List Int} {r : Int} {s' : RdS} (h : s.span lo hi z = (r, s')) :
    (r = 1 ∧ s' = s ∧ (lo < 0 ∨ 63 < lo ∨ hi < lo ∨ 63 < hi)) ∨ (r = 65 ∧ s' = s ∧ 0 ≤ lo ∧ lo ≤ hi ∧ hi ≤ 63 ∧ 64 ≤ s.scans.length) ∨
    (r = 0 ∧ s' = { s with scans := s.scans ++ [⟨lo, hi, z⟩] } ∧ 0 ≤ lo ∧ lo ≤ hi ∧ hi ≤ 63 ∧ s.scans.length < 64) := by
  unfold RdS.span at h
  split at h
  · cases h; exact .inl ⟨rfl, rfl, by omega⟩
  · split at h
    · cases h; exact .inr (.inl ⟨rfl, rfl, by omega, by omega, by omega, by assumption⟩)
    · cases h; exact .inr (.inr ⟨rfl, rfl, by omega, by omega, by omega, by omega⟩)
section
variable {W wA : World} {oA : Nat → Nat} {t : Nat} {S : Nat → Prop} {s : RdS} {v1 v2 v3 : Value} {z1 z2 : List Int} {z3 : List ScV} {k ob : Nat} {lo hi link : Int} {xv : Value} {xz : List Int} {inB : Bool} {Q : Exit → Act → World → Prop} {J K : Act → World → Prop}
set_option maxRecDepth 1000000 in
set_option maxHeartbeats 8000000 in
theorem arm0a { s0 s1 s2 s3 s4 s9 s12 s13 s14 s15 s16 s17 s18 s19 s20 s21 s22 s23 s24 s25 s26 s27 s28 s29 s30 s31 s32 s33 s34 s35 s36 s37 s38 s39 s40 s41 s42 s43 s44 s45 s46 s47 s48 s49 s50 s51 s52 s53 s54 s55 s57 s58 s59 s60 s61 s62 s63 s64 s65 s66 s67 s68 s69 s70 s71 s72 s73 s74 s75 s76 s77 s78 s79 s80 s81 s82 s83 s84 s85 s86 s87 s88 s89 s90 s91 s92 s93 s94 s95 s96 s97 s98 s99 s100 s101 s102 s103 s104 s105 s106 s107 s108 s109 s110 s111 s112 s113 s114 s115 s116 s117 s118 s119 s120 s121 s122 s123 s124 s125 s126 s127 s128 s129 s130 s131 s132 s133 s134 s135 s136 s137 s138 s139 s140 s141 s142 s143 s144 s145 s146 s147 s148 s149 s150 s151 s152 s153 s154 s155 s156 s157 s158 s159 s160 s161 s162 s163 s164 s165 s166 s167 s168 s169 s170 s171 s172 s173 s174 s175 s176 s177 s178 s179 s180 s181 s182 s183 s184 s185 s186 s187 s188 s189 s190 s191 s192 s193 s194 s195 s196 s197 s198 s199 s200 s201 s202 s203 s204 s205 s206 s207 s208 s209 s210 s211 s212 s213 s214 s215 s216 s217 s218 s219 s220 s221 s222 s223 s224 s225 s226 s227 s228 s229 s230 s231 s232 s233 s234 s235 s236 s237 s238 s239 s240 s241 s242 s243 s244 s245 s246 s247 s248 s249 s250 s251 s252 s253 s254 s255 s256 s257 s258 s259 s260 s261 s262 s263 s264 s265 s266 s267 s268 s269 s270 s271 s272 s273 s274 s275 s276 s277 : Value}
    (hJ : ∀ a' w', PM W t k s0 s1 s2 s3 s9 (.pointer (some ⟨ob, 0, none⟩)) (.bool inB) s15 s16 s17 s18 s19 s20 s21 s22 s23 s24 s25 s26 s27 s28 s29 s30 s31 s32 s33 s34 s35 s36 s37 s38 s39 s40 s41 s42 s43 s44 s45 s46 s47 s48 s49 s50 s51 s52 s53 s54 s55 (.int .i64 0) s142 s143 s144 s145 s146 s147 s148 s149 s150 s151 s152 s153 s154 s155 s156 s157 s158 s159 s160 s161 s162 s163 s164 s165 s166 s167 s168 s169 s170 s171 s172 s173 s174 s175 s176 s177 s178 s179 s180 s181 s182 s183 s184 s185 s186 s187 s188 s189 s190 s191 s192 s193 s194 s195 s196 s197 s198 s199 s200 s201 s202 s203 s204 s205 s206 s207 s208 s209 s210 s211 s212 s213 s214 s215 s216 s217 s218 s219 s220 s221 s222 s223 s224 s225 s226 s227 s228 s229 s230 s231 s232 s233 s234 s235 s236 s237 s238 s239 s240 s241 s242 s243 s244 s245 s246 s247 s248 s249 s250 s251 s252 s253 s254 s255 s256 s257 s258 s259 s260 s261 s262 s263 s264 s265 s266 s267 s268 s269 s270 s271 s272 s273 s274 s275 s276 s277 a' w' → J a' w') (hK : ∀ a' w', Met J a' w' → K a' w')
    (A : All13 W wA oA t S s v1 z1 v2 z2 v3 z3 ob [.int .i64 0, .int .i64 lo, .int .i64 hi, .int .u64 link, xv]) (I : I13 W s z1 z2 z3 k) (k120 : k < 120) (ul : U64 link) (hin : lo < 0 ∨ 63 < lo) (eB : inB = false) :
    Code.wp Try.prog cSw (Exit.then K Q) ⟨#[s0, s1, s2, s3, s4, .pointer (some ⟨t, 0, none⟩), v1, v2, v3, s9, .pointer (some ⟨ob, 0, none⟩), .bool inB, s12, s13, s14, s15, s16, s17, s18, s19, s20, s21, s22, s23, s24, s25, s26, s27, s28, s29, s30, s31, s32, s33, s34, s35, s36, s37, s38, s39, s40, s41, s42, s43, s44, s45, s46, s47, s48, s49, s50, s51, s52, s53, s54, s55, .int .i64 0, s57, s58, s59, s60, s61, s62, s63, s64, s65, s66, s67, s68, s69, s70, s71, s72, s73, s74, s75, s76, s77, s78, s79, s80, s81, s82, s83, s84, s85, s86, s87, s88, s89, s90, s91, s92, s93, s94, s95, s96, s97, s98, s99, s100, s101, s102, s103, s104, s105, s106, s107, s108, s109, s110, s111, s112, s113, s114, s115, s116, s117, s118, s119, s120, s121, s122, s123, s124, s125, s126, s127, s128, s129, s130, s131, s132, s133, s134, s135, s136, s137, s138, s139, s140, s141, s142, s143, s144, s145, s146, s147, s148, s149, s150, s151, s152, s153, s154, s155, s156, s157, s158, s159, s160, s161, s162, s163, s164, s165, s166, s167, s168, s169, s170, s171, s172, s173, s174, s175, s176, s177, s178, s179, s180, s181, s182, s183, s184, s185, s186, s187, s188, s189, s190, s191, s192, s193, s194, s195, s196, s197, s198, s199, s200, s201, s202, s203, s204, s205, s206, s207, s208, s209, s210, s211, s212, s213, s214, s215, s216, s217, s218, s219, s220, s221, s222, s223, s224, s225, s226, s227, s228, s229, s230, s231, s232, s233, s234, s235, s236, s237, s238, s239, s240, s241, s242, s243, s244, s245, s246, s247, s248, s249, s250, s251, s252, s253, s254, s255, s256, s257, s258, s259, s260, s261, s262, s263, s264, s265, s266, s267, s268, s269, s270, s271, s272, s273, s274, s275, s276, s277], []⟩ wA := by
  subst eB
  have x1 := A.co 1 _ rfl
  have x3 := A.co 3 _ rfl
  have hs : s.add lo link = (1, s) := by unfold RdS.add; rw [if_pos hin]
  have n1 := I.n1
  conv => arg 2; whnf
  dsimp only
  go_wp2_with fail
  refine (rd_add A.r lo link ul _ _ hs).mono ?_
  rintro e w1 ⟨rfl, S1, C1, k1⟩
  have A := A.step C1 k1
  clear C1 k1 x1 x3 hs
  go_upto_block 3 with fail
  rename_i Ka hKa
  go_cut [12] from 68 to 83 (fun v wx => v = .bool (decide (lo ∈ z1)) ∧ ∃ d : Nat, wx = w1.drewN d)
  case first =>
    rename_i J6 K6 hJ6 hK6
    exact oldLoop hJ6 hK6 A.a1 (by omega) (A.co 1 _ rfl)
  case rest =>
  obtain ⟨rfl, d, rfl⟩ := hcut
  have A := A.quiet (drewN_keep (fun _ => False) w1 d)
  go_wp2_with fail
  go_meet
  case rel => exact ⟨_, S1, _, z1, z2, z3, A.noop, I.up (by omega)⟩
set_option maxRecDepth 1000000 in
set_option maxHeartbeats 8000000 in
theorem arm0b { s0 s1 s2 s3 s4 s9 s12 s13 s14 s15 s16 s17 s18 s19 s20 s21 s22 s23 s24 s25 s26 s27 s28 s29 s30 s31 s32 s33 s34 s35 s36 s37 s38 s39 s40 s41 s42 s43 s44 s45 s46 s47 s48 s49 s50 s51 s52 s53 s54 s55 s57 s58 s59 s60 s61 s62 s63 s64 s65 s66 s67 s68 s69 s70 s71 s72 s73 s74 s75 s76 s77 s78 s79 s80 s81 s82 s83 s84 s85 s86 s87 s88 s89 s90 s91 s92 s93 s94 s95 s96 s97 s98 s99 s100 s101 s102 s103 s104 s105 s106 s107 s108 s109 s110 s111 s112 s113 s114 s115 s116 s117 s118 s119 s120 s121 s122 s123 s124 s125 s126 s127 s128 s129 s130 s131 s132 s133 s134 s135 s136 s137 s138 s139 s140 s141 s142 s143 s144 s145 s146 s147 s148 s149 s150 s151 s152 s153 s154 s155 s156 s157 s158 s159 s160 s161 s162 s163 s164 s165 s166 s167 s168 s169 s170 s171 s172 s173 s174 s175 s176 s177 s178 s179 s180 s181 s182 s183 s184 s185 s186 s187 s188 s189 s190 s191 s192 s193 s194 s195 s196 s197 s198 s199 s200 s201 s202 s203 s204 s205 s206 s207 s208 s209 s210 s211 s212 s213 s214 s215 s216 s217 s218 s219 s220 s221 s222 s223 s224 s225 s226 s227 s228 s229 s230 s231 s232 s233 s234 s235 s236 s237 s238 s239 s240 s241 s242 s243 s244 s245 s246 s247 s248 s249 s250 s251 s252 s253 s254 s255 s256 s257 s258 s259 s260 s261 s262 s263 s264 s265 s266 s267 s268 s269 s270 s271 s272 s273 s274 s275 s276 s277 : Value}
    (hJ : ∀ a' w', PM W t k s0 s1 s2 s3 s9 (.pointer (some ⟨ob, 0, none⟩)) (.bool inB) s15 s16 s17 s18 s19 s20 s21 s22 s23 s24 s25 s26 s27 s28 s29 s30 s31 s32 s33 s34 s35 s36 s37 s38 s39 s40 s41 s42 s43 s44 s45 s46 s47 s48 s49 s50 s51 s52 s53 s54 s55 (.int .i64 0) s142 s143 s144 s145 s146 s147 s148 s149 s150 s151 s152 s153 s154 s155 s156 s157 s158 s159 s160 s161 s162 s163 s164 s165 s166 s167 s168 s169 s170 s171 s172 s173 s174 s175 s176 s177 s178 s179 s180 s181 s182 s183 s184 s185 s186 s187 s188 s189 s190 s191 s192 s193 s194 s195 s196 s197 s198 s199 s200 s201 s202 s203 s204 s205 s206 s207 s208 s209 s210 s211 s212 s213 s214 s215 s216 s217 s218 s219 s220 s221 s222 s223 s224 s225 s226 s227 s228 s229 s230 s231 s232 s233 s234 s235 s236 s237 s238 s239 s240 s241 s242 s243 s244 s245 s246 s247 s248 s249 s250 s251 s252 s253 s254 s255 s256 s257 s258 s259 s260 s261 s262 s263 s264 s265 s266 s267 s268 s269 s270 s271 s272 s273 s274 s275 s276 s277 a' w' → J a' w') (hK : ∀ a' w', Met J a' w' → K a' w')
    (A : All13 W wA oA t S s v1 z1 v2 z2 v3 z3 ob [.int .i64 0, .int .i64 lo, .int .i64 hi, .int .u64 link, xv]) (I : I13 W s z1 z2 z3 k) (k120 : k < 120) (ul : U64 link) (hin : 0 ≤ lo ∧ lo ≤ 63) (eB : inB = true) :
    Code.wp Try.prog cSw (Exit.then K Q) ⟨#[s0, s1, s2, s3, s4, .pointer (some ⟨t, 0, none⟩), v1, v2, v3, s9, .pointer (some ⟨ob, 0, none⟩), .bool inB, s12, s13, s14, s15, s16, s17, s18, s19, s20, s21, s22, s23, s24, s25, s26, s27, s28, s29, s30, s31, s32, s33, s34, s35, s36, s37, s38, s39, s40, s41, s42, s43, s44, s45, s46, s47, s48, s49, s50, s51, s52, s53, s54, s55, .int .i64 0, s57, s58, s59, s60, s61, s62, s63, s64, s65, s66, s67, s68, s69, s70, s71, s72, s73, s74, s75, s76, s77, s78, s79, s80, s81, s82, s83, s84, s85, s86, s87, s88, s89, s90, s91, s92, s93, s94, s95, s96, s97, s98, s99, s100, s101, s102, s103, s104, s105, s106, s107, s108, s109, s110, s111, s112, s113, s114, s115, s116, s117, s118, s119, s120, s121, s122, s123, s124, s125, s126, s127, s128, s129, s130, s131, s132, s133, s134, s135, s136, s137, s138, s139, s140, s141, s142, s143, s144, s145, s146, s147, s148, s149, s150, s151, s152, s153, s154, s155, s156, s157, s158, s159, s160, s161, s162, s163, s164, s165, s166, s167, s168, s169, s170, s171, s172, s173, s174, s175, s176, s177, s178, s179, s180, s181, s182, s183, s184, s185, s186, s187, s188, s189, s190, s191, s192, s193, s194, s195, s196, s197, s198, s199, s200, s201, s202, s203, s204, s205, s206, s207, s208, s209, s210, s211, s212, s213, s214, s215, s216, s217, s218, s219, s220, s221, s222, s223, s224, s225, s226, s227, s228, s229, s230, s231, s232, s233, s234, s235, s236, s237, s238, s239, s240, s241, s242, s243, s244, s245, s246, s247, s248, s249, s250, s251, s252, s253, s254, s255, s256, s257, s258, s259, s260, s261, s262, s263, s264, s265, s266, s267, s268, s269, s270, s271, s272, s273, s274, s275, s276, s277], []⟩ wA := by
  subst eB
  have x1 := A.co 1 _ rfl
  have x3 := A.co 3 _ rfl
  have n1 := I.n1
  have n2 : z2.length ≤ 120 := by rw [I.n2]; omega
  obtain ⟨s', hs, hI⟩ : ∃ s', s.add lo link = (0, s') ∧ ((lo ∈ z1 ∧ s' = s) ∨ (lo ∉ z1 ∧ s' = { s with keys := s.keys ++ [lo], links := s.links ++ [link] })) := by
    unfold RdS.add
    rw [if_neg (by omega), ← I.e1]
    by_cases hm : lo ∈ z1
    · rw [if_pos hm]; exact ⟨_, rfl, .inl ⟨hm, rfl⟩⟩
    · rw [if_neg hm]; exact ⟨_, rfl, .inr ⟨hm, rfl⟩⟩
  conv => arg 2; whnf
  dsimp only
  go_wp2_with fail
  refine (rd_add A.r lo link ul _ _ hs).mono ?_
  rintro e w1 ⟨rfl, S1, C1, k1⟩
  have A1 := A.step C1 k1
  clear C1 k1 x1 x3 hs A
  go_upto_block 3 with fail
  rename_i Ka hKa
  go_cut [12] from 68 to 83 (fun v wx => v = .bool (decide (lo ∈ z1)) ∧ ∃ d : Nat, wx = w1.drewN d)
  case first =>
    rename_i J6 K6 hJ6 hK6
    exact oldLoop hJ6 hK6 A1.a1 (by omega) (A1.co 1 _ rfl)
  case rest =>
  obtain ⟨rfl, d, rfl⟩ := hcut
  have A := A1.quiet (drewN_keep (fun _ => False) w1 d)
  clear A1
  rcases hI with ⟨hm, rfl⟩ | ⟨hm, rfl⟩
  · rw [decide_eq_true hm]
    clear hm
    go_wp2_with fail
    go_meet
    case rel => exact ⟨_, S1, _, z1, z2, z3, A.noop, I.up (by omega)⟩
  · rw [decide_eq_false hm]
    have HI := Lib.hid (I.key (l := link) hm)
    clear hm I
    obtain ⟨y1, e1⟩ : ∃ y, w1.drewN d = y := ⟨_, rfl⟩
    rw [e1] at A ⊢
    clear e1
    have x1 := A.co 1 _ rfl
    go_wp2_with (with_reducible refine wp_stop 93 rfl ?_)
    intro _
    refine wp_pushN rfl (.tmp 89) (.tmp 92) rfl W.heap.size A.r.b.size v1 z1 rfl A.a1 lo rfl (by omega) ?_
    intro g c y2 o2 k2 hg
    have A := A.push1 o2 k2 hg
    clear o2 k2 hg x1
    have x3 := A.co 3 _ rfl
    go_wp2_with (with_reducible refine wp_stop 98 rfl ?_)
    intro _
    refine wp_push rfl (.tmp 94) (.tmp 97) rfl W.heap.size A.r.b.size v2 z2 rfl A.a2 link rfl (by omega) ?_
    intro g2 c2 y3 o3 k3 hg3
    have A := A.push2 o3 k3 hg3
    clear o3 k3 hg3 x3
    go_wp2_with fail
    go_meet
    case rel => exact ⟨_, S1, _, _, _, z3, A.noop, HI.out⟩
set_option maxRecDepth 1000000 in
set_option maxHeartbeats 8000000 in
theorem arm1 { s0 s1 s2 s3 s4 s9 s12 s13 s14 s15 s16 s17 s18 s19 s20 s21 s22 s23 s24 s25 s26 s27 s28 s29 s30 s31 s32 s33 s34 s35 s36 s37 s38 s39 s40 s41 s42 s43 s44 s45 s46 s47 s48 s49 s50 s51 s52 s53 s54 s55 s57 s58 s59 s60 s61 s62 s63 s64 s65 s66 s67 s68 s69 s70 s71 s72 s73 s74 s75 s76 s77 s78 s79 s80 s81 s82 s83 s84 s85 s86 s87 s88 s89 s90 s91 s92 s93 s94 s95 s96 s97 s98 s99 s100 s101 s102 s103 s104 s105 s106 s107 s108 s109 s110 s111 s112 s113 s114 s115 s116 s117 s118 s119 s120 s121 s122 s123 s124 s125 s126 s127 s128 s129 s130 s131 s132 s133 s134 s135 s136 s137 s138 s139 s140 s141 s142 s143 s144 s145 s146 s147 s148 s149 s150 s151 s152 s153 s154 s155 s156 s157 s158 s159 s160 s161 s162 s163 s164 s165 s166 s167 s168 s169 s170 s171 s172 s173 s174 s175 s176 s177 s178 s179 s180 s181 s182 s183 s184 s185 s186 s187 s188 s189 s190 s191 s192 s193 s194 s195 s196 s197 s198 s199 s200 s201 s202 s203 s204 s205 s206 s207 s208 s209 s210 s211 s212 s213 s214 s215 s216 s217 s218 s219 s220 s221 s222 s223 s224 s225 s226 s227 s228 s229 s230 s231 s232 s233 s234 s235 s236 s237 s238 s239 s240 s241 s242 s243 s244 s245 s246 s247 s248 s249 s250 s251 s252 s253 s254 s255 s256 s257 s258 s259 s260 s261 s262 s263 s264 s265 s266 s267 s268 s269 s270 s271 s272 s273 s274 s275 s276 s277 : Value}
    (hJ : ∀ a' w', PM W t k s0 s1 s2 s3 s9 (.pointer (some ⟨ob, 0, none⟩)) (.bool inB) s15 s16 s17 s18 s19 s20 s21 s22 s23 s24 s25 s26 s27 s28 s29 s30 s31 s32 s33 s34 s35 s36 s37 s38 s39 s40 s41 s42 s43 s44 s45 s46 s47 s48 s49 s50 s51 s52 s53 s54 s55 (.int .i64 1) s142 s143 s144 s145 s146 s147 s148 s149 s150 s151 s152 s153 s154 s155 s156 s157 s158 s159 s160 s161 s162 s163 s164 s165 s166 s167 s168 s169 s170 s171 s172 s173 s174 s175 s176 s177 s178 s179 s180 s181 s182 s183 s184 s185 s186 s187 s188 s189 s190 s191 s192 s193 s194 s195 s196 s197 s198 s199 s200 s201 s202 s203 s204 s205 s206 s207 s208 s209 s210 s211 s212 s213 s214 s215 s216 s217 s218 s219 s220 s221 s222 s223 s224 s225 s226 s227 s228 s229 s230 s231 s232 s233 s234 s235 s236 s237 s238 s239 s240 s241 s242 s243 s244 s245 s246 s247 s248 s249 s250 s251 s252 s253 s254 s255 s256 s257 s258 s259 s260 s261 s262 s263 s264 s265 s266 s267 s268 s269 s270 s271 s272 s273 s274 s275 s276 s277 a' w' → J a' w') (hK : ∀ a' w', Met J a' w' → K a' w')
    (A : All13 W wA oA t S s v1 z1 v2 z2 v3 z3 ob [.int .i64 1, .int .i64 lo, .int .i64 hi, .int .u64 link, xv]) (I : I13 W s z1 z2 z3 k) (k120 : k < 120) (hx : Lies W xv xz ∧ xz.length ≤ 100) (eB : inB = (decide (0 ≤ lo) && decide (lo ≤ 63))) :
    Code.wp Try.prog cSw (Exit.then K Q) ⟨#[s0, s1, s2, s3, s4, .pointer (some ⟨t, 0, none⟩), v1, v2, v3, s9, .pointer (some ⟨ob, 0, none⟩), .bool inB, s12, s13, s14, s15, s16, s17, s18, s19, s20, s21, s22, s23, s24, s25, s26, s27, s28, s29, s30, s31, s32, s33, s34, s35, s36, s37, s38, s39, s40, s41, s42, s43, s44, s45, s46, s47, s48, s49, s50, s51, s52, s53, s54, s55, .int .i64 1, s57, s58, s59, s60, s61, s62, s63, s64, s65, s66, s67, s68, s69, s70, s71, s72, s73, s74, s75, s76, s77, s78, s79, s80, s81, s82, s83, s84, s85, s86, s87, s88, s89, s90, s91, s92, s93, s94, s95, s96, s97, s98, s99, s100, s101, s102, s103, s104, s105, s106, s107, s108, s109, s110, s111, s112, s113, s114, s115, s116, s117, s118, s119, s120, s121, s122, s123, s124, s125, s126, s127, s128, s129, s130, s131, s132, s133, s134, s135, s136, s137, s138, s139, s140, s141, s142, s143, s144, s145, s146, s147, s148, s149, s150, s151, s152, s153, s154, s155, s156, s157, s158, s159, s160, s161, s162, s163, s164, s165, s166, s167, s168, s169, s170, s171, s172, s173, s174, s175, s176, s177, s178, s179, s180, s181, s182, s183, s184, s185, s186, s187, s188, s189, s190, s191, s192, s193, s194, s195, s196, s197, s198, s199, s200, s201, s202, s203, s204, s205, s206, s207, s208, s209, s210, s211, s212, s213, s214, s215, s216, s217, s218, s219, s220, s221, s222, s223, s224, s225, s226, s227, s228, s229, s230, s231, s232, s233, s234, s235, s236, s237, s238, s239, s240, s241, s242, s243, s244, s245, s246, s247, s248, s249, s250, s251, s252, s253, s254, s255, s256, s257, s258, s259, s260, s261, s262, s263, s264, s265, s266, s267, s268, s269, s270, s271, s272, s273, s274, s275, s276, s277], []⟩ wA := by
  have x1 := A.co 1 _ rfl
  have x2 := A.co 2 _ rfl
  have x4 := A.co 4 _ rfl
  obtain ⟨r, s', hs⟩ : ∃ r s', s.span lo hi xz = (r, s') := ⟨_, _, rfl⟩
  have hc := span_cases hs
  have hl : s.scans.length = z3.length := by rw [I.e3, List.length_map]
  rw [hl] at hc
  obtain ⟨A3, c3, e3, hA0, hA1⟩ := OwnSv.shape A.a3
  have n3 := I.n3
  have lx := Lies.below A.r.b hx.1
  obtain ⟨Ax, cx, rfl, _⟩ := id hx.1
  have oc : (Value.slice Ax xz.length cx).oneCell' = true := rfl
  conv => arg 2; whnf
  dsimp only
  go_upto_block 5 with fail
  rename_i Ka hKa
  go_cut [14] from 100 to 119 (fun v wx => wA = wx ∧ v = .int .i64 r)
  case first =>
    subst e3
    rcases hc with ⟨rfl, _, h⟩ | ⟨rfl, _, h0, h1, h2, h3⟩ | ⟨rfl, _, h0, h1, h2, h3⟩
    · rcases (by omega : (lo < 0 ∨ 63 < lo) ∨ (0 ≤ lo ∧ lo ≤ 63 ∧ hi < lo) ∨ (0 ≤ lo ∧ lo ≤ 63 ∧ lo ≤ hi ∧ 63 < hi)) with h | ⟨h0, h1, h2⟩ | ⟨h0, h1, h2, h3⟩
      · have e : inB = false := by
          rw [eB]
          rcases h with h | h
          · rw [decide_eq_false (show ¬ 0 ≤ lo by omega)]; rfl
          · rw [decide_eq_false (show ¬ lo ≤ 63 by omega), Bool.and_false]
        subst e
        clear eB hs hl
        go_wp2_with fail
        go_meet
        case rel => exact ⟨rfl, rfl⟩
      · have e : inB = true := by rw [eB, decide_eq_true h0, decide_eq_true h1]; rfl
        subst e
        clear eB hs hl
        go_wp2_with fail
        go_meet
        case rel => exact ⟨rfl, rfl⟩
      · have e : inB = true := by rw [eB, decide_eq_true h0, decide_eq_true h1]; rfl
        subst e
        have d1 : ¬ hi < lo := by omega
        clear eB hs hl
        go_wp2_with fail
        go_meet
        case rel => exact ⟨rfl, rfl⟩
    · have e : inB = true := by rw [eB, decide_eq_true h0, decide_eq_true (by omega)]; rfl
      subst e
      have d1 : ¬ hi < lo := by omega
      have d2 : ¬ 63 < hi := by omega
      clear eB hs hl
      go_wp2_with fail
      go_meet
      case rel => exact ⟨rfl, rfl⟩
    · have e : inB = true := by rw [eB, decide_eq_true h0, decide_eq_true (by omega)]; rfl
      subst e
      have d1 : ¬ hi < lo := by omega
      have d2 : ¬ 63 < hi := by omega
      have d3 : ¬ (64 : Int) ≤ (z3.length : Int) := by omega
      clear eB hs hl
      go_wp2_with fail
      go_meet
      case rel => exact ⟨rfl, rfl⟩
  case rest =>
  obtain ⟨rfl, rfl⟩ := hcut
  clear hA0 hA1 e3 eB
  go_wp2_with fail
  refine (rd_span A.r lo hi _ xz lx (Nat.le_trans hx.2 (by omega)) _ _ hs).mono ?_
  rintro e w1 ⟨rfl, S1, C1, k1⟩
  have A1 := A.step C1 k1
  clear C1 k1 x1 x2 x4 hs lx A
  rcases hc with ⟨rfl, rfl, _⟩ | ⟨rfl, rfl, _⟩ | ⟨rfl, rfl, _, _, _, hlt⟩
  · go_wp2_with fail
    go_meet
    case rel => exact ⟨_, S1, _, z1, z2, z3, A1.noop, I.up (by omega)⟩
  · go_wp2_with fail
    go_meet
    case rel => exact ⟨_, S1, _, z1, z2, z3, A1.noop, I.up (by omega)⟩
  · have HI := Lib.hid (I.scan ⟨lo, hi, .slice Ax xz.length cx, xz⟩ hx hlt)
    have x1 := A1.co 1 _ rfl
    have x2 := A1.co 2 _ rfl
    have x4 := A1.co 4 _ rfl
    clear I hx hl
    go_wp2_with (with_reducible refine wp_stop 141 rfl ?_)
    intro _
    refine wp_pushS rfl (.tmp 132) (.tmp 140) rfl W.heap.size A1.r.b.size v3 z3 rfl A1.a3 ⟨lo, hi, .slice Ax xz.length cx, xz⟩ oc rfl (by omega) ?_
    intro g2 c2 y3 o3 k3 hg3
    have A := A1.push3 o3 k3 hg3
    clear o3 k3 hg3 x1 x2 x4 A1
    go_wp2_with fail
    go_meet
    case rel => exact ⟨_, S1, _, z1, z2, _, A.noop, HI.out⟩
set_option maxRecDepth 1000000 in
set_option maxHeartbeats 8000000 in
theorem armN {kd : Int} { s0 s1 s2 s3 s4 s9 s12 s13 s14 s15 s16 s17 s18 s19 s20 s21 s22 s23 s24 s25 s26 s27 s28 s29 s30 s31 s32 s33 s34 s35 s36 s37 s38 s39 s40 s41 s42 s43 s44 s45 s46 s47 s48 s49 s50 s51 s52 s53 s54 s55 s57 s58 s59 s60 s61 s62 s63 s64 s65 s66 s67 s68 s69 s70 s71 s72 s73 s74 s75 s76 s77 s78 s79 s80 s81 s82 s83 s84 s85 s86 s87 s88 s89 s90 s91 s92 s93 s94 s95 s96 s97 s98 s99 s100 s101 s102 s103 s104 s105 s106 s107 s108 s109 s110 s111 s112 s113 s114 s115 s116 s117 s118 s119 s120 s121 s122 s123 s124 s125 s126 s127 s128 s129 s130 s131 s132 s133 s134 s135 s136 s137 s138 s139 s140 s141 s142 s143 s144 s145 s146 s147 s148 s149 s150 s151 s152 s153 s154 s155 s156 s157 s158 s159 s160 s161 s162 s163 s164 s165 s166 s167 s168 s169 s170 s171 s172 s173 s174 s175 s176 s177 s178 s179 s180 s181 s182 s183 s184 s185 s186 s187 s188 s189 s190 s191 s192 s193 s194 s195 s196 s197 s198 s199 s200 s201 s202 s203 s204 s205 s206 s207 s208 s209 s210 s211 s212 s213 s214 s215 s216 s217 s218 s219 s220 s221 s222 s223 s224 s225 s226 s227 s228 s229 s230 s231 s232 s233 s234 s235 s236 s237 s238 s239 s240 s241 s242 s243 s244 s245 s246 s247 s248 s249 s250 s251 s252 s253 s254 s255 s256 s257 s258 s259 s260 s261 s262 s263 s264 s265 s266 s267 s268 s269 s270 s271 s272 s273 s274 s275 s276 s277 : Value}
    (hJ : ∀ a' w', PM W t k s0 s1 s2 s3 s9 (.pointer (some ⟨ob, 0, none⟩)) (.bool inB) s15 s16 s17 s18 s19 s20 s21 s22 s23 s24 s25 s26 s27 s28 s29 s30 s31 s32 s33 s34 s35 s36 s37 s38 s39 s40 s41 s42 s43 s44 s45 s46 s47 s48 s49 s50 s51 s52 s53 s54 s55 (.int .i64 kd) s142 s143 s144 s145 s146 s147 s148 s149 s150 s151 s152 s153 s154 s155 s156 s157 s158 s159 s160 s161 s162 s163 s164 s165 s166 s167 s168 s169 s170 s171 s172 s173 s174 s175 s176 s177 s178 s179 s180 s181 s182 s183 s184 s185 s186 s187 s188 s189 s190 s191 s192 s193 s194 s195 s196 s197 s198 s199 s200 s201 s202 s203 s204 s205 s206 s207 s208 s209 s210 s211 s212 s213 s214 s215 s216 s217 s218 s219 s220 s221 s222 s223 s224 s225 s226 s227 s228 s229 s230 s231 s232 s233 s234 s235 s236 s237 s238 s239 s240 s241 s242 s243 s244 s245 s246 s247 s248 s249 s250 s251 s252 s253 s254 s255 s256 s257 s258 s259 s260 s261 s262 s263 s264 s265 s266 s267 s268 s269 s270 s271 s272 s273 s274 s275 s276 s277 a' w' → J a' w') (hK : ∀ a' w', Met J a' w' → K a' w')
    (A : All13 W wA oA t S s v1 z1 v2 z2 v3 z3 ob [.int .i64 kd, .int .i64 lo, .int .i64 hi, .int .u64 link, xv]) (I : I13 W s z1 z2 z3 k) (hk : kd ≠ 0 ∧ kd ≠ 1) :
    Code.wp Try.prog cSw (Exit.then K Q) ⟨#[s0, s1, s2, s3, s4, .pointer (some ⟨t, 0, none⟩), v1, v2, v3, s9, .pointer (some ⟨ob, 0, none⟩), .bool inB, s12, s13, s14, s15, s16, s17, s18, s19, s20, s21, s22, s23, s24, s25, s26, s27, s28, s29, s30, s31, s32, s33, s34, s35, s36, s37, s38, s39, s40, s41, s42, s43, s44, s45, s46, s47, s48, s49, s50, s51, s52, s53, s54, s55, .int .i64 kd, s57, s58, s59, s60, s61, s62, s63, s64, s65, s66, s67, s68, s69, s70, s71, s72, s73, s74, s75, s76, s77, s78, s79, s80, s81, s82, s83, s84, s85, s86, s87, s88, s89, s90, s91, s92, s93, s94, s95, s96, s97, s98, s99, s100, s101, s102, s103, s104, s105, s106, s107, s108, s109, s110, s111, s112, s113, s114, s115, s116, s117, s118, s119, s120, s121, s122, s123, s124, s125, s126, s127, s128, s129, s130, s131, s132, s133, s134, s135, s136, s137, s138, s139, s140, s141, s142, s143, s144, s145, s146, s147, s148, s149, s150, s151, s152, s153, s154, s155, s156, s157, s158, s159, s160, s161, s162, s163, s164, s165, s166, s167, s168, s169, s170, s171, s172, s173, s174, s175, s176, s177, s178, s179, s180, s181, s182, s183, s184, s185, s186, s187, s188, s189, s190, s191, s192, s193, s194, s195, s196, s197, s198, s199, s200, s201, s202, s203, s204, s205, s206, s207, s208, s209, s210, s211, s212, s213, s214, s215, s216, s217, s218, s219, s220, s221, s222, s223, s224, s225, s226, s227, s228, s229, s230, s231, s232, s233, s234, s235, s236, s237, s238, s239, s240, s241, s242, s243, s244, s245, s246, s247, s248, s249, s250, s251, s252, s253, s254, s255, s256, s257, s258, s259, s260, s261, s262, s263, s264, s265, s266, s267, s268, s269, s270, s271, s272, s273, s274, s275, s276, s277], []⟩ wA := by
  have q0 : (kd == 0) = false := by simpa using hk.1
  have q1 : (kd == 1) = false := by simpa using hk.2
  conv => arg 2; whnf
  dsimp only
  go_wp2_with fail
  go_meet
  case rel => exact ⟨oA, S, s, z1, z2, z3, A.noop, I.up (by omega)⟩
end
end Go.Proofs.Ytafcmcpnmkmlbaa.readsPlays
