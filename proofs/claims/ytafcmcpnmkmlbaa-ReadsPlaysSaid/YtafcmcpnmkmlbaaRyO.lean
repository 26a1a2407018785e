/- ReadsPlays: is a key among the keys, and where (two loops over the law's own list); conditions: what the parts before it have laid. -/
import Derived.Test.YtafcmcpnmkmlbaaRyA
namespace Go.Proofs.Ytafcmcpnmkmlbaa.readsPlays
open Go.ChangeShapes Go.WideShapes Go.ChangeAt Go.RowKit
set_option linter.unusedVariables false
noncomputable def cOld : Code := (Try.f5.body.bind (blockIn 3)).getD .skip
theorem take_mem (z : List Int) (x : Int) (j : Nat) (h : j < z.length) : decide (x ∈ z.take (j + 1)) = (decide (x ∈ z.take j) || decide (z.getD j 0 = x)) := by
  rw [List.take_add_one, List.getElem?_eq_getElem h, List.getD_eq_getElem?_getD, List.getElem?_eq_getElem h]
  simp only [Option.toList_some, List.mem_append, List.mem_singleton, Bool.decide_or, Option.getD_some]
  congr 1
  exact decide_eq_decide.2 eq_comm
def OldR (z1 : List Int) (x : Int) (wA : World) (ov iv : Value) (wr : World) : Prop :=
  ∃ j d : Nat, j ≤ z1.length ∧ iv = .int .i64 j ∧ ov = .bool (decide (x ∈ z1.take j)) ∧ wr = wA.drewN d
set_option maxRecDepth 1000000 in
/-- Behind the first search. -/
def PO (z1 : List Int) (x : Int) (wA : World) (s0 s1 s2 s3 s4 s5 s6 s7 s8 s9 s10 s11 s14 s15 s16 s17 s18 s19 s20 s21 s22 s23 s24 s25 s26 s27 s28 s29 s30 s31 s32 s33 s34 s35 s36 s37 s38 s39 s40 s41 s42 s43 s44 s45 s46 s47 s48 s49 s50 s51 s52 s53 s54 s55 s56 s57 s58 s59 s60 s61 s62 s63 s64 s65 s66 s67 s84 s85 s86 s87 s88 s89 s90 s91 s92 s93 s94 s95 s96 s97 s98 s99 s100 s101 s102 s103 s104 s105 s106 s107 s108 s109 s110 s111 s112 s113 s114 s115 s116 s117 s118 s119 s120 s121 s122 s123 s124 s125 s126 s127 s128 s129 s130 s131 s132 s133 s134 s135 s136 s137 s138 s139 s140 s141 s142 s143 s144 s145 s146 s147 s148 s149 s150 s151 s152 s153 s154 s155 s156 s157 s158 s159 s160 s161 s162 s163 s164 s165 s166 s167 s168 s169 s170 s171 s172 s173 s174 s175 s176 s177 s178 s179 s180 s181 s182 s183 s184 s185 s186 s187 s188 s189 s190 s191 s192 s193 s194 s195 s196 s197 s198 s199 s200 s201 s202 s203 s204 s205 s206 s207 s208 s209 s210 s211 s212 s213 s214 s215 s216 s217 s218 s219 s220 s221 s222 s223 s224 s225 s226 s227 s228 s229 s230 s231 s232 s233 s234 s235 s236 s237 s238 s239 s240 s241 s242 s243 s244 s245 s246 s247 s248 s249 s250 s251 s252 s253 s254 s255 s256 s257 s258 s259 s260 s261 s262 s263 s264 s265 s266 s267 s268 s269 s270 s271 s272 s273 s274 s275 s276 s277 : Value) (a' : Act) (w' : World) : Prop :=
  ∃ u12 u13 u68 u69 u70 u71 u72 u73 u74 u75 u76 u77 u78 u79 u80 u81 u82 u83 : Value, (u12 = .bool (decide (x ∈ z1)) ∧ ∃ d : Nat, w' = wA.drewN d) ∧ a' = ⟨#[s0, s1, s2, s3, s4, s5, s6, s7, s8, s9, s10, s11, u12, u13, s14, s15, s16, s17, s18, s19, s20, s21, s22, s23, s24, s25, s26, s27, s28, s29, s30, s31, s32, s33, s34, s35, s36, s37, s38, s39, s40, s41, s42, s43, s44, s45, s46, s47, s48, s49, s50, s51, s52, s53, s54, s55, s56, s57, s58, s59, s60, s61, s62, s63, s64, s65, s66, s67, u68, u69, u70, u71, u72, u73, u74, u75, u76, u77, u78, u79, u80, u81, u82, u83, s84, s85, s86, s87, s88, s89, s90, s91, s92, s93, s94, s95, s96, s97, s98, s99, s100, s101, s102, s103, s104, s105, s106, s107, s108, s109, s110, s111, s112, s113, s114, s115, s116, s117, s118, s119, s120, s121, s122, s123, s124, s125, s126, s127, s128, s129, s130, s131, s132, s133, s134, s135, s136, s137, s138, s139, s140, s141, s142, s143, s144, s145, s146, s147, s148, s149, s150, s151, s152, s153, s154, s155, s156, s157, s158, s159, s160, s161, s162, s163, s164, s165, s166, s167, s168, s169, s170, s171, s172, s173, s174, s175, s176, s177, s178, s179, s180, s181, s182, s183, s184, s185, s186, s187, s188, s189, s190, s191, s192, s193, s194, s195, s196, s197, s198, s199, s200, s201, s202, s203, s204, s205, s206, s207, s208, s209, s210, s211, s212, s213, s214, s215, s216, s217, s218, s219, s220, s221, s222, s223, s224, s225, s226, s227, s228, s229, s230, s231, s232, s233, s234, s235, s236, s237, s238, s239, s240, s241, s242, s243, s244, s245, s246, s247, s248, s249, s250, s251, s252, s253, s254, s255, s256, s257, s258, s259, s260, s261, s262, s263, s264, s265, s266, s267, s268, s269, s270, s271, s272, s273, s274, s275, s276, s277], []⟩
section
variable {wA : World} {v1 : Value} {z1 : List Int} {ob : Nat} {x key : Int} {B : Nat} {Q : Exit → Act → World → Prop} {J K : Act → World → Prop}
set_option maxRecDepth 1000000 in
set_option maxHeartbeats 8000000 in
theorem oldLoop { s0 s1 s2 s3 s4 s5 s7 s8 s9 s11 s14 s15 s16 s17 s18 s19 s20 s21 s22 s23 s24 s25 s26 s27 s28 s29 s30 s31 s32 s33 s34 s35 s36 s37 s38 s39 s40 s41 s42 s43 s44 s45 s46 s47 s48 s49 s50 s51 s52 s53 s54 s55 s56 s57 s58 s59 s60 s61 s62 s63 s64 s65 s66 s67 s68 s69 s70 s71 s72 s73 s74 s75 s76 s77 s78 s79 s80 s81 s82 s83 s84 s85 s86 s87 s88 s89 s90 s91 s92 s93 s94 s95 s96 s97 s98 s99 s100 s101 s102 s103 s104 s105 s106 s107 s108 s109 s110 s111 s112 s113 s114 s115 s116 s117 s118 s119 s120 s121 s122 s123 s124 s125 s126 s127 s128 s129 s130 s131 s132 s133 s134 s135 s136 s137 s138 s139 s140 s141 s142 s143 s144 s145 s146 s147 s148 s149 s150 s151 s152 s153 s154 s155 s156 s157 s158 s159 s160 s161 s162 s163 s164 s165 s166 s167 s168 s169 s170 s171 s172 s173 s174 s175 s176 s177 s178 s179 s180 s181 s182 s183 s184 s185 s186 s187 s188 s189 s190 s191 s192 s193 s194 s195 s196 s197 s198 s199 s200 s201 s202 s203 s204 s205 s206 s207 s208 s209 s210 s211 s212 s213 s214 s215 s216 s217 s218 s219 s220 s221 s222 s223 s224 s225 s226 s227 s228 s229 s230 s231 s232 s233 s234 s235 s236 s237 s238 s239 s240 s241 s242 s243 s244 s245 s246 s247 s248 s249 s250 s251 s252 s253 s254 s255 s256 s257 s258 s259 s260 s261 s262 s263 s264 s265 s266 s267 s268 s269 s270 s271 s272 s273 s274 s275 s276 s277 : Value}
    (hJ : ∀ a' w', PO z1 x wA s0 s1 s2 s3 s4 s5 v1 s7 s8 s9 (.pointer (some ⟨ob, 0, none⟩)) s11 s14 s15 s16 s17 s18 s19 s20 s21 s22 s23 s24 s25 s26 s27 s28 s29 s30 s31 s32 s33 s34 s35 s36 s37 s38 s39 s40 s41 s42 s43 s44 s45 s46 s47 s48 s49 s50 s51 s52 s53 s54 s55 s56 s57 s58 s59 s60 s61 s62 s63 s64 s65 s66 s67 s84 s85 s86 s87 s88 s89 s90 s91 s92 s93 s94 s95 s96 s97 s98 s99 s100 s101 s102 s103 s104 s105 s106 s107 s108 s109 s110 s111 s112 s113 s114 s115 s116 s117 s118 s119 s120 s121 s122 s123 s124 s125 s126 s127 s128 s129 s130 s131 s132 s133 s134 s135 s136 s137 s138 s139 s140 s141 s142 s143 s144 s145 s146 s147 s148 s149 s150 s151 s152 s153 s154 s155 s156 s157 s158 s159 s160 s161 s162 s163 s164 s165 s166 s167 s168 s169 s170 s171 s172 s173 s174 s175 s176 s177 s178 s179 s180 s181 s182 s183 s184 s185 s186 s187 s188 s189 s190 s191 s192 s193 s194 s195 s196 s197 s198 s199 s200 s201 s202 s203 s204 s205 s206 s207 s208 s209 s210 s211 s212 s213 s214 s215 s216 s217 s218 s219 s220 s221 s222 s223 s224 s225 s226 s227 s228 s229 s230 s231 s232 s233 s234 s235 s236 s237 s238 s239 s240 s241 s242 s243 s244 s245 s246 s247 s248 s249 s250 s251 s252 s253 s254 s255 s256 s257 s258 s259 s260 s261 s262 s263 s264 s265 s266 s267 s268 s269 s270 s271 s272 s273 s274 s275 s276 s277 a' w' → J a' w') (hK : ∀ a' w', Met J a' w' → K a' w')
    (o1 : OwnN B wA v1 z1) (zl : z1.length ≤ 120) (x1 : wA.cell? ⟨ob, 1, none⟩ = some (.int .i64 x)) :
    Code.wp Try.prog cOld (Exit.then K Q) ⟨#[s0, s1, s2, s3, s4, s5, v1, s7, s8, s9, .pointer (some ⟨ob, 0, none⟩), s11, .bool false, .int .i64 0, s14, s15, s16, s17, s18, s19, s20, s21, s22, s23, s24, s25, s26, s27, s28, s29, s30, s31, s32, s33, s34, s35, s36, s37, s38, s39, s40, s41, s42, s43, s44, s45, s46, s47, s48, s49, s50, s51, s52, s53, s54, s55, s56, s57, s58, s59, s60, s61, s62, s63, s64, s65, s66, s67, s68, s69, s70, s71, s72, s73, s74, s75, s76, s77, s78, s79, s80, s81, s82, s83, s84, s85, s86, s87, s88, s89, s90, s91, s92, s93, s94, s95, s96, s97, s98, s99, s100, s101, s102, s103, s104, s105, s106, s107, s108, s109, s110, s111, s112, s113, s114, s115, s116, s117, s118, s119, s120, s121, s122, s123, s124, s125, s126, s127, s128, s129, s130, s131, s132, s133, s134, s135, s136, s137, s138, s139, s140, s141, s142, s143, s144, s145, s146, s147, s148, s149, s150, s151, s152, s153, s154, s155, s156, s157, s158, s159, s160, s161, s162, s163, s164, s165, s166, s167, s168, s169, s170, s171, s172, s173, s174, s175, s176, s177, s178, s179, s180, s181, s182, s183, s184, s185, s186, s187, s188, s189, s190, s191, s192, s193, s194, s195, s196, s197, s198, s199, s200, s201, s202, s203, s204, s205, s206, s207, s208, s209, s210, s211, s212, s213, s214, s215, s216, s217, s218, s219, s220, s221, s222, s223, s224, s225, s226, s227, s228, s229, s230, s231, s232, s233, s234, s235, s236, s237, s238, s239, s240, s241, s242, s243, s244, s245, s246, s247, s248, s249, s250, s251, s252, s253, s254, s255, s256, s257, s258, s259, s260, s261, s262, s263, s264, s265, s266, s267, s268, s269, s270, s271, s272, s273, s274, s275, s276, s277], []⟩ wA := by
  obtain ⟨A, c, rfl, hA0, hA1⟩ := OwnN.shapeN o1
  conv => arg 2; whnf
  dsimp only
  go_wp2
  go_loopw [12, 13] (fun ov iv wr => OldR z1 x wA ov iv wr) (fun _ iv _ => z1.length - (intOf iv).toNat)
  case atStart => exact ⟨0, 0, Nat.zero_le _, rfl, by simp, rfl⟩
  case round =>
    obtain ⟨j, d, hj, rfl, rfl, rfl⟩ := hrel
    by_cases hlt : j < z1.length
    · have wk : IntKind.i64.wrap ((j : Int) + 1) = (j : Int) + 1 := IntWalk.i64_in _ (by omega)
      have tm := take_mem z1 x j hlt
      cases A with
      | none => rw [hA0 rfl] at hlt; simp at hlt
      | some ad =>
        obtain ⟨g, rfl⟩ := hA1 _ rfl
        have cj : wA.cell? ⟨g, j, none⟩ = some (.int .i64 (z1.getD j 0)) := OwnN.cell o1 j hlt
        obtain ⟨y, ey⟩ : ∃ y, z1.getD j 0 = y := ⟨_, rfl⟩
        rw [ey] at tm cj
        cases hb : decide (x ∈ z1.take j) with
        | true =>
          rw [hb, Bool.true_or] at tm
          clear hb ey o1 hA0 hA1
          go_wp2_with fail
          go_quiet (fail)
          go_wp2
          first | exact ⟨⟨j + 1, _, by omega, by go_num, by rw [tm], rfl⟩, by simp [intOf]; omega⟩ | (refine ⟨?rel2, ?meas2⟩; (case meas2 => (simp [intOf]; omega)); (case rel2 => ((repeat apply Exists.intro); exact ⟨⟨j + 1, _, by omega, by go_num, by rw [tm], rfl⟩, rfl⟩)))
        | false =>
          rw [hb, Bool.false_or] at tm
          by_cases hy : y = x
          · subst hy
            rw [decide_eq_true rfl] at tm
            clear hb ey o1 hA0 hA1
            go_wp2_with fail
            go_quiet (fail)
            go_wp2
            first | exact ⟨⟨j + 1, _, by omega, by go_num, by rw [tm], rfl⟩, by simp [intOf]; omega⟩ | (refine ⟨?rel2, ?meas2⟩; (case meas2 => (simp [intOf]; omega)); (case rel2 => ((repeat apply Exists.intro); exact ⟨⟨j + 1, _, by omega, by go_num, by rw [tm], rfl⟩, rfl⟩)))
          · have q0 : (y == x) = false := by simpa using hy
            rw [decide_eq_false hy] at tm
            clear hb ey o1 hA0 hA1 hy
            go_wp2_with fail
            go_quiet (fail)
            go_wp2
            first | exact ⟨⟨j + 1, _, by omega, by go_num, by rw [tm], rfl⟩, by simp [intOf]; omega⟩ | (refine ⟨?rel2, ?meas2⟩; (case meas2 => (simp [intOf]; omega)); (case rel2 => ((repeat apply Exists.intro); exact ⟨⟨j + 1, _, by omega, by go_num, by rw [tm], rfl⟩, rfl⟩)))
    · obtain rfl : j = z1.length := by omega
      have e0 : decide (x ∈ z1.take z1.length) = decide (x ∈ z1) := by rw [List.take_length]
      clear o1 x1 hA0 hA1
      go_wp2_with fail
      go_meet
      case rel => exact ⟨by rw [e0], d, rfl⟩
theorem AtI.yes {z : List Int} {j : Nat} {c : Bool} {a : Int} (h : AtI z key j c a) (e : z.getD j 0 = key) : AtI z key (j + 1) true j := .inr ⟨j, rfl, rfl, by omega, e⟩
theorem AtI.no {z : List Int} {j : Nat} {c : Bool} {a : Int} (h : AtI z key j c a) (e : z.getD j 0 ≠ key) : AtI z key (j + 1) c a := by
  rcases h with ⟨h1, h2, h3⟩ | ⟨m, h1, h2, h3, h4⟩
  · refine .inl ⟨h1, h2, fun m hm => ?_⟩
    by_cases e2 : m = j
    · subst e2; exact e
    · exact h3 m (by omega)
  · exact .inr ⟨m, h1, h2, by omega, h4⟩
def AtR (z1 : List Int) (key : Int) (wA : World) (cv av iv : Value) (wr : World) : Prop :=
  wA = wr ∧ ∃ (j : Nat) (c : Bool) (a : Int), j ≤ z1.length ∧ iv = .int .i64 j ∧ cv = .bool c ∧ av = .int .i64 a ∧ AtI z1 key j c a
set_option maxRecDepth 1000000 in
set_option maxHeartbeats 8000000 in
theorem atLoop { s0 s2 s3 s4 s5 s7 s8 s9 s10 s11 s12 s13 s14 s18 s19 s20 s21 s22 s23 s24 s25 s26 s27 s28 s29 s30 s31 s32 s33 s34 s35 s36 s37 s38 s39 s40 s41 s42 s43 s44 s45 s46 s47 s48 s49 s50 s51 s52 s53 s54 s55 s56 s57 s58 s59 s60 s61 s62 s63 s64 s65 s66 s67 s68 s69 s70 s71 s72 s73 s74 s75 s76 s77 s78 s79 s80 s81 s82 s83 s84 s85 s86 s87 s88 s89 s90 s91 s92 s93 s94 s95 s96 s97 s98 s99 s100 s101 s102 s103 s104 s105 s106 s107 s108 s109 s110 s111 s112 s113 s114 s115 s116 s117 s118 s119 s120 s121 s122 s123 s124 s125 s126 s127 s128 s129 s130 s131 s132 s133 s134 s135 s136 s137 s138 s139 s140 s141 s142 s143 s144 s145 s146 s147 s148 s149 s150 s151 s152 s153 s154 s155 s156 s157 s158 s159 s160 s161 s162 s163 s164 s165 s166 s167 s168 s169 s170 s171 s172 s173 s174 s175 s176 s177 s178 s179 s180 s181 s182 s183 s184 s185 s186 s187 s188 s189 s190 s191 s192 s193 s194 s195 s196 s197 s198 s199 s200 s201 s202 s203 s204 s205 s206 s207 s208 s209 s210 s211 s212 s213 s214 s215 s216 s217 s218 s219 s220 s221 s222 s223 s224 s225 s226 s227 s228 s229 s230 s231 s232 s233 s234 s235 s236 s237 s238 s239 s240 s241 s242 s243 s244 s245 s246 s247 s248 s249 s250 s251 s252 s253 s254 s255 s256 s257 s258 s259 s260 s261 s262 s263 s264 s265 s266 s267 s268 s269 s270 s271 s272 s273 s274 s275 s276 s277 : Value}
    (hJ : ∀ a' w', PA z1 key wA s0 (.int .i64 key) s2 s3 s4 s5 v1 s7 s8 s9 s10 s11 s12 s13 s14 s18 s19 s20 s21 s22 s23 s24 s25 s26 s27 s28 s29 s30 s31 s32 s33 s34 s35 s36 s37 s38 s39 s40 s41 s42 s43 s44 s45 s46 s47 s48 s49 s50 s51 s52 s53 s54 s55 s56 s57 s58 s59 s60 s61 s62 s63 s64 s65 s66 s67 s68 s69 s70 s71 s72 s73 s74 s75 s76 s77 s78 s79 s80 s81 s82 s83 s84 s85 s86 s87 s88 s89 s90 s91 s92 s93 s94 s95 s96 s97 s98 s99 s100 s101 s102 s103 s104 s105 s106 s107 s108 s109 s110 s111 s112 s113 s114 s115 s116 s117 s118 s119 s120 s121 s122 s123 s124 s125 s126 s127 s128 s129 s130 s131 s132 s133 s134 s135 s136 s137 s138 s139 s140 s141 s155 s156 s157 s158 s159 s160 s161 s162 s163 s164 s165 s166 s167 s168 s169 s170 s171 s172 s173 s174 s175 s176 s177 s178 s179 s180 s181 s182 s183 s184 s185 s186 s187 s188 s189 s190 s191 s192 s193 s194 s195 s196 s197 s198 s199 s200 s201 s202 s203 s204 s205 s206 s207 s208 s209 s210 s211 s212 s213 s214 s215 s216 s217 s218 s219 s220 s221 s222 s223 s224 s225 s226 s227 s228 s229 s230 s231 s232 s233 s234 s235 s236 s237 s238 s239 s240 s241 s242 s243 s244 s245 s246 s247 s248 s249 s250 s251 s252 s253 s254 s255 s256 s257 s258 s259 s260 s261 s262 s263 s264 s265 s266 s267 s268 s269 s270 s271 s272 s273 s274 s275 s276 s277 a' w' → J a' w') (hK : ∀ a' w', Met J a' w' → K a' w')
    (o1 : OwnN B wA v1 z1) (zl : z1.length ≤ 120) :
    Code.wp Try.prog cAt (Exit.then K Q) ⟨#[s0, .int .i64 key, s2, s3, s4, s5, v1, s7, s8, s9, s10, s11, s12, s13, s14, .bool false, .int .i64 (-1), .int .i64 0, s18, s19, s20, s21, s22, s23, s24, s25, s26, s27, s28, s29, s30, s31, s32, s33, s34, s35, s36, s37, s38, s39, s40, s41, s42, s43, s44, s45, s46, s47, s48, s49, s50, s51, s52, s53, s54, s55, s56, s57, s58, s59, s60, s61, s62, s63, s64, s65, s66, s67, s68, s69, s70, s71, s72, s73, s74, s75, s76, s77, s78, s79, s80, s81, s82, s83, s84, s85, s86, s87, s88, s89, s90, s91, s92, s93, s94, s95, s96, s97, s98, s99, s100, s101, s102, s103, s104, s105, s106, s107, s108, s109, s110, s111, s112, s113, s114, s115, s116, s117, s118, s119, s120, s121, s122, s123, s124, s125, s126, s127, s128, s129, s130, s131, s132, s133, s134, s135, s136, s137, s138, s139, s140, s141, s142, s143, s144, s145, s146, s147, s148, s149, s150, s151, s152, s153, s154, s155, s156, s157, s158, s159, s160, s161, s162, s163, s164, s165, s166, s167, s168, s169, s170, s171, s172, s173, s174, s175, s176, s177, s178, s179, s180, s181, s182, s183, s184, s185, s186, s187, s188, s189, s190, s191, s192, s193, s194, s195, s196, s197, s198, s199, s200, s201, s202, s203, s204, s205, s206, s207, s208, s209, s210, s211, s212, s213, s214, s215, s216, s217, s218, s219, s220, s221, s222, s223, s224, s225, s226, s227, s228, s229, s230, s231, s232, s233, s234, s235, s236, s237, s238, s239, s240, s241, s242, s243, s244, s245, s246, s247, s248, s249, s250, s251, s252, s253, s254, s255, s256, s257, s258, s259, s260, s261, s262, s263, s264, s265, s266, s267, s268, s269, s270, s271, s272, s273, s274, s275, s276, s277], []⟩ wA := by
  obtain ⟨A, c, rfl, hA0, hA1⟩ := OwnN.shapeN o1
  conv => arg 2; whnf
  dsimp only
  go_wp2
  go_loopw [15, 16, 17] (fun cv av iv wr => AtR z1 key wA cv av iv wr) (fun _ _ iv _ => z1.length - (intOf iv).toNat)
  case atStart => exact ⟨rfl, 0, false, -1, Nat.zero_le _, rfl, rfl, rfl, .inl ⟨rfl, rfl, fun m hm => by omega⟩⟩
  case round =>
    obtain ⟨rfl, j, cb, a, hj, rfl, rfl, rfl, hI⟩ := hrel
    by_cases hlt : j < z1.length
    · have wk : IntKind.i64.wrap ((j : Int) + 1) = (j : Int) + 1 := IntWalk.i64_in _ (by omega)
      cases A with
      | none => rw [hA0 rfl] at hlt; simp at hlt
      | some ad =>
        obtain ⟨g, rfl⟩ := hA1 _ rfl
        have cj := OwnN.cell o1 j hlt
        by_cases hy : z1.getD j 0 = key
        · have hI := hI.yes hy
          rw [hy] at cj
          have HI := Lib.hid hI
          clear o1 hA0 hA1 hy hI
          go_wp2
          first | exact ⟨⟨rfl, j + 1, true, j, by omega, by go_num, rfl, rfl, HI.out⟩, by simp [intOf]; omega⟩ | (refine ⟨?rel2, ?meas2⟩; (case meas2 => (simp [intOf]; omega)); (case rel2 => ((repeat apply Exists.intro); exact ⟨⟨rfl, j + 1, true, j, by omega, by go_num, rfl, rfl, HI.out⟩, rfl⟩)))
        · have hI := hI.no hy
          obtain ⟨y, ey⟩ : ∃ y, z1.getD j 0 = y := ⟨_, rfl⟩
          rw [ey] at cj hy
          have q0 : (y == key) = false := by simpa using hy
          have HI := Lib.hid hI
          clear o1 hA0 hA1 hy hI ey
          go_wp2
          first | exact ⟨⟨rfl, j + 1, cb, a, by omega, by go_num, rfl, rfl, HI.out⟩, by simp [intOf]; omega⟩ | (refine ⟨?rel2, ?meas2⟩; (case meas2 => (simp [intOf]; omega)); (case rel2 => ((repeat apply Exists.intro); exact ⟨⟨rfl, j + 1, cb, a, by omega, by go_num, rfl, rfl, HI.out⟩, rfl⟩)))
    · obtain rfl : j = z1.length := by omega
      clear o1 hA0 hA1
      go_wp2_with fail
      go_meet
      case rel => exact ⟨rfl, cb, a, rfl, rfl, hI⟩
end
end Go.Proofs.Ytafcmcpnmkmlbaa.readsPlays
