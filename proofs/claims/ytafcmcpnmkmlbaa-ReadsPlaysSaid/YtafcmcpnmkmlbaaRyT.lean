/- ReadsPlays, a round's end: what the set tells is what the law's lists say; conditions: what the parts before it have laid. -/
import Derived.Test.YtafcmcpnmkmlbaaRyM
namespace Go.Proofs.Ytafcmcpnmkmlbaa.readsPlays
open Go.ChangeShapes Go.WideShapes Go.ChangeAt Go.RowKit
set_option linter.unusedVariables false
/-- What Link tells, by where the key stands. -/
theorem link_at {W : World} {s : RdS} {z1 z2 : List Int} {z3 : List ScV} {k : Nat} (I : I13 W s z1 z2 z3 k) {key : Int} {c : Bool} {a : Int} (h : AtI z1 key z1.length c a) :
    (c = false ∧ a = -1 ∧ s.link key = (0, false)) ∨ ∃ m : Nat, c = true ∧ a = m ∧ m < z2.length ∧ s.link key = (z2.getD m 0, true) := by
  rcases h with ⟨h1, h2, h3⟩ | ⟨m, h1, h2, h3, h4⟩
  · refine .inl ⟨h1, h2, ?_⟩
    unfold RdS.link
    rw [← I.e1, if_neg (not_mem_of h3)]
  · refine .inr ⟨m, h1, h2, by rw [I.n2]; exact h3, ?_⟩
    unfold RdS.link
    rw [← I.e1, if_pos (by rw [← h4]; exact mem_getD h3), idx_of I.nd h3 h4, I.e2]
theorem covers_at {W : World} {s : RdS} {z1 z2 : List Int} {z3 : List ScV} {k : Nat} (I : I13 W s z1 z2 z3 k) {key : Int} {c : Bool} {a : Int} (h : AtI z1 key z1.length c a) :
    s.covers key = (c || z3.any fun x => x.sc.has key) := by
  unfold RdS.covers
  rw [← I.e1, I.e3, List.any_map]
  congr 1
  rcases h with ⟨h1, _, h3⟩ | ⟨m, h1, _, h3, h4⟩
  · rw [h1]; exact decide_eq_false (not_mem_of h3)
  · rw [h1]; exact decide_eq_true (by rw [← h4]; exact mem_getD h3)
section
variable {W wA : World} {oA : Nat → Nat} {t : Nat} {S : Nat → Prop} {s : RdS} {v1 v2 v3 : Value} {z1 z2 : List Int} {z3 : List ScV} {k : Nat} {key : Int} {Q : Exit → Act → World → Prop} {J K JE KE : Act → World → Prop}
noncomputable def cTail2 : Code := (Try.f5.body.bind (afterB 8)).getD .skip
set_option maxRecDepth 1000000 in
set_option maxHeartbeats 8000000 in
theorem tail2 {c : Bool} {a : Int} { s0 s2 s3 s4 s9 s10 s11 s12 s13 s14 s17 s18 s19 s20 s21 s22 s23 s24 s25 s26 s27 s28 s29 s30 s31 s32 s33 s34 s35 s36 s37 s38 s39 s40 s41 s42 s43 s44 s45 s46 s47 s48 s49 s50 s51 s52 s53 s54 s55 s56 s57 s58 s59 s60 s61 s62 s63 s64 s65 s66 s67 s68 s69 s70 s71 s72 s73 s74 s75 s76 s77 s78 s79 s80 s81 s82 s83 s84 s85 s86 s87 s88 s89 s90 s91 s92 s93 s94 s95 s96 s97 s98 s99 s100 s101 s102 s103 s104 s105 s106 s107 s108 s109 s110 s111 s112 s113 s114 s115 s116 s117 s118 s119 s120 s121 s122 s123 s124 s125 s126 s127 s128 s129 s130 s131 s132 s133 s134 s135 s136 s137 s138 s139 s140 s141 s142 s143 s144 s145 s146 s147 s148 s149 s150 s151 s152 s153 s154 s155 s156 s157 s158 s159 s160 s161 s162 s163 s164 s165 s166 s167 s168 s169 s170 s171 s172 s173 s174 s175 s176 s177 s178 s179 s180 s181 s182 s183 s184 s185 s186 s187 s188 s189 s190 s191 s192 s193 s194 s195 s196 s197 s198 s199 s200 s201 s202 s203 s204 s205 s206 s207 s208 s209 s210 s211 s212 s213 s214 s215 s216 s217 s218 s219 s220 s221 s222 s223 s224 s225 s226 s227 s228 s229 s230 s231 s232 s233 s234 s235 s236 s237 s238 s239 s240 s241 s242 s243 s244 s245 s246 s247 s248 s249 s250 s251 s252 s253 s254 s255 s256 s257 s258 s259 s260 s261 s262 s263 s264 s265 s266 s267 s268 s269 s270 s271 s272 s273 s274 s275 s276 s277 : Value}
    (hJE : ∀ a' w', PE W t k s0 (.int .i64 key) s2 s3 s9 s22 s23 s24 s25 s26 s27 s28 s29 s30 s31 s32 s33 s34 s35 s36 s37 s38 a' w' → JE a' w') (hKE : ∀ a' w', Met JE a' w' → KE a' w')
    (hI : AtI z1 key z1.length c a)
    (A : All13 W wA oA t S s v1 z1 v2 z2 v3 z3 0 []) (I : I13 W s z1 z2 z3 (k + 1)) (k120 : k < 120) :
    Code.wp Try.prog cTail2 (Exit.inBlock 1 (Exit.then KE Q)) ⟨#[s0, .int .i64 key, s2, s3, s4, .pointer (some ⟨t, 0, none⟩), v1, v2, v3, s9, s10, s11, s12, s13, s14, .bool (c || z3.any fun x => x.sc.has key), .int .i64 a, s17, s18, s19, s20, s21, s22, s23, s24, s25, s26, s27, s28, s29, s30, s31, s32, s33, s34, s35, s36, s37, s38, s39, s40, s41, s42, s43, s44, s45, s46, s47, s48, s49, s50, s51, s52, s53, s54, s55, s56, s57, s58, s59, s60, s61, s62, s63, s64, s65, s66, s67, s68, s69, s70, s71, s72, s73, s74, s75, s76, s77, s78, s79, s80, s81, s82, s83, s84, s85, s86, s87, s88, s89, s90, s91, s92, s93, s94, s95, s96, s97, s98, s99, s100, s101, s102, s103, s104, s105, s106, s107, s108, s109, s110, s111, s112, s113, s114, s115, s116, s117, s118, s119, s120, s121, s122, s123, s124, s125, s126, s127, s128, s129, s130, s131, s132, s133, s134, s135, s136, s137, s138, s139, s140, s141, s142, s143, s144, s145, s146, s147, s148, s149, s150, s151, s152, s153, s154, s155, s156, s157, s158, s159, s160, s161, s162, s163, s164, s165, s166, s167, s168, s169, s170, s171, s172, s173, s174, s175, s176, s177, s178, s179, s180, s181, s182, s183, s184, s185, s186, s187, s188, s189, s190, s191, s192, s193, s194, s195, s196, s197, s198, s199, s200, s201, s202, s203, s204, s205, s206, s207, s208, s209, s210, s211, s212, s213, s214, s215, s216, s217, s218, s219, s220, s221, s222, s223, s224, s225, s226, s227, s228, s229, s230, s231, s232, s233, s234, s235, s236, s237, s238, s239, s240, s241, s242, s243, s244, s245, s246, s247, s248, s249, s250, s251, s252, s253, s254, s255, s256, s257, s258, s259, s260, s261, s262, s263, s264, s265, s266, s267, s268, s269, s270, s271, s272, s273, s274, s275, s276, s277], []⟩ wA := by
  have hL := link_at I hI
  have hC := covers_at I hI
  have hN : s.len = (z1.length : Int) + (z3.length : Int) := by
    unfold RdS.len
    rw [← I.e1, I.e3, List.length_map]
  have EK := Lib.hid I.e1
  have n1 := I.n1
  have n3 := I.n3
  have wl : IntKind.i64.wrap ((z1.length : Int) + (z3.length : Int)) = (z1.length : Int) + (z3.length : Int) := IntWalk.i64_in _ (by omega)
  obtain ⟨A1, c1, e1, _, _⟩ := OwnN.shapeN A.a1
  obtain ⟨A3, c3, e3, _, _⟩ := OwnSv.shape A.a3
  subst e1 e3
  obtain ⟨C, eC⟩ : ∃ C, (c || z3.any fun x => x.sc.has key) = C := ⟨_, rfl⟩
  rw [eC] at hC ⊢
  have HI := Lib.hid I
  clear eC hI I
  conv => arg 2; whnf
  dsimp only
  rcases hL with ⟨rfl, rfl, hl⟩ | ⟨m, rfl, rfl, hm, hl⟩
  · go_wp2_with fail
    refine (rd_link A.r key _ _ hl).mono ?_
    rintro e y1 ⟨rfl, S1, C1, k1⟩
    have B1 := A.step C1 k1
    clear C1 k1 hl A
    go_wp2_with fail
    refine (rd_keys B1.r).mono ?_
    rintro e y2 ⟨vk, S2, rfl, ok, _, C2, k2⟩
    have B2 := B1.step C2 k2
    clear C2 k2 B1
    rw [← EK.out] at ok
    go_wp2_with fail
    refine (sameN_own ok B2.a1 (by omega)).mono ?_
    rintro e y3 ⟨rfl, dd, rfl⟩
    have B3 := B2.quiet (drewN_keep (fun _ => False) _ dd)
    clear B2 ok
    go_wp2_with fail
    refine (rd_covers B3.r key _ hC).mono ?_
    rintro e y4 ⟨rfl, S4, C4, k4⟩
    have B4 := B3.step C4 k4
    clear C4 k4 hC B3
    go_wp2_with fail
    refine (rd_len B4.r _ hN).mono ?_
    rintro e y5 ⟨rfl, S5, C5, k5⟩
    have B5 := B4.step C5 k5
    clear C5 k5 hN B4
    go_wp2_with fail
    go_meet
    case rel => exact ⟨_, S5, s, z1, z2, z3, B5, HI.out⟩
  · obtain ⟨A2, c2, e2⟩ : ∃ g c, v2 = Value.slice (some ⟨g, 0, none⟩) z2.length c := by
      obtain ⟨h1, h2⟩ := A.a2
      rcases h2 with ⟨_, h2⟩ | ⟨g, c, cur, hv, _⟩
      · omega
      · exact ⟨g, c, hv⟩
    subst e2
    obtain ⟨lm, elm⟩ : ∃ lm, z2.getD m 0 = lm := ⟨_, rfl⟩
    rw [elm] at hl
    have ELM := Lib.hid elm
    clear elm
    go_wp2_with fail
    refine (rd_link A.r key _ _ hl).mono ?_
    rintro e y1 ⟨rfl, S1, C1, k1⟩
    have B1 := A.step C1 k1
    clear C1 k1 hl A
    go_wp2_with fail
    refine (rd_keys B1.r).mono ?_
    rintro e y2 ⟨vk, S2, rfl, ok, _, C2, k2⟩
    have B2 := B1.step C2 k2
    clear C2 k2 B1
    rw [← EK.out] at ok
    go_wp2_with fail
    refine (sameN_own ok B2.a1 (by omega)).mono ?_
    rintro e y3 ⟨rfl, dd, rfl⟩
    have B3 := B2.quiet (drewN_keep (fun _ => False) _ dd)
    clear ok
    have cm := OwnU.cell B2.a2 m hm
    rw [ELM.out] at cm
    clear B2
    go_wp2_with fail
    refine (rd_covers B3.r key _ hC).mono ?_
    rintro e y4 ⟨rfl, S4, C4, k4⟩
    have B4 := B3.step C4 k4
    clear C4 k4 hC B3 cm
    go_wp2_with fail
    refine (rd_len B4.r _ hN).mono ?_
    rintro e y5 ⟨rfl, S5, C5, k5⟩
    have B5 := B4.step C5 k5
    clear C5 k5 hN B4
    go_wp2_with fail
    go_meet
    case rel => exact ⟨_, S5, s, z1, z2, z3, B5, HI.out⟩
set_option maxRecDepth 1000000 in
set_option maxHeartbeats 8000000 in
theorem tail { s0 s2 s3 s4 s9 s10 s11 s12 s13 s14 s15 s16 s17 s18 s19 s20 s21 s22 s23 s24 s25 s26 s27 s28 s29 s30 s31 s32 s33 s34 s35 s36 s37 s38 s39 s40 s41 s42 s43 s44 s45 s46 s47 s48 s49 s50 s51 s52 s53 s54 s55 s56 s57 s58 s59 s60 s61 s62 s63 s64 s65 s66 s67 s68 s69 s70 s71 s72 s73 s74 s75 s76 s77 s78 s79 s80 s81 s82 s83 s84 s85 s86 s87 s88 s89 s90 s91 s92 s93 s94 s95 s96 s97 s98 s99 s100 s101 s102 s103 s104 s105 s106 s107 s108 s109 s110 s111 s112 s113 s114 s115 s116 s117 s118 s119 s120 s121 s122 s123 s124 s125 s126 s127 s128 s129 s130 s131 s132 s133 s134 s135 s136 s137 s138 s139 s140 s141 s142 s143 s144 s145 s146 s147 s148 s149 s150 s151 s152 s153 s154 s155 s156 s157 s158 s159 s160 s161 s162 s163 s164 s165 s166 s167 s168 s169 s170 s171 s172 s173 s174 s175 s176 s177 s178 s179 s180 s181 s182 s183 s184 s185 s186 s187 s188 s189 s190 s191 s192 s193 s194 s195 s196 s197 s198 s199 s200 s201 s202 s203 s204 s205 s206 s207 s208 s209 s210 s211 s212 s213 s214 s215 s216 s217 s218 s219 s220 s221 s222 s223 s224 s225 s226 s227 s228 s229 s230 s231 s232 s233 s234 s235 s236 s237 s238 s239 s240 s241 s242 s243 s244 s245 s246 s247 s248 s249 s250 s251 s252 s253 s254 s255 s256 s257 s258 s259 s260 s261 s262 s263 s264 s265 s266 s267 s268 s269 s270 s271 s272 s273 s274 s275 s276 s277 : Value}
    (hJE : ∀ a' w', PE W t k s0 (.int .i64 key) s2 s3 s9 s22 s23 s24 s25 s26 s27 s28 s29 s30 s31 s32 s33 s34 s35 s36 s37 s38 a' w' → JE a' w') (hKE : ∀ a' w', Met JE a' w' → KE a' w')
    (hQp : RowKit.Hid (∀ c a d v w, Q (.panic c) (a.put d v) w → Q (.panic c) a w))
    (A : All13 W wA oA t S s v1 z1 v2 z2 v3 z3 0 []) (I : I13 W s z1 z2 z3 (k + 1)) (k120 : k < 120) :
    Code.wp Try.prog cTail (Exit.inBlock 1 (Exit.then KE Q)) ⟨#[s0, .int .i64 key, s2, s3, s4, .pointer (some ⟨t, 0, none⟩), v1, v2, v3, s9, s10, s11, s12, s13, s14, s15, s16, s17, s18, s19, s20, s21, s22, s23, s24, s25, s26, s27, s28, s29, s30, s31, s32, s33, s34, s35, s36, s37, s38, s39, s40, s41, s42, s43, s44, s45, s46, s47, s48, s49, s50, s51, s52, s53, s54, s55, s56, s57, s58, s59, s60, s61, s62, s63, s64, s65, s66, s67, s68, s69, s70, s71, s72, s73, s74, s75, s76, s77, s78, s79, s80, s81, s82, s83, s84, s85, s86, s87, s88, s89, s90, s91, s92, s93, s94, s95, s96, s97, s98, s99, s100, s101, s102, s103, s104, s105, s106, s107, s108, s109, s110, s111, s112, s113, s114, s115, s116, s117, s118, s119, s120, s121, s122, s123, s124, s125, s126, s127, s128, s129, s130, s131, s132, s133, s134, s135, s136, s137, s138, s139, s140, s141, s142, s143, s144, s145, s146, s147, s148, s149, s150, s151, s152, s153, s154, s155, s156, s157, s158, s159, s160, s161, s162, s163, s164, s165, s166, s167, s168, s169, s170, s171, s172, s173, s174, s175, s176, s177, s178, s179, s180, s181, s182, s183, s184, s185, s186, s187, s188, s189, s190, s191, s192, s193, s194, s195, s196, s197, s198, s199, s200, s201, s202, s203, s204, s205, s206, s207, s208, s209, s210, s211, s212, s213, s214, s215, s216, s217, s218, s219, s220, s221, s222, s223, s224, s225, s226, s227, s228, s229, s230, s231, s232, s233, s234, s235, s236, s237, s238, s239, s240, s241, s242, s243, s244, s245, s246, s247, s248, s249, s250, s251, s252, s253, s254, s255, s256, s257, s258, s259, s260, s261, s262, s263, s264, s265, s266, s267, s268, s269, s270, s271, s272, s273, s274, s275, s276, s277], []⟩ wA := by
  have n1 := I.n1
  have n3 := I.n3
  have e3 : s.scans.length = z3.length := by rw [I.e3, List.length_map]
  conv => arg 2; whnf
  dsimp only
  go_upto_block 6 with fail
  rename_i Ka hKa
  go_cut [15, 16] from 142 to 154 (fun cv av wx => wA = wx ∧ ∃ c a, cv = .bool c ∧ av = .int .i64 a ∧ AtI z1 key z1.length c a)
  case first =>
    rename_i J6 K6 hJ6 hK6
    exact atLoop hJ6 hK6 A.a1 (by omega)
  case rest =>
  obtain ⟨rfl, c, a, rfl, rfl, hI⟩ := hcut
  go_wp2_with fail
  refine (rd_spans A.r).mono ?_
  rintro e y1 ⟨vx, S1, T1, rfl, ox, _, C1, k1⟩
  have B1 := A.step C1 k1
  clear C1 k1 A
  obtain ⟨⟨Ax, cx, rfl, _⟩, _, _⟩ := id ox
  rw [e3] at ox ⊢
  obtain ⟨A3, c3, ev3, _, _⟩ := OwnSv.shape B1.a3
  subst ev3
  go_upto_block 8 with fail
  rename_i Kb hKb
  go_cut [15] from 162 to 224 (fun cv wx => cv = .bool (c || z3.any fun x => x.sc.has key) ∧ ∃ d : Nat, wx = y1.drewN d)
  case first =>
    rename_i J7 K7 hJ7 hK7
    have hl : ∀ x ∈ z3, Lies y1 x.v x.z ∧ x.z.length ≤ 100 := fun x hx => ⟨Lies.below B1.r.b (I.l3 x hx).1, (I.l3 x hx).2⟩
    have ox2 : OwnSc wA.heap.size y1 (.slice Ax z3.length cx) (z3.map ScV.sc) T1 := by rw [← I.e3]; exact ox
    exact scLoop hJ7 hK7 (Lib.hid fun c a d v w h => hQp.out c a d v w h) B1.a3 ox2 n3 hl
  case rest =>
  obtain ⟨rfl, d, rfl⟩ := hcut
  have B2 := B1.quiet (drewN_keep (fun _ => False) y1 d)
  exact hKb _ _ (tail2 hJE hKE hI B2 I k120)
end
end Go.Proofs.Ytafcmcpnmkmlbaa.readsPlays
