/- Several texts, one behind the other: HpT, HpH. -/
import Derived.Test.YtmfpjnlplimkeaaGreatLawHashPlaysZas
import Derived.Test.YtmfpjnlplimkeaaGreatLawHashPlaysZah
import Derived.Test.YtmfpjnlplimkeaaGreatLawHashPlaysZat
/- HashPlays, a round's end: keys and buckets are told; conditions: what the parts before it have laid. -/
namespace Go.Proofs.YtmfpjnlplimkeaaGreat.hashPlays
open Go.ChangeShapes Go.WideShapes Go.ChangeAt Go.RowKit
set_option linter.unusedVariables false
noncomputable def cTail2 : Code := (Tryz.f4.body.bind (afterB 7)).getD .skip
noncomputable def cTail3 : Code := (Tryz.f4.body.bind (afterB 9)).getD .skip
theorem bin_cons {n b : Int} {y : Nat} {q : List Nat} : bin n b (y :: q) = if bktI (y : Int) n = b then bin n b q ++ [(y : Int)] else bin n b q := by
  unfold bin
  by_cases h : bktI (y : Int) n = b
  · rw [if_pos h]; simp [h]
  · rw [if_neg h]; simp [h]
theorem bin_next {n b : Int} {q : List Nat} {m : Nat} (hm : m < q.length) : bin n b (q.drop m) = if bktI ((q.getD m 0 : Nat) : Int) n = b then bin n b (q.drop (m + 1)) ++ [((q.getD m 0 : Nat) : Int)] else bin n b (q.drop (m + 1)) := by
  have e : q.getD m 0 = q[m] := by rw [List.getD_eq_getElem?_getD, List.getElem?_eq_getElem hm]; rfl
  rw [e, List.drop_eq_getElem_cons hm, bin_cons]
section
variable {W wA : World} {oA : Nat → Nat} {x p n : Nat} {S : Nat → Prop} {s : RS} {h : HS} {D : Nat → Nat → Prop} {k b9 b10 : Nat} {f9 : Nat → Bool} {f10 : Nat → Int} {v1 : Value} {z1 : List Int} {ob : Nat} {key : Int} {inB isB : Bool} {cv : Value} {Q : Exit → Act → World → Prop} {J K JE KE : Act → World → Prop}
set_option maxRecDepth 1000000 in
set_option maxHeartbeats 16000000 in
theorem tail3 {v2 v3 : Value} {kd b : Int} { s1 s2 s3 s4 s6 s8 s14 s15 s16 s17 s18 s19 s20 s21 s22 s23 s24 s28 s29 s30 s31 s32 s33 s34 s35 s36 s37 s38 s39 s40 s41 s42 s43 s44 s45 s46 s47 s48 s49 s50 s51 s52 s53 s54 s55 s56 s57 s58 s59 s60 s61 s62 s63 s64 s65 s66 s67 s68 s69 s70 s71 s72 s73 s74 s75 s76 s77 s78 s79 s80 s81 s82 s83 s84 s85 s86 s87 s88 s89 s90 s91 s92 s93 s94 s95 s96 s97 s98 s99 s100 s101 s102 s103 s104 s105 s106 s107 s108 s109 s110 s111 s112 s113 s114 s115 s116 s117 s118 s119 s120 s121 s122 s123 s124 s125 s126 s127 s128 s129 s130 s131 s132 s133 s134 s135 s136 s137 s138 s139 s140 s141 s142 s143 s144 s145 s146 s147 s148 s149 s150 s151 s152 s153 s154 s155 s156 s157 s158 s159 s160 s161 s162 s163 s164 s165 s166 s167 s168 s169 s170 s171 s172 s173 s174 s175 s176 s177 s178 s179 s180 s181 s182 s183 s184 s185 s186 s187 s188 s189 s190 s191 s192 s193 s194 s195 s196 s197 s198 s199 s200 s201 s202 s203 s204 s205 s206 s207 s208 s209 s210 s211 s212 s213 s214 s215 s216 s217 s218 s219 s220 s221 s222 s223 s224 s225 s226 s227 s228 s229 s230 s231 s232 s233 s234 s235 s236 s237 s238 s239 s240 s241 s242 s243 s244 s245 s246 s247 s248 s249 s250 s251 s252 s253 s254 s255 s256 s257 s258 s259 s260 s261 s262 s263 s264 s265 s266 s267 s268 s269 s270 s271 s272 s273 s274 s275 s276 s277 s278 s279 s280 s281 s282 s283 s284 s285 s286 s287 s288 s289 s290 s291 s292 s293 s294 s295 s296 s297 s298 s299 s300 s301 s302 s303 s304 s305 s306 s307 s308 s309 s310 s311 s312 s313 s314 s315 s316 s317 s318 s319 s320 s321 s322 s323 s324 s325 s326 s327 s328 s329 s330 s331 s332 s333 s334 s335 s336 s337 s338 s339 : Value}
    (hJE : ∀ a' w', PE W x p n b9 b10 k (.int .i64 n) s1 s2 s3 s6 s8 s30 s31 s32 s33 s34 s35 s36 s37 s38 s39 s40 s41 s42 s43 s44 s45 s46 s47 s48 s49 s50 s51 s52 s53 s54 s55 s56 s57 s58 s59 s60 s61 s62 s63 s64 s65 s66 s67 s68 s69 s70 s71 s72 s73 s74 s75 s76 s77 s78 s79 s80 s329 s330 s331 s332 s333 s334 s335 s336 s337 s338 s339 a' w' → JE a' w') (hKE : ∀ a' w', Met JE a' w' → KE a' w')
    (hQp : RowKit.Hid (∀ c a d v w, Q (.panic c) (a.put d v) w → Q (.panic c) a w)) (n0 : 1 ≤ n) (n1 : n ≤ 64) (k80 : k < 80) (I : I10 h f9 f10 z1 (k + 1))
    (eb : bktI key (n : Int) = b)
    (A : All10 W wA oA x p n S s h D (500000 + 1000000 * k) b9 f9 b10 f10 v1 z1 v2 (h.keys 64) v3 (bin (n : Int) b h.put) ob [.int .i64 kd, .int .i64 key]) :
    Code.wp Tryz.prog cTail3 (Exit.inBlock 1 (Exit.then KE Q)) ⟨#[.int .i64 n, s1, s2, s3, s4, .pointer (some ⟨p, 0, none⟩), s6, .pointer (some ⟨x, 0, none⟩), s8, .pointer (some ⟨b9, 0, none⟩), .pointer (some ⟨b10, 0, none⟩), v1, .int .i64 k, .pointer (some ⟨ob, 0, none⟩), s14, s15, s16, s17, s18, s19, s20, s21, s22, s23, s24, v2, v3, .int .i64 b, s28, s29, s30, s31, s32, s33, s34, s35, s36, s37, s38, s39, s40, s41, s42, s43, s44, s45, s46, s47, s48, s49, s50, s51, s52, s53, s54, s55, s56, s57, s58, s59, s60, s61, s62, s63, s64, s65, s66, s67, s68, s69, s70, s71, s72, s73, s74, s75, s76, s77, s78, s79, s80, s81, s82, s83, s84, s85, s86, s87, s88, s89, s90, s91, s92, s93, s94, s95, s96, s97, s98, s99, s100, s101, s102, s103, s104, s105, s106, s107, s108, s109, s110, s111, s112, s113, s114, s115, s116, s117, s118, s119, s120, s121, s122, s123, s124, s125, s126, s127, s128, s129, s130, s131, s132, s133, s134, s135, s136, s137, s138, s139, s140, s141, s142, s143, s144, s145, s146, s147, s148, s149, s150, s151, s152, s153, s154, s155, s156, s157, s158, s159, s160, s161, s162, s163, s164, s165, s166, s167, s168, s169, s170, s171, s172, s173, s174, s175, s176, s177, s178, s179, s180, s181, s182, s183, s184, s185, s186, s187, s188, s189, s190, s191, s192, s193, s194, s195, s196, s197, s198, s199, s200, s201, s202, s203, s204, s205, s206, s207, s208, s209, s210, s211, s212, s213, s214, s215, s216, s217, s218, s219, s220, s221, s222, s223, s224, s225, s226, s227, s228, s229, s230, s231, s232, s233, s234, s235, s236, s237, s238, s239, s240, s241, s242, s243, s244, s245, s246, s247, s248, s249, s250, s251, s252, s253, s254, s255, s256, s257, s258, s259, s260, s261, s262, s263, s264, s265, s266, s267, s268, s269, s270, s271, s272, s273, s274, s275, s276, s277, s278, s279, s280, s281, s282, s283, s284, s285, s286, s287, s288, s289, s290, s291, s292, s293, s294, s295, s296, s297, s298, s299, s300, s301, s302, s303, s304, s305, s306, s307, s308, s309, s310, s311, s312, s313, s314, s315, s316, s317, s318, s319, s320, s321, s322, s323, s324, s325, s326, s327, s328, s329, s330, s331, s332, s333, s334, s335, s336, s337, s338, s339], []⟩ wA := by
  have x1 := A.co 1 _ rfl
  have kl := h.keys_len 64
  have bl : (bin (n : Int) b h.put).length ≤ 64 := Nat.le_trans bin_len A.r.hk.short
  have hb := x_bucket key (n : Int)
  rw [eb] at hb
  conv => arg 2; whnf
  dsimp only
  go_wp2_with fail
  refine (hb _).mono ?_
  rintro e y1 ⟨rfl, rfl⟩
  clear hb x1
  go_wp2_with fail
  refine (x_keys A.r (by omega)).mono ?_
  rintro e y2 ⟨v5, S5, t5, rfl, o5, d5, e5, C5, k5⟩
  have A := A.step C5 k5
  clear C5 k5
  go_wp2_with fail
  refine (sameN_own o5 A.a2 (by omega)).mono ?_
  rintro e y3 ⟨rfl, dd, rfl⟩
  have A := A.quiet (drewN_keep (fun _ => False) _ dd)
  clear o5 d5
  by_cases b0 : 0 ≤ b
  · have d0 : decide (0 ≤ b) = true := decide_eq_true b0
    have bn : b < n := by
      by_cases hk : 0 ≤ key ∧ key ≤ 63
      · rw [← eb]; exact (bktI_b key n hk.1 hk.2 (by omega) (by omega)).2
      · unfold bktI at eb; rw [if_pos (by omega)] at eb; omega
    have hin : h.inB (n : Int) b = bin (n : Int) b h.put := by unfold HS.inB; rw [if_neg (by omega)]
    clear eb
    go_wp2_with fail
    refine (x_in A.r (by omega) b _ hin).mono ?_
    rintro e y4 ⟨v6, S6, t6, rfl, o6, d6, e6, C6, k6⟩
    have A := A.step C6 k6
    clear C6 k6 hin
    go_wp2_with fail
    refine (sameN_own o6 A.a3 (by omega)).mono ?_
    rintro e y5 ⟨rfl, de, rfl⟩
    have A := A.quiet (drewN_keep (fun _ => False) _ de)
    clear o6 d6
    go_wp2_with fail
    go_meet
    case rel => exact ⟨_, S6, t6, h, D, f9, f10, z1, ob, (A.rot.nil1.rot.nil1.rot.noop).up (by omega), I⟩
  · have d0 : decide (0 ≤ b) = false := decide_eq_false b0
    clear eb
    go_wp2_with fail
    go_meet
    case rel => exact ⟨_, S5, t5, h, D, f9, f10, z1, ob, (A.rot.nil1.rot.nil1.rot.noop).up (by omega), I⟩
set_option maxRecDepth 1000000 in
set_option maxHeartbeats 16000000 in
theorem tail2 {v2 : Value} {kd b : Int} { s1 s2 s3 s4 s6 s8 s14 s15 s16 s17 s18 s19 s20 s21 s22 s23 s24 s28 s29 s30 s31 s32 s33 s34 s35 s36 s37 s38 s39 s40 s41 s42 s43 s44 s45 s46 s47 s48 s49 s50 s51 s52 s53 s54 s55 s56 s57 s58 s59 s60 s61 s62 s63 s64 s65 s66 s67 s68 s69 s70 s71 s72 s73 s74 s75 s76 s77 s78 s79 s80 s81 s82 s83 s84 s85 s86 s87 s88 s89 s90 s91 s92 s93 s94 s95 s96 s97 s98 s99 s100 s101 s102 s103 s104 s105 s106 s107 s108 s109 s110 s111 s112 s113 s114 s115 s116 s117 s118 s119 s120 s121 s122 s123 s124 s125 s126 s127 s128 s129 s130 s131 s132 s133 s134 s135 s136 s137 s138 s139 s140 s141 s142 s143 s144 s145 s146 s147 s148 s149 s150 s151 s152 s153 s154 s155 s156 s157 s158 s159 s160 s161 s162 s163 s164 s165 s166 s167 s168 s169 s170 s171 s172 s173 s174 s175 s176 s177 s178 s179 s180 s181 s182 s183 s184 s185 s186 s187 s188 s189 s190 s191 s192 s193 s194 s195 s196 s197 s198 s199 s200 s201 s202 s203 s204 s205 s206 s207 s208 s209 s210 s211 s212 s213 s214 s215 s216 s217 s218 s219 s220 s221 s222 s223 s224 s225 s226 s227 s228 s229 s230 s231 s232 s233 s234 s235 s236 s237 s238 s239 s240 s241 s242 s243 s244 s245 s246 s247 s248 s249 s250 s251 s252 s253 s254 s255 s256 s257 s258 s259 s260 s261 s262 s263 s264 s265 s266 s267 s268 s269 s270 s271 s272 s273 s274 s275 s276 s277 s278 s279 s280 s281 s282 s283 s284 s285 s286 s287 s288 s289 s290 s291 s292 s293 s294 s295 s296 s297 s298 s299 s300 s301 s302 s303 s304 s305 s306 s307 s308 s309 s310 s311 s312 s313 s314 s315 s316 s317 s318 s319 s320 s321 s322 s323 s324 s325 s326 s327 s328 s329 s330 s331 s332 s333 s334 s335 s336 s337 s338 s339 : Value}
    (hJE : ∀ a' w', PE W x p n b9 b10 k (.int .i64 n) s1 s2 s3 s6 s8 s30 s31 s32 s33 s34 s35 s36 s37 s38 s39 s40 s41 s42 s43 s44 s45 s46 s47 s48 s49 s50 s51 s52 s53 s54 s55 s56 s57 s58 s59 s60 s61 s62 s63 s64 s65 s66 s67 s68 s69 s70 s71 s72 s73 s74 s75 s76 s77 s78 s79 s80 s329 s330 s331 s332 s333 s334 s335 s336 s337 s338 s339 a' w' → JE a' w') (hKE : ∀ a' w', Met JE a' w' → KE a' w')
    (hQp : RowKit.Hid (∀ c a d v w, Q (.panic c) (a.put d v) w → Q (.panic c) a w)) (n0 : 1 ≤ n) (n1 : n ≤ 64) (k80 : k < 80) (I : I10 h f9 f10 z1 (k + 1))
    (eb : bktI key (n : Int) = b)
    (A : All10 W wA oA x p n S s h D (500000 + 1000000 * k) b9 f9 b10 f10 v1 z1 v2 (h.keys 64) (.slice none 0 0) [] ob [.int .i64 kd, .int .i64 key]) :
    Code.wp Tryz.prog cTail2 (Exit.inBlock 1 (Exit.then KE Q)) ⟨#[.int .i64 n, s1, s2, s3, s4, .pointer (some ⟨p, 0, none⟩), s6, .pointer (some ⟨x, 0, none⟩), s8, .pointer (some ⟨b9, 0, none⟩), .pointer (some ⟨b10, 0, none⟩), v1, .int .i64 k, .pointer (some ⟨ob, 0, none⟩), s14, s15, s16, s17, s18, s19, s20, s21, s22, s23, s24, v2, .slice none 0 0, .int .i64 b, s28, s29, s30, s31, s32, s33, s34, s35, s36, s37, s38, s39, s40, s41, s42, s43, s44, s45, s46, s47, s48, s49, s50, s51, s52, s53, s54, s55, s56, s57, s58, s59, s60, s61, s62, s63, s64, s65, s66, s67, s68, s69, s70, s71, s72, s73, s74, s75, s76, s77, s78, s79, s80, s81, s82, s83, s84, s85, s86, s87, s88, s89, s90, s91, s92, s93, s94, s95, s96, s97, s98, s99, s100, s101, s102, s103, s104, s105, s106, s107, s108, s109, s110, s111, s112, s113, s114, s115, s116, s117, s118, s119, s120, s121, s122, s123, s124, s125, s126, s127, s128, s129, s130, s131, s132, s133, s134, s135, s136, s137, s138, s139, s140, s141, s142, s143, s144, s145, s146, s147, s148, s149, s150, s151, s152, s153, s154, s155, s156, s157, s158, s159, s160, s161, s162, s163, s164, s165, s166, s167, s168, s169, s170, s171, s172, s173, s174, s175, s176, s177, s178, s179, s180, s181, s182, s183, s184, s185, s186, s187, s188, s189, s190, s191, s192, s193, s194, s195, s196, s197, s198, s199, s200, s201, s202, s203, s204, s205, s206, s207, s208, s209, s210, s211, s212, s213, s214, s215, s216, s217, s218, s219, s220, s221, s222, s223, s224, s225, s226, s227, s228, s229, s230, s231, s232, s233, s234, s235, s236, s237, s238, s239, s240, s241, s242, s243, s244, s245, s246, s247, s248, s249, s250, s251, s252, s253, s254, s255, s256, s257, s258, s259, s260, s261, s262, s263, s264, s265, s266, s267, s268, s269, s270, s271, s272, s273, s274, s275, s276, s277, s278, s279, s280, s281, s282, s283, s284, s285, s286, s287, s288, s289, s290, s291, s292, s293, s294, s295, s296, s297, s298, s299, s300, s301, s302, s303, s304, s305, s306, s307, s308, s309, s310, s311, s312, s313, s314, s315, s316, s317, s318, s319, s320, s321, s322, s323, s324, s325, s326, s327, s328, s329, s330, s331, s332, s333, s334, s335, s336, s337, s338, s339], []⟩ wA := by
  have zl := I.zlen A.r.hk
  have zp : z1.length = h.put.length := by rw [I.ez, List.length_map]
  have zg : ∀ i, i < z1.length → z1.getD i 0 = ((h.put.getD i 0 : Nat) : Int) := fun i hi => by
    rw [I.ez, List.getD_eq_getElem?_getD, List.getElem?_map, List.getD_eq_getElem?_getD, List.getElem?_eq_getElem (by omega)]
    rfl
  have ZP := Lib.hid zp
  have EB := Lib.hid eb
  clear zp eb
  obtain ⟨A1, c1, ev, hA0, hA1⟩ := OwnN.out A.a1
  subst ev
  conv => arg 2; whnf
  dsimp only
  go_upto_block 9 with fail
  rename_i K5 hK5
  go_cut [26] from 282 to 303 (fun v wx => ∃ o', All10 W wx o' x p n S s h D (500000 + 1000000 * k) b9 f9 b10 f10 (.slice A1 z1.length c1) z1 v2 (h.keys 64) v (bin (n : Int) b h.put) ob [.int .i64 kd, .int .i64 key])
  case rest =>
    obtain ⟨o', B⟩ := hcut
    exact hK5 _ _ (tail3 hJE hKE hQp n0 n1 k80 I EB.out B)
  case first =>
  have wl : IntKind.i64.wrap ((z1.length : Int) - 1) = (z1.length : Int) - 1 := IntWalk.i64_in _ (by omega)
  go_wp2_with fail
  go_loopg [26, 29] z1.length (fun m v i wr => ∃ o' a, m ≤ z1.length ∧ a + 1 = (m : Int) ∧ i = .int .i64 a ∧ All10 W wr o' x p n S s h D (500000 + 1000000 * k) b9 f9 b10 f10 (.slice A1 z1.length c1) z1 v2 (h.keys 64) v (bin (n : Int) b (h.put.drop m)) ob [.int .i64 kd, .int .i64 key])
  case atStart => exact ⟨oA, (z1.length : Int) - 1, Nat.le_refl _, by omega, rfl, by have : bin (n : Int) b (h.put.drop z1.length) = [] := (by rw [ZP.out, List.drop_length]; rfl); rw [this]; exact A⟩
  case round =>
    obtain ⟨o', a, ml, ea, rfl, B⟩ := hrel
    clear A
    rcases (show a = -1 ∨ ∃ q' : Nat, a = (q' : Int) by by_cases h0 : a = -1; exact .inl h0; exact .inr ⟨a.toNat, by omega⟩) with rfl | ⟨q', rfl⟩
    · have em : bin (n : Int) b (h.put.drop gk) = bin (n : Int) b h.put := by rw [show gk = 0 by omega]; rfl
      rw [em] at B
      clear em zg hA0 hA1
      go_wp2_with fail
      go_meet
      case rel => exact ⟨o', B⟩
    · obtain rfl : gk = q' + 1 := by omega
      obtain ⟨A3, c3, ev3, _, _⟩ := OwnN.out B.a3
      subst ev3
      cases A1 with
      | none => exact absurd (hA0 rfl) (by intro e; rw [e] at ml; simp at ml)
      | some ad =>
        obtain ⟨g1, rfl⟩ := hA1 _ rfl
        have cq := OwnN.cell B.a1 q' (by omega)
        have bnx := bin_next (n := (n : Int)) (b := b) (q := h.put) (m := q') (by have := ZP.out; omega)
        rw [zg q' (by omega)] at cq
        obtain ⟨y, ey⟩ : ∃ y, h.put.getD q' 0 = y := ⟨_, rfl⟩
        rw [ey] at cq bnx
        obtain ⟨by', eby⟩ : ∃ z, bktI (y : Int) (n : Int) = z := ⟨_, rfl⟩
        have hb := rbucket_any (y : Int) (n : Int)
        rw [eby] at hb bnx
        have q3 : (q' : Int).toNat = q' := by omega
        have q5 : (0 : Int) ≤ (q' : Int) := by omega
        have q6 : q' < z1.length := by omega
        have wq : IntKind.i64.wrap ((q' : Int) - 1) = (q' : Int) - 1 := IntWalk.i64_in _ (by omega)
        have ll3 : (bin (n : Int) b (h.put.drop (q' + 1))).length ≤ 100000 := Nat.le_trans bin_len (by rw [List.length_drop]; have := ZP.out; omega)
        clear ey eby zg hA0 hA1
        by_cases hy : by' = b
        · rw [if_pos hy] at bnx
          subst hy
          go_wp2_with fail
          refine (hb _).mono ?_
          rintro e y7 ⟨rfl, rfl⟩
          clear hb
          go_wp2_with (with_reducible refine wp_stop 303 rfl ?_)
          intro _
          refine wp_pushN rfl (.tmp 297) (.tmp 302) rfl W.heap.size B.r.b.size (.slice A3 _ c3) _ rfl B.a3 (y : Int) rfl ll3 ?_
          intro g3 c3 y3 o3 k3 hg3
          have B := (B.rot.rot.push o3 k3 hg3).rot
          clear o3 k3 hg3
          go_wp2_with fail
          go_roundg q'
          case measure => omega
          case rel => exact ⟨_, _, by omega, by omega, rfl, by rw [bnx]; exact B⟩
        · have b1 : (by' == b) = false := by rw [beq_eq_false_iff_ne]; exact hy
          rw [if_neg hy] at bnx
          go_wp2_with fail
          refine (hb _).mono ?_
          rintro e y7 ⟨rfl, rfl⟩
          clear hb
          go_wp2_with fail
          go_roundg q'
          case measure => omega
          case rel => exact ⟨_, (q' : Int) - 1, by omega, by omega, rfl, by rw [bnx]; exact B⟩
set_option maxRecDepth 1000000 in
set_option maxHeartbeats 16000000 in
theorem tail1 {kd : Int} { s1 s2 s3 s4 s6 s8 s14 s15 s16 s17 s18 s19 s20 s21 s22 s23 s24 s25 s26 s27 s28 s29 s30 s31 s32 s33 s34 s35 s36 s37 s38 s39 s40 s41 s42 s43 s44 s45 s46 s47 s48 s49 s50 s51 s52 s53 s54 s55 s56 s57 s58 s59 s60 s61 s62 s63 s64 s65 s66 s67 s68 s69 s70 s71 s72 s73 s74 s75 s76 s77 s78 s79 s80 s81 s82 s83 s84 s85 s86 s87 s88 s89 s90 s91 s92 s93 s94 s95 s96 s97 s98 s99 s100 s101 s102 s103 s104 s105 s106 s107 s108 s109 s110 s111 s112 s113 s114 s115 s116 s117 s118 s119 s120 s121 s122 s123 s124 s125 s126 s127 s128 s129 s130 s131 s132 s133 s134 s135 s136 s137 s138 s139 s140 s141 s142 s143 s144 s145 s146 s147 s148 s149 s150 s151 s152 s153 s154 s155 s156 s157 s158 s159 s160 s161 s162 s163 s164 s165 s166 s167 s168 s169 s170 s171 s172 s173 s174 s175 s176 s177 s178 s179 s180 s181 s182 s183 s184 s185 s186 s187 s188 s189 s190 s191 s192 s193 s194 s195 s196 s197 s198 s199 s200 s201 s202 s203 s204 s205 s206 s207 s208 s209 s210 s211 s212 s213 s214 s215 s216 s217 s218 s219 s220 s221 s222 s223 s224 s225 s226 s227 s228 s229 s230 s231 s232 s233 s234 s235 s236 s237 s238 s239 s240 s241 s242 s243 s244 s245 s246 s247 s248 s249 s250 s251 s252 s253 s254 s255 s256 s257 s258 s259 s260 s261 s262 s263 s264 s265 s266 s267 s268 s269 s270 s271 s272 s273 s274 s275 s276 s277 s278 s279 s280 s281 s282 s283 s284 s285 s286 s287 s288 s289 s290 s291 s292 s293 s294 s295 s296 s297 s298 s299 s300 s301 s302 s303 s304 s305 s306 s307 s308 s309 s310 s311 s312 s313 s314 s315 s316 s317 s318 s319 s320 s321 s322 s323 s324 s325 s326 s327 s328 s329 s330 s331 s332 s333 s334 s335 s336 s337 s338 s339 : Value}
    (hJE : ∀ a' w', PE W x p n b9 b10 k (.int .i64 n) s1 s2 s3 s6 s8 s30 s31 s32 s33 s34 s35 s36 s37 s38 s39 s40 s41 s42 s43 s44 s45 s46 s47 s48 s49 s50 s51 s52 s53 s54 s55 s56 s57 s58 s59 s60 s61 s62 s63 s64 s65 s66 s67 s68 s69 s70 s71 s72 s73 s74 s75 s76 s77 s78 s79 s80 s329 s330 s331 s332 s333 s334 s335 s336 s337 s338 s339 a' w' → JE a' w') (hKE : ∀ a' w', Met JE a' w' → KE a' w')
    (hQp : RowKit.Hid (∀ c a d v w, Q (.panic c) (a.put d v) w → Q (.panic c) a w)) (n0 : 1 ≤ n) (n1 : n ≤ 64) (k80 : k < 80) (I : I10 h f9 f10 z1 (k + 1))
    (A : All10 W wA oA x p n S s h D (500000 + 1000000 * k) b9 f9 b10 f10 v1 z1 (.slice none 0 0) [] (.slice none 0 0) [] ob [.int .i64 kd, .int .i64 key]) :
    Code.wp Tryz.prog cTail (Exit.inBlock 1 (Exit.then KE Q)) ⟨#[.int .i64 n, s1, s2, s3, s4, .pointer (some ⟨p, 0, none⟩), s6, .pointer (some ⟨x, 0, none⟩), s8, .pointer (some ⟨b9, 0, none⟩), .pointer (some ⟨b10, 0, none⟩), v1, .int .i64 k, .pointer (some ⟨ob, 0, none⟩), s14, s15, s16, s17, s18, s19, s20, s21, s22, s23, s24, s25, s26, s27, s28, s29, s30, s31, s32, s33, s34, s35, s36, s37, s38, s39, s40, s41, s42, s43, s44, s45, s46, s47, s48, s49, s50, s51, s52, s53, s54, s55, s56, s57, s58, s59, s60, s61, s62, s63, s64, s65, s66, s67, s68, s69, s70, s71, s72, s73, s74, s75, s76, s77, s78, s79, s80, s81, s82, s83, s84, s85, s86, s87, s88, s89, s90, s91, s92, s93, s94, s95, s96, s97, s98, s99, s100, s101, s102, s103, s104, s105, s106, s107, s108, s109, s110, s111, s112, s113, s114, s115, s116, s117, s118, s119, s120, s121, s122, s123, s124, s125, s126, s127, s128, s129, s130, s131, s132, s133, s134, s135, s136, s137, s138, s139, s140, s141, s142, s143, s144, s145, s146, s147, s148, s149, s150, s151, s152, s153, s154, s155, s156, s157, s158, s159, s160, s161, s162, s163, s164, s165, s166, s167, s168, s169, s170, s171, s172, s173, s174, s175, s176, s177, s178, s179, s180, s181, s182, s183, s184, s185, s186, s187, s188, s189, s190, s191, s192, s193, s194, s195, s196, s197, s198, s199, s200, s201, s202, s203, s204, s205, s206, s207, s208, s209, s210, s211, s212, s213, s214, s215, s216, s217, s218, s219, s220, s221, s222, s223, s224, s225, s226, s227, s228, s229, s230, s231, s232, s233, s234, s235, s236, s237, s238, s239, s240, s241, s242, s243, s244, s245, s246, s247, s248, s249, s250, s251, s252, s253, s254, s255, s256, s257, s258, s259, s260, s261, s262, s263, s264, s265, s266, s267, s268, s269, s270, s271, s272, s273, s274, s275, s276, s277, s278, s279, s280, s281, s282, s283, s284, s285, s286, s287, s288, s289, s290, s291, s292, s293, s294, s295, s296, s297, s298, s299, s300, s301, s302, s303, s304, s305, s306, s307, s308, s309, s310, s311, s312, s313, s314, s315, s316, s317, s318, s319, s320, s321, s322, s323, s324, s325, s326, s327, s328, s329, s330, s331, s332, s333, s334, s335, s336, s337, s338, s339], []⟩ wA := by
  have x1 := A.co 1 _ rfl
  obtain ⟨b, eb⟩ : ∃ b, bktI key (n : Int) = b := ⟨_, rfl⟩
  have hb := rbucket_any key (n : Int)
  rw [eb] at hb
  have EB := Lib.hid eb
  clear eb
  conv => arg 2; whnf
  dsimp only
  go_wp2_with fail
  refine (hb _).mono ?_
  rintro e y1 ⟨rfl, rfl⟩
  clear hb x1
  go_upto_block 7 with fail
  rename_i K5 hK5
  go_cut [25] from 271 to 281 (fun v wx => ∃ o', All10 W wx o' x p n S s h D (500000 + 1000000 * k) b9 f9 b10 f10 v1 z1 v (h.keys 64) (.slice none 0 0) [] ob [.int .i64 kd, .int .i64 key])
  case rest =>
    obtain ⟨o', B⟩ := hcut
    exact hK5 _ _ (tail2 hJE hKE hQp n0 n1 k80 I EB.out B)
  case first =>
  go_wp2_with fail
  go_loopg [25, 28] 64 (fun m v i wr => ∃ o' q', m + q' = 64 ∧ i = .int .i64 q' ∧ All10 W wr o' x p n S s h D (500000 + 1000000 * k) b9 f9 b10 f10 v1 z1 v (h.keys q') (.slice none 0 0) [] ob [.int .i64 kd, .int .i64 key])
  case atStart => exact ⟨oA, 0, rfl, rfl, A⟩
  case round =>
    obtain ⟨o', q', hq, rfl, B⟩ := hrel
    clear A
    obtain ⟨A2, c2, ev2, _, _⟩ := OwnN.out B.a2
    subst ev2
    have wq : IntKind.i64.wrap ((q' : Int) + 1) = (q' : Int) + 1 := IntWalk.i64_in _ (by omega)
    by_cases hlt : q' < 64
    · have c9 := B.t9.cell q' hlt
      rw [I.e9 q' hlt] at c9
      have kl := h.keys_len q'
      have q3 : (q' : Int).toNat = q' := by omega
      have q5 : (0 : Int) ≤ (q' : Int) := by omega
      have q6 : (q' : Int) < 64 := by omega
      cases hs : (h.ch q').isSome with
      | true =>
        rw [hs] at c9
        have ek : h.keys (q' + 1) = h.keys q' ++ [(q' : Int)] := by show (if _ then _ else _) = _; rw [if_pos hs]
        clear hs
        go_wp2_with (with_reducible refine wp_stop 281 rfl ?_)
        intro _
        refine wp_pushN rfl (.tmp 278) (.tmp 280) rfl W.heap.size B.r.b.size (.slice A2 (h.keys q').length c2) (h.keys q') rfl B.a2 (q' : Int) rfl (by omega) ?_
        intro g3 c3 y3 o3 k3 hg3
        have B := (B.rot.push o3 k3 hg3).rot.rot
        clear o3 k3 hg3
        go_wp2_with fail
        go_roundg (64 - (q' + 1))
        case measure => omega
        case rel => exact ⟨_, q' + 1, by omega, by go_num, by rw [ek]; exact B⟩
      | false =>
        rw [hs] at c9
        have ek : h.keys (q' + 1) = h.keys q' := by show (if _ then _ else _) = _; rw [if_neg (by simp [hs])]
        clear hs
        go_wp2_with fail
        go_roundg (64 - (q' + 1))
        case measure => omega
        case rel => exact ⟨_, q' + 1, by omega, by go_num, by rw [ek]; exact B⟩
    · obtain rfl : q' = 64 := by omega
      go_wp2_with fail
      go_meet
      case rel => exact ⟨o', B⟩
end
end Go.Proofs.YtmfpjnlplimkeaaGreat.hashPlays
/- HashPlays, a round; conditions: what the parts before it have laid. -/
namespace Go.Proofs.YtmfpjnlplimkeaaGreat.hashPlays
open Go.ChangeShapes Go.WideShapes Go.ChangeAt Go.RowKit
set_option linter.unusedVariables false
section
variable {W wA : World} {oA : Nat → Nat} {x p n : Nat} {S : Nat → Prop} {s : RS} {h : HS} {D : Nat → Nat → Prop} {k b9 b10 : Nat} {f9 : Nat → Bool} {f10 : Nat → Int} {v1 : Value} {z1 : List Int} {ob : Nat} {key : Int} {inB isB : Bool} {cv : Value} {Q : Exit → Act → World → Prop} {J K JE KE : Act → World → Prop}
set_option maxRecDepth 1000000 in
set_option maxHeartbeats 16000000 in
theorem round1 {kd : Int} { s1 s2 s3 s4 s6 s8 s18 s19 s20 s21 s22 s23 s24 s25 s26 s27 s28 s29 s30 s31 s32 s33 s34 s35 s36 s37 s38 s39 s40 s41 s42 s43 s44 s45 s46 s47 s48 s49 s50 s51 s52 s53 s54 s55 s56 s57 s58 s59 s60 s61 s62 s63 s64 s65 s66 s67 s68 s69 s70 s71 s72 s73 s74 s75 s76 s77 s78 s79 s80 s81 s82 s83 s84 s85 s86 s87 s88 s89 s90 s91 s92 s93 s94 s95 s96 s97 s98 s99 s100 s101 s102 s103 s104 s105 s106 s107 s108 s109 s110 s111 s112 s113 s114 s115 s116 s117 s118 s119 s120 s121 s122 s123 s124 s125 s126 s127 s128 s129 s130 s131 s132 s133 s134 s135 s136 s137 s138 s139 s140 s141 s142 s143 s144 s145 s146 s147 s148 s149 s150 s151 s152 s153 s154 s155 s156 s157 s158 s159 s160 s161 s162 s163 s164 s165 s166 s167 s168 s169 s170 s171 s172 s173 s174 s175 s176 s177 s178 s179 s180 s181 s182 s183 s184 s185 s186 s187 s188 s189 s190 s191 s192 s193 s194 s195 s196 s197 s198 s199 s200 s201 s202 s203 s204 s205 s206 s207 s208 s209 s210 s211 s212 s213 s214 s215 s216 s217 s218 s219 s220 s221 s222 s223 s224 s225 s226 s227 s228 s229 s230 s231 s232 s233 s234 s235 s236 s237 s238 s239 s240 s241 s242 s243 s244 s245 s246 s247 s248 s249 s250 s251 s252 s253 s254 s255 s256 s257 s258 s259 s260 s261 s262 s263 s264 s265 s266 s267 s268 s269 s270 s271 s272 s273 s274 s275 s276 s277 s278 s279 s280 s281 s282 s283 s284 s285 s286 s287 s288 s289 s290 s291 s292 s293 s294 s295 s296 s297 s298 s299 s300 s301 s302 s303 s304 s305 s306 s307 s308 s309 s310 s311 s312 s313 s314 s315 s316 s317 s318 s319 s320 s321 s322 s323 s324 s325 s326 s327 s328 s329 s330 s331 s332 s333 s334 s335 s336 s337 s338 s339 : Value}
    (hJE : ∀ a' w', PE W x p n b9 b10 k (.int .i64 n) s1 s2 s3 s6 s8 s30 s31 s32 s33 s34 s35 s36 s37 s38 s39 s40 s41 s42 s43 s44 s45 s46 s47 s48 s49 s50 s51 s52 s53 s54 s55 s56 s57 s58 s59 s60 s61 s62 s63 s64 s65 s66 s67 s68 s69 s70 s71 s72 s73 s74 s75 s76 s77 s78 s79 s80 s329 s330 s331 s332 s333 s334 s335 s336 s337 s338 s339 a' w' → JE a' w') (hKE : ∀ a' w', Met JE a' w' → KE a' w')
    (hQp : RowKit.Hid (∀ c a d v w, Q (.panic c) (a.put d v) w → Q (.panic c) a w)) (n0 : 1 ≤ n) (n1 : n ≤ 64) (k80 : k < 80) (I : I10 h f9 f10 z1 k)
    (A : All10 W wA oA x p n S s h D (40000 + 1000000 * k) b9 f9 b10 f10 v1 z1 (.slice none 0 0) [] (.slice none 0 0) [] ob [.int .i64 kd, .int .i64 key]) (KI : KeyI h D key inB isB cv) :
    Code.wp Tryz.prog cRound1 (Exit.inBlock 1 (Exit.then KE Q)) ⟨#[.int .i64 n, s1, s2, s3, s4, .pointer (some ⟨p, 0, none⟩), s6, .pointer (some ⟨x, 0, none⟩), s8, .pointer (some ⟨b9, 0, none⟩), .pointer (some ⟨b10, 0, none⟩), v1, .int .i64 k, .pointer (some ⟨ob, 0, none⟩), .bool inB, .bool isB, cv, .bool isB, s18, s19, s20, s21, s22, s23, s24, s25, s26, s27, s28, s29, s30, s31, s32, s33, s34, s35, s36, s37, s38, s39, s40, s41, s42, s43, s44, s45, s46, s47, s48, s49, s50, s51, s52, s53, s54, s55, s56, s57, s58, s59, s60, s61, s62, s63, s64, s65, s66, s67, s68, s69, s70, s71, s72, s73, s74, s75, s76, s77, s78, s79, s80, s81, s82, s83, s84, s85, s86, s87, s88, s89, s90, s91, s92, s93, s94, s95, s96, s97, s98, s99, s100, s101, s102, s103, s104, s105, s106, s107, s108, s109, s110, s111, s112, s113, s114, s115, s116, s117, s118, s119, s120, s121, s122, s123, s124, s125, s126, s127, s128, s129, s130, s131, s132, s133, s134, s135, s136, s137, s138, s139, s140, s141, s142, s143, s144, s145, s146, s147, s148, s149, s150, s151, s152, s153, s154, s155, s156, s157, s158, s159, s160, s161, s162, s163, s164, s165, s166, s167, s168, s169, s170, s171, s172, s173, s174, s175, s176, s177, s178, s179, s180, s181, s182, s183, s184, s185, s186, s187, s188, s189, s190, s191, s192, s193, s194, s195, s196, s197, s198, s199, s200, s201, s202, s203, s204, s205, s206, s207, s208, s209, s210, s211, s212, s213, s214, s215, s216, s217, s218, s219, s220, s221, s222, s223, s224, s225, s226, s227, s228, s229, s230, s231, s232, s233, s234, s235, s236, s237, s238, s239, s240, s241, s242, s243, s244, s245, s246, s247, s248, s249, s250, s251, s252, s253, s254, s255, s256, s257, s258, s259, s260, s261, s262, s263, s264, s265, s266, s267, s268, s269, s270, s271, s272, s273, s274, s275, s276, s277, s278, s279, s280, s281, s282, s283, s284, s285, s286, s287, s288, s289, s290, s291, s292, s293, s294, s295, s296, s297, s298, s299, s300, s301, s302, s303, s304, s305, s306, s307, s308, s309, s310, s311, s312, s313, s314, s315, s316, s317, s318, s319, s320, s321, s322, s323, s324, s325, s326, s327, s328, s329, s330, s331, s332, s333, s334, s335, s336, s337, s338, s339], []⟩ wA := by
  have x0 := A.co 0 _ rfl
  conv => arg 2; whnf
  dsimp only
  go_upto_block 2 with fail
  rename_i K5 hK5
  go_cut [11] from 130 to 266 (fun v wx => Mid W x p n b9 b10 ob kd key k v wx)
  case rest =>
    obtain ⟨o', S', s', h', D', f9', f10', z1', B, I'⟩ := hcut
    exact hK5 _ _ (tail1 hJE hKE hQp n0 n1 k80 I' B)
  case first =>
    rename_i J6 K6 hJ6 hK6
    rcases (by omega : kd = 0 ∨ kd = 2 ∨ kd = 3 ∨ kd = 4 ∨ ¬ (kd = 0 ∨ kd = 2 ∨ kd = 3 ∨ kd = 4)) with rfl | rfl | rfl | rfl | hkd
    · exact arm0 hJ6 hK6 hJE hKE hQp k80 I A KI
    · exact arm2 hJ6 hK6 hJE hKE hQp k80 I A KI
    · exact arm3 hJ6 hK6 hJE hKE hQp k80 I A KI
    · exact arm4 hJ6 hK6 hJE hKE hQp k80 I A KI
    · exact armN hJ6 hK6 hJE hKE hQp k80 I A hkd KI
set_option maxRecDepth 1000000 in
set_option maxHeartbeats 16000000 in
theorem body {kd : Int} {b off len1 cap1 : Nat} { s2 s3 s4 s6 s8 s13 s14 s15 s16 s17 s18 s19 s20 s21 s22 s23 s24 s25 s26 s27 s28 s29 s30 s31 s32 s33 s34 s35 s36 s37 s38 s39 s40 s41 s42 s43 s44 s45 s46 s47 s48 s49 s50 s51 s52 s53 s54 s55 s56 s57 s58 s59 s60 s61 s62 s63 s64 s65 s66 s67 s68 s69 s70 s71 s72 s73 s74 s75 s76 s77 s78 s79 s80 s81 s82 s83 s84 s85 s86 s87 s88 s89 s90 s91 s92 s93 s94 s95 s96 s97 s98 s99 s100 s101 s102 s103 s104 s105 s106 s107 s108 s109 s110 s111 s112 s113 s114 s115 s116 s117 s118 s119 s120 s121 s122 s123 s124 s125 s126 s127 s128 s129 s130 s131 s132 s133 s134 s135 s136 s137 s138 s139 s140 s141 s142 s143 s144 s145 s146 s147 s148 s149 s150 s151 s152 s153 s154 s155 s156 s157 s158 s159 s160 s161 s162 s163 s164 s165 s166 s167 s168 s169 s170 s171 s172 s173 s174 s175 s176 s177 s178 s179 s180 s181 s182 s183 s184 s185 s186 s187 s188 s189 s190 s191 s192 s193 s194 s195 s196 s197 s198 s199 s200 s201 s202 s203 s204 s205 s206 s207 s208 s209 s210 s211 s212 s213 s214 s215 s216 s217 s218 s219 s220 s221 s222 s223 s224 s225 s226 s227 s228 s229 s230 s231 s232 s233 s234 s235 s236 s237 s238 s239 s240 s241 s242 s243 s244 s245 s246 s247 s248 s249 s250 s251 s252 s253 s254 s255 s256 s257 s258 s259 s260 s261 s262 s263 s264 s265 s266 s267 s268 s269 s270 s271 s272 s273 s274 s275 s276 s277 s278 s279 s280 s281 s282 s283 s284 s285 s286 s287 s288 s289 s290 s291 s292 s293 s294 s295 s296 s297 s298 s299 s300 s301 s302 s303 s304 s305 s306 s307 s308 s309 s310 s311 s312 s313 s314 s315 s316 s317 s318 s319 s320 s321 s322 s323 s324 s325 s326 s327 s328 s329 s330 s331 s332 s333 s334 s335 s336 s337 s338 s339 : Value}
    (hJE : ∀ a' w', PE W x p n b9 b10 k (.int .i64 n) (.slice (some ⟨b, off, none⟩) len1 cap1) s2 s3 s6 s8 s30 s31 s32 s33 s34 s35 s36 s37 s38 s39 s40 s41 s42 s43 s44 s45 s46 s47 s48 s49 s50 s51 s52 s53 s54 s55 s56 s57 s58 s59 s60 s61 s62 s63 s64 s65 s66 s67 s68 s69 s70 s71 s72 s73 s74 s75 s76 s77 s78 s79 s80 s329 s330 s331 s332 s333 s334 s335 s336 s337 s338 s339 a' w' → JE a' w') (hKE : ∀ a' w', Met JE a' w' → KE a' w')
    (hQp : RowKit.Hid (∀ c a d v w, Q (.panic c) (a.put d v) w → Q (.panic c) a w)) (n0 : 1 ≤ n) (n1 : n ≤ 64) (k80 : k < 80) (I : I10 h f9 f10 z1 k)
    (hl : k < len1) (hlc : len1 ≤ cap1 ∧ cap1 ≤ 9223372036854775807) (kb : -9223372036854775808 ≤ key ∧ key ≤ 9223372036854775807)
    (d0 : wA.cell? ⟨b, off + k * 2, none⟩ = some (.int .i64 kd)) (d1 : wA.cell? ⟨b, off + k * 2 + 1, none⟩ = some (.int .i64 key))
    (A : All10 W wA oA x p n S s h D (20000 + 1000000 * k) b9 f9 b10 f10 v1 z1 (.slice none 0 0) [] (.slice none 0 0) [] ob []) :
    Code.wp Tryz.prog cBody (Exit.then KE Q) ⟨#[.int .i64 n, .slice (some ⟨b, off, none⟩) len1 cap1, s2, s3, s4, .pointer (some ⟨p, 0, none⟩), s6, .pointer (some ⟨x, 0, none⟩), s8, .pointer (some ⟨b9, 0, none⟩), .pointer (some ⟨b10, 0, none⟩), v1, .int .i64 k, s13, s14, s15, s16, s17, s18, s19, s20, s21, s22, s23, s24, s25, s26, s27, s28, s29, s30, s31, s32, s33, s34, s35, s36, s37, s38, s39, s40, s41, s42, s43, s44, s45, s46, s47, s48, s49, s50, s51, s52, s53, s54, s55, s56, s57, s58, s59, s60, s61, s62, s63, s64, s65, s66, s67, s68, s69, s70, s71, s72, s73, s74, s75, s76, s77, s78, s79, s80, s81, s82, s83, s84, s85, s86, s87, s88, s89, s90, s91, s92, s93, s94, s95, s96, s97, s98, s99, s100, s101, s102, s103, s104, s105, s106, s107, s108, s109, s110, s111, s112, s113, s114, s115, s116, s117, s118, s119, s120, s121, s122, s123, s124, s125, s126, s127, s128, s129, s130, s131, s132, s133, s134, s135, s136, s137, s138, s139, s140, s141, s142, s143, s144, s145, s146, s147, s148, s149, s150, s151, s152, s153, s154, s155, s156, s157, s158, s159, s160, s161, s162, s163, s164, s165, s166, s167, s168, s169, s170, s171, s172, s173, s174, s175, s176, s177, s178, s179, s180, s181, s182, s183, s184, s185, s186, s187, s188, s189, s190, s191, s192, s193, s194, s195, s196, s197, s198, s199, s200, s201, s202, s203, s204, s205, s206, s207, s208, s209, s210, s211, s212, s213, s214, s215, s216, s217, s218, s219, s220, s221, s222, s223, s224, s225, s226, s227, s228, s229, s230, s231, s232, s233, s234, s235, s236, s237, s238, s239, s240, s241, s242, s243, s244, s245, s246, s247, s248, s249, s250, s251, s252, s253, s254, s255, s256, s257, s258, s259, s260, s261, s262, s263, s264, s265, s266, s267, s268, s269, s270, s271, s272, s273, s274, s275, s276, s277, s278, s279, s280, s281, s282, s283, s284, s285, s286, s287, s288, s289, s290, s291, s292, s293, s294, s295, s296, s297, s298, s299, s300, s301, s302, s303, s304, s305, s306, s307, s308, s309, s310, s311, s312, s313, s314, s315, s316, s317, s318, s319, s320, s321, s322, s323, s324, s325, s326, s327, s328, s329, s330, s331, s332, s333, s334, s335, s336, s337, s338, s339], []⟩ wA := by
  have eK : ∀ (w' : World), wA.alloc (.cells #[.int .i64 kd, .int .i64 key] 49) = w' → ∃ o', All10 W w' o' x p n S s h D (20000 + 1000000 * k) b9 f9 b10 f10 v1 z1 (.slice none 0 0) [] (.slice none 0 0) [] wA.heap.size [.int .i64 kd, .int .i64 key] := fun w' e => by
    subst e
    refine ⟨_, A.op (Keep.alloc (Keep.refl (fun _ => False) wA) _) (Nat.le_refl _) (by simp) (fun i u hu => ?_)⟩
    match i, hu with
    | 0, hu => simp at hu; subst hu; simp
    | 1, hu => simp at hu; subst hu; simp
  obtain ⟨wB, eB⟩ : ∃ w', wA.alloc (.cells #[.int .i64 kd, .int .i64 key] 49) = w' := ⟨_, rfl⟩
  obtain ⟨oB, B⟩ := eK wB eB
  obtain ⟨oc, eo⟩ : ∃ c, wA.heap.size = c := ⟨_, rfl⟩
  rw [eo] at B
  have x0 := B.co 0 _ rfl
  have x1 := B.co 1 _ rfl
  clear eK A
  conv => arg 2; whnf
  dsimp only
  by_cases hin : 0 ≤ key ∧ key ≤ 63
  · obtain ⟨j, rfl⟩ : ∃ j : Nat, key = j := ⟨key.toNat, by omega⟩
    have j64 : j < 64 := by omega
    have q3 : (j : Int).toNat = j := (by omega); have q5 : (0 : Int) ≤ (j : Int) := (by omega); have q6 : (j : Int) < 64 := (by omega)
    have g1 : decide ((j : Int) ≤ 63) = true := decide_eq_true (by omega)
    have g0 : decide ((0 : Int) ≤ (j : Int)) = true := decide_eq_true (by omega)
    have c9 := B.t9.cell j j64
    have e9 := I.e9 j j64
    cases hl9 : h.ch j with
    | none =>
      rw [e9, hl9] at c9
      have c9 : wB.cell? ⟨b9, j, none⟩ = some (.bool false) := c9
      go_upto_region 16 with fail
      clear d0 d1 eB e9
      go_wp2_with fail
      refine (x_find_no B.r (by omega) (j : Int) (.inr (.inr (by rw [q3]; exact hl9)))).mono ?_
      rintro e y1 ⟨S1, t1, rfl, e1, C1, k1⟩
      have B := B.step C1 k1
      clear C1 k1 x0 x1 c9
      go_upto_region 19 with fail
      rename_i Ko hKo K5 hK5
      have HK := Lib.hid hKo
      clear hKo
      go_quiet (fail)
      go_wp2_with fail
      exact HK.out _ _ (round1 hJE hKE hQp n0 n1 k80 I ((B.quiet (drewN_keep (fun _ => False) _ _)).up (by omega)) (.inr ⟨j, rfl, j64, rfl, .inl ⟨hl9, rfl, rfl⟩⟩))
    | some l =>
      rw [e9, hl9] at c9
      have c9 : wB.cell? ⟨b9, j, none⟩ = some (.bool true) := c9
      have ll := I.len j l hl9
      have e10 := I.e10 j j64
      rw [hl9] at e10
      have e10 : f10 j = (l.length : Int) := e10
      go_upto_region 16 with fail
      clear d0 d1 eB e9
      go_wp2_with fail
      refine (x_find_yes B.r (by omega) j l hl9).mono ?_
      rintro e y1 ⟨q, S1, t1, rfl, e1, C1, k1⟩
      have B := B.step C1 k1
      clear C1 k1 x0 x1 c9
      go_upto_region 19 with fail
      rename_i Ko hKo K5 hK5
      have HK := Lib.hid hKo
      clear hKo
      have B := B.quiet (Keep.refl (fun _ => False) y1).drew
      have x1 := B.co 1 _ rfl
      have xj := B.t10.cell j j64
      rw [e10] at xj
      refine wp_region_held_drew (S := (fun w' => w'.cell? ⟨oc, 1, none⟩ = some (.int .i64 (j : Int)) ∧ w'.cell? ⟨b10, j, none⟩ = some (.int .i64 (l.length : Int)))) (by kernel_rfl) ⟨x1, xj⟩ (fun hHeld => ?_)
      clear x1 xj
      refine wpAnyH_take (i := 0) (v := ?qvu58) rfl (by kernel_rfl) (by kernel_rfl) (by kernel_rfl) (by intro _ _ _ h; exact hQp.out _ _ _ _ _ h) (Or.inl ⟨by rfl, ?qyu58⟩) (by assumption) ?qru58; case qyu58 => ((intro w hSw; (try dsimp only at hSw); go_simp); try (with_reducible rfl))
      ((try simp only [List.getElem_toArray]); (try simp only [List.getElem_cons_succ]); (try simp only [List.getElem_cons_zero]); (try simp only [Act.put]); (try simp only [List.setIfInBounds_toArray]); (try simp only [List.set_cons_succ]); (try simp only [List.set_cons_zero]))
      refine wpAnyH_take (i := 1) (v := ?qvu59) rfl (by kernel_rfl) (by kernel_rfl) (by kernel_rfl) (by intro _ _ _ h; exact hQp.out _ _ _ _ _ h) (Or.inl ⟨by rfl, ?qyu59⟩) (by assumption) ?qru59; case qyu59 => ((intro w hSw; (try dsimp only at hSw); go_simp); try (with_reducible rfl))
      ((try simp only [List.getElem_toArray]); (try simp only [List.getElem_cons_succ]); (try simp only [List.getElem_cons_zero]); (try simp only [Act.put]); (try simp only [List.setIfInBounds_toArray]); (try simp only [List.set_cons_succ]); (try simp only [List.set_cons_zero]))
      refine wpAnyH_take (i := 2) (v := ?qvu60) rfl (by kernel_rfl) (by kernel_rfl) (by kernel_rfl) (by intro _ _ _ h; exact hQp.out _ _ _ _ _ h) (Or.inl ⟨by rfl, ?qyu60⟩) (by assumption) ?qru60; case qyu60 => ((intro w hSw; (try dsimp only at hSw); go_simp); try (with_reducible rfl))
      ((try simp only [List.getElem_toArray]); (try simp only [List.getElem_cons_succ]); (try simp only [List.getElem_cons_zero]); (try simp only [Act.put]); (try simp only [List.setIfInBounds_toArray]); (try simp only [List.set_cons_succ]); (try simp only [List.set_cons_zero]))
      refine wpAnyH_take (i := 3) (v := ?qvu61) rfl (by kernel_rfl) (by kernel_rfl) (by kernel_rfl) (by intro _ _ _ h; exact hQp.out _ _ _ _ _ h) (Or.inl ⟨by rfl, ?qyu61⟩) (by assumption) ?qru61; case qyu61 => ((intro w hSw; (try dsimp only at hSw); go_simp); try (with_reducible rfl))
      ((try simp only [List.getElem_toArray]); (try simp only [List.getElem_cons_succ]); (try simp only [List.getElem_cons_zero]); (try simp only [Act.put]); (try simp only [List.setIfInBounds_toArray]); (try simp only [List.set_cons_succ]); (try simp only [List.set_cons_zero]))
      refine wpAnyH_take (i := 4) (v := ?qvu62) rfl (by kernel_rfl) (by kernel_rfl) (by kernel_rfl) (by intro _ _ _ h; exact hQp.out _ _ _ _ _ h) (Or.inl ⟨by rfl, ?qyu62⟩) (by assumption) ?qru62; case qyu62 => ((intro w hSw; (try dsimp only at hSw); go_simp); try (with_reducible rfl))
      ((try simp only [List.getElem_toArray]); (try simp only [List.getElem_cons_succ]); (try simp only [List.getElem_cons_zero]); (try simp only [Act.put]); (try simp only [List.setIfInBounds_toArray]); (try simp only [List.set_cons_succ]); (try simp only [List.set_cons_zero]))
      refine wpAnyH_take (i := 5) (v := ?qvu63) rfl (by kernel_rfl) (by kernel_rfl) (by kernel_rfl) (by intro _ _ _ h; exact hQp.out _ _ _ _ _ h) (Or.inl ⟨by rfl, ?qyu63⟩) (by assumption) ?qru63; case qyu63 => ((intro w hSw; (try dsimp only at hSw); go_simp); try (with_reducible rfl))
      ((try simp only [List.getElem_toArray]); (try simp only [List.getElem_cons_succ]); (try simp only [List.getElem_cons_zero]); (try simp only [Act.put]); (try simp only [List.setIfInBounds_toArray]); (try simp only [List.set_cons_succ]); (try simp only [List.set_cons_zero]))
      refine wpAnyH_take (i := 6) (v := ?qvu64) rfl (by kernel_rfl) (by kernel_rfl) (by kernel_rfl) (by intro _ _ _ h; exact hQp.out _ _ _ _ _ h) (Or.inl ⟨by rfl, ?qyu64⟩) (by assumption) ?qru64; case qyu64 => ((intro w hSw; (try dsimp only at hSw); go_simp); try (with_reducible rfl))
      ((try simp only [List.getElem_toArray]); (try simp only [List.getElem_cons_succ]); (try simp only [List.getElem_cons_zero]); (try simp only [Act.put]); (try simp only [List.setIfInBounds_toArray]); (try simp only [List.set_cons_succ]); (try simp only [List.set_cons_zero]))
      refine wpAnyH_take (i := 7) (v := ?qvu65) rfl (by kernel_rfl) (by kernel_rfl) (by kernel_rfl) (by intro _ _ _ h; exact hQp.out _ _ _ _ _ h) (Or.inl ⟨by rfl, ?qyu65⟩) (by assumption) ?qru65; case qyu65 => ((intro w hSw; (try dsimp only at hSw); go_simp); try (with_reducible rfl))
      ((try simp only [List.getElem_toArray]); (try simp only [List.getElem_cons_succ]); (try simp only [List.getElem_cons_zero]); (try simp only [Act.put]); (try simp only [List.setIfInBounds_toArray]); (try simp only [List.set_cons_succ]); (try simp only [List.set_cons_zero]))
      refine wpAnyH_take (i := 8) (v := ?qvu66) rfl (by kernel_rfl) (by kernel_rfl) (by kernel_rfl) (by intro _ _ _ h; exact hQp.out _ _ _ _ _ h) (Or.inl ⟨by rfl, ?qyu66⟩) (by assumption) ?qru66; case qyu66 => ((intro w hSw; (try dsimp only at hSw); go_simp); try (with_reducible rfl))
      ((try simp only [List.getElem_toArray]); (try simp only [List.getElem_cons_succ]); (try simp only [List.getElem_cons_zero]); (try simp only [Act.put]); (try simp only [List.setIfInBounds_toArray]); (try simp only [List.set_cons_succ]); (try simp only [List.set_cons_zero]))
      refine wpAnyH_take (i := 9) (v := ?qvu67) rfl (by kernel_rfl) (by kernel_rfl) (by kernel_rfl) (by intro _ _ _ h; exact hQp.out _ _ _ _ _ h) (Or.inl ⟨by rfl, ?qyu67⟩) (by assumption) ?qru67; case qyu67 => ((intro w hSw; (try dsimp only at hSw); go_simp); try (with_reducible rfl))
      ((try simp only [List.getElem_toArray]); (try simp only [List.getElem_cons_succ]); (try simp only [List.getElem_cons_zero]); (try simp only [Act.put]); (try simp only [List.setIfInBounds_toArray]); (try simp only [List.set_cons_succ]); (try simp only [List.set_cons_zero]))
      refine wpAnyH_take (i := 10) (v := ?qvu68) rfl (by kernel_rfl) (by kernel_rfl) (by kernel_rfl) (by intro _ _ _ h; exact hQp.out _ _ _ _ _ h) (Or.inl ⟨by rfl, ?qyu68⟩) (by assumption) ?qru68; case qyu68 => ((intro w hSw; (try dsimp only at hSw); go_simp); try (with_reducible rfl))
      ((try simp only [List.getElem_toArray]); (try simp only [List.getElem_cons_succ]); (try simp only [List.getElem_cons_zero]); (try simp only [Act.put]); (try simp only [List.setIfInBounds_toArray]); (try simp only [List.set_cons_succ]); (try simp only [List.set_cons_zero]))
      refine wpAnyH_take (i := 11) (v := ?qvu69) rfl (by kernel_rfl) (by kernel_rfl) (by kernel_rfl) (by intro _ _ _ h; exact hQp.out _ _ _ _ _ h) (Or.inl ⟨by rfl, ?qyu69⟩) (by assumption) ?qru69; case qyu69 => ((intro w hSw; (try dsimp only at hSw); go_simp); try (with_reducible rfl))
      ((try simp only [List.getElem_toArray]); (try simp only [List.getElem_cons_succ]); (try simp only [List.getElem_cons_zero]); (try simp only [Act.put]); (try simp only [List.setIfInBounds_toArray]); (try simp only [List.set_cons_succ]); (try simp only [List.set_cons_zero]))
      refine wpAnyH_take (i := 12) (v := ?qvu70) rfl (by kernel_rfl) (by kernel_rfl) (by kernel_rfl) (by intro _ _ _ h; exact hQp.out _ _ _ _ _ h) (Or.inl ⟨by rfl, ?qyu70⟩) (by assumption) ?qru70; case qyu70 => ((intro w hSw; (try dsimp only at hSw); go_simp); try (with_reducible rfl))
      ((try simp only [List.getElem_toArray]); (try simp only [List.getElem_cons_succ]); (try simp only [List.getElem_cons_zero]); (try simp only [Act.put]); (try simp only [List.setIfInBounds_toArray]); (try simp only [List.set_cons_succ]); (try simp only [List.set_cons_zero]))
      refine wpAnyH_take (i := 14) (v := ?qvu71) rfl (by kernel_rfl) (by kernel_rfl) (by kernel_rfl) (by intro _ _ _ h; exact hQp.out _ _ _ _ _ h) (Or.inl ⟨by rfl, ?qyu71⟩) (by assumption) ?qru71; case qyu71 => ((intro w hSw; (try dsimp only at hSw); go_simp); try (with_reducible rfl))
      ((try simp only [List.getElem_toArray]); (try simp only [List.getElem_cons_succ]); (try simp only [List.getElem_cons_zero]); (try simp only [Act.put]); (try simp only [List.setIfInBounds_toArray]); (try simp only [List.set_cons_succ]); (try simp only [List.set_cons_zero]))
      refine wpAnyH_take (i := 15) (v := ?qvu72) rfl (by kernel_rfl) (by kernel_rfl) (by kernel_rfl) (by intro _ _ _ h; exact hQp.out _ _ _ _ _ h) (Or.inl ⟨by rfl, ?qyu72⟩) (by assumption) ?qru72; case qyu72 => ((intro w hSw; (try dsimp only at hSw); go_simp); try (with_reducible rfl))
      ((try simp only [List.getElem_toArray]); (try simp only [List.getElem_cons_succ]); (try simp only [List.getElem_cons_zero]); (try simp only [Act.put]); (try simp only [List.setIfInBounds_toArray]); (try simp only [List.set_cons_succ]); (try simp only [List.set_cons_zero]))
      refine wpAnyH_take (i := 16) (v := ?qvu73) rfl (by kernel_rfl) (by kernel_rfl) (by kernel_rfl) (by intro _ _ _ h; exact hQp.out _ _ _ _ _ h) (Or.inl ⟨by rfl, ?qyu73⟩) (by assumption) ?qru73; case qyu73 => ((intro w hSw; (try dsimp only at hSw); go_simp); try (with_reducible rfl))
      ((try simp only [List.getElem_toArray]); (try simp only [List.getElem_cons_succ]); (try simp only [List.getElem_cons_zero]); (try simp only [Act.put]); (try simp only [List.setIfInBounds_toArray]); (try simp only [List.set_cons_succ]); (try simp only [List.set_cons_zero]))
      refine wpAnyH_take (i := 17) (v := ?qvu74) rfl (by kernel_rfl) (by kernel_rfl) (by kernel_rfl) (by intro _ _ _ h; exact hQp.out _ _ _ _ _ h) (Or.inl ⟨by rfl, ?qyu74⟩) (by assumption) ?qru74; case qyu74 => ((intro w hSw; (try dsimp only at hSw); go_simp); try (with_reducible rfl))
      ((try simp only [List.getElem_toArray]); (try simp only [List.getElem_cons_succ]); (try simp only [List.getElem_cons_zero]); (try simp only [Act.put]); (try simp only [List.setIfInBounds_toArray]); (try simp only [List.set_cons_succ]); (try simp only [List.set_cons_zero]))
      refine wpAnyH_ready (rs := [13]) (by kernel_rfl) (by simp) ?_
      refine AllReadyH.cons rfl (fun K hK => ?_) AllReadyH.nil
      go_simp
      refine (x_len B.r (by omega) j (.inr ⟨rfl, rfl⟩) l hl9 (by omega) _ rfl).mono ?_
      rintro e y2 ⟨rfl, S2, t2, e2, C2, k2⟩
      have B := B.step C2 k2
      clear C2 k2
      refine hK.out _ _ ⟨B.co 1 _ rfl, by rw [B.t10.cell j j64, e10]⟩ (fun hHeld => ?_)
      clear hK K
      ((try simp only [List.getElem_toArray]); (try simp only [List.getElem_cons_succ]); (try simp only [List.getElem_cons_zero]); (try simp only [Act.put]); (try simp only [List.setIfInBounds_toArray]); (try simp only [List.set_cons_succ]); (try simp only [List.set_cons_zero]))
      refine wpAnyH_take (i := 18) (v := ?qvu75) rfl (by kernel_rfl) (by kernel_rfl) (by kernel_rfl) (by intro _ _ _ h; exact hQp.out _ _ _ _ _ h) (Or.inl ⟨by rfl, ?qyu75⟩) (by assumption) ?qru75; case qyu75 => ((intro w hSw; (try dsimp only at hSw); go_simp); try (with_reducible rfl))
      ((try simp only [List.getElem_toArray]); (try simp only [List.getElem_cons_succ]); (try simp only [List.getElem_cons_zero]); (try simp only [Act.put]); (try simp only [List.setIfInBounds_toArray]); (try simp only [List.set_cons_succ]); (try simp only [List.set_cons_zero]))
      refine wpAnyH_take (i := 19) (v := ?qvu76) rfl (by kernel_rfl) (by kernel_rfl) (by kernel_rfl) (by intro _ _ _ h; exact hQp.out _ _ _ _ _ h) (Or.inl ⟨by rfl, ?qyu76⟩) (by assumption) ?qru76; case qyu76 => ((intro w hSw; (try dsimp only at hSw); go_simp); try (with_reducible rfl))
      ((try simp only [List.getElem_toArray]); (try simp only [List.getElem_cons_succ]); (try simp only [List.getElem_cons_zero]); (try simp only [Act.put]); (try simp only [List.setIfInBounds_toArray]); (try simp only [List.set_cons_succ]); (try simp only [List.set_cons_zero]))
      refine wpAnyH_take (i := 20) (v := ?qvu77) rfl (by kernel_rfl) (by kernel_rfl) (by kernel_rfl) (by intro _ _ _ h; exact hQp.out _ _ _ _ _ h) (Or.inl ⟨by rfl, ?qyu77⟩) (by assumption) ?qru77; case qyu77 => ((intro w hSw; (try dsimp only at hSw); go_simp); try (with_reducible rfl))
      ((try simp only [List.getElem_toArray]); (try simp only [List.getElem_cons_succ]); (try simp only [List.getElem_cons_zero]); (try simp only [Act.put]); (try simp only [List.setIfInBounds_toArray]); (try simp only [List.set_cons_succ]); (try simp only [List.set_cons_zero]))
      refine wpAnyH_done (by kernel_rfl) ?_ _
      go_wp2_with fail
      exact HK.out _ _ (round1 hJE hKE hQp n0 n1 k80 I (B.up (by omega)) (.inr ⟨j, rfl, j64, rfl, .inr ⟨l, q, hl9, rfl, rfl, .inr ⟨rfl, rfl⟩⟩⟩))
  · have dd : (decide (0 ≤ key) = false) ∨ (decide (0 ≤ key) = true ∧ decide (key ≤ 63) = false) := by
      by_cases h0 : 0 ≤ key
      · exact .inr ⟨decide_eq_true h0, decide_eq_false (by omega)⟩
      · exact .inl (decide_eq_false h0)
    go_upto_region 16 with fail
    clear d0 d1 eB
    rename_i Ka hKa
    go_cut [14] from 85 to 92 (fun v wx => v = .bool false ∧ wB = wx)
    case first =>
      rcases dd with d1 | ⟨d1, d2⟩
      · go_wp2_with fail
        go_meet
        case rel => exact ⟨rfl, rfl⟩
      · go_wp2_with fail
        go_meet
        case rel => exact ⟨rfl, rfl⟩
    case rest =>
    obtain ⟨rfl, rfl⟩ := hcut
    go_wp2_with fail
    refine (x_find_no B.r (by omega) key (by omega)).mono ?_
    rintro e y1 ⟨S1, t1, rfl, e1, C1, k1⟩
    have B := B.step C1 k1
    clear C1 k1 x0 x1
    go_upto_region 19 with fail
    rename_i Ko hKo K5 hK5
    have HK := Lib.hid hKo
    clear hKo
    go_quiet (fail)
    go_wp2_with fail
    exact HK.out _ _ (round1 hJE hKE hQp n0 n1 k80 I ((B.quiet (drewN_keep (fun _ => False) _ _)).up (by omega)) (.inl ⟨by omega, rfl, rfl, rfl⟩))
end
end Go.Proofs.YtmfpjnlplimkeaaGreat.hashPlays
