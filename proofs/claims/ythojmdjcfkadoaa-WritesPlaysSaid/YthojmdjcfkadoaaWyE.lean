/- WritesPlays: the law's own list behind a call; conditions: what the parts before it have laid. -/
import Derived.Test.YthojmdjcfkadoaaWyA
namespace Go.Proofs.Ythojmdjcfkadoaa.writesPlays
open Go.ChangeShapes Go.WideShapes Go.ChangeAt Go.RowKit
set_option linter.unusedVariables false
section
variable {W wA : World} {t : Nat} {S : Nat → Prop} {sB z : List WrI} {v : Value} {k kk xb : Nat} {x : WrI} {g : Bool} {Q : Exit → Act → World → Prop} {JE KE : Act → World → Prop}
set_option maxRecDepth 1000000 in
set_option maxHeartbeats 8000000 in
theorem endW { s0 s1 s2 s3 s4 s5 s6 s7 s8 s9 s10 s13 s14 s15 s19 s20 s21 s22 s23 s24 s25 s26 s27 s28 s29 s30 s31 s32 s33 s34 s35 s36 s37 s38 s39 s40 s41 s42 s43 s44 s45 s46 s47 s48 s49 s50 s51 s52 s53 s54 s55 s56 s57 s58 s59 s60 s61 s62 s63 s64 s65 s66 s67 s68 s69 s70 s71 s72 s73 s74 s75 s76 s77 s78 s79 s80 s81 s82 s83 s84 s85 s86 s87 s88 s89 s90 s91 s92 s93 s94 s95 s96 s97 s98 s99 s100 s101 s102 s103 s104 s105 s106 s107 s108 s109 s110 s111 s112 s113 s114 s115 s116 s117 s118 s119 s120 s121 s122 s123 s124 s125 s126 s127 s128 s129 s130 s131 s132 s133 s134 s135 s136 s137 s138 s139 s140 s141 s142 s143 s144 s145 s146 s147 s148 s149 s150 s151 s152 s153 s154 s155 s156 s157 s158 s159 s160 s161 s162 s163 s164 s165 s166 s167 s168 s169 s170 s171 s172 s173 s174 s175 s176 s177 s178 s179 s180 s181 s182 s183 s184 s185 s186 s187 s188 s189 s190 s191 s192 s193 s194 s195 s196 s197 s198 s199 s200 s201 s202 s203 s204 s205 s206 s207 s208 s209 s210 s211 s212 s213 s214 s215 s216 s217 s218 s219 s220 s221 s222 s223 s224 s225 s226 s227 s228 s229 s230 s231 s232 s233 s234 s235 s236 s237 s238 s239 s240 s241 s242 s243 s244 s245 s246 s247 s248 s249 s250 s251 s252 s253 s254 s255 s256 s257 s258 s259 s260 s261 s262 s263 s264 s265 s266 s267 s268 s269 s270 s271 s272 s273 s274 s275 s276 s277 s278 s279 s280 s281 s282 s283 s284 s285 s286 s287 s288 s289 s290 s291 s292 s293 s294 s295 s296 s297 s298 s299 s300 s301 s302 s303 s304 s305 s306 s307 s308 s309 s310 s311 s312 s313 s314 s315 s316 s317 s318 s319 s320 s321 s322 s323 s324 s325 s326 s327 s328 s329 s330 s331 s332 s333 s334 s335 s336 s337 s338 s339 s340 s341 : Value}
    (hJE : ∀ a' w', PE W t k s0 s1 s2 s3 s4 s5 s6 s7 s8 s9 s13 s19 s20 s21 s22 s23 s24 s25 s26 s27 s28 s29 s30 s31 s32 s33 s34 s35 s36 s37 s38 s39 s40 s41 s42 s43 s44 s45 s46 s47 s48 s49 s50 s51 s52 s53 s54 s55 s56 s57 s141 s142 s143 s144 s145 s146 s147 s148 s149 s150 s151 s152 s153 s154 s155 s156 s157 s158 s159 s160 s161 s162 s163 s164 s165 s166 s167 s168 s169 s170 s171 s172 s173 s174 s175 s176 s177 s178 s179 s180 s181 s182 s183 s184 s185 s186 s187 s188 s189 s190 s191 s192 s193 s194 s195 s196 s197 s198 s199 s200 s201 s202 s203 s204 s205 s206 s207 s208 s209 s210 s211 s212 s213 s214 s215 s216 s217 s218 s219 s220 s221 s222 s223 s224 s225 s226 s227 s228 s229 s230 s231 s232 s233 s234 s235 s236 s237 s238 s239 s240 s241 s242 s243 s244 s245 s246 s247 s248 s249 s250 s251 s252 s253 s254 s255 s256 s257 s258 s259 s260 s261 s262 s263 s264 s265 s266 s267 s268 s269 s270 s271 s272 s273 s274 s275 s276 s277 s278 s279 s280 s281 s282 s283 s284 s285 s286 s287 s288 s289 s290 s291 s292 s293 s294 s295 s296 s297 s298 s299 s300 s301 s302 s303 s304 s305 s306 s307 s308 s309 s310 s311 s312 s313 s314 s315 s316 s317 s318 s319 s320 s321 s322 s323 s324 s325 s326 s327 s328 s329 s330 s331 s332 s333 s334 s335 s336 s337 s338 s339 s340 s341 a' w' → JE a' w') (hKE : ∀ a' w', Met JE a' w' → KE a' w')
    (A : A14 W wA t S sB v z) (X : Bx wA S v xb [.int .i64 x.k, .int .i64 x.v, .bool x.g]) (nd : (z.map WrI.k).Nodup) (zl : z.length ≤ k) (k60 : k < 60) (hI : IsK z x.k kk)
    (hs : (g = false ∧ sB = z) ∨ (g = true ∧ sB = setW z x)) :
    Code.wp Try.prog cEnd (Exit.inBlock 1 (Exit.then KE Q)) ⟨#[s0, s1, s2, s3, s4, s5, s6, s7, s8, s9, s10, .pointer (some ⟨t, 0, none⟩), v, s13, s14, s15, .int .i64 kk, .pointer (some ⟨xb, 0, none⟩), .bool g, s19, s20, s21, s22, s23, s24, s25, s26, s27, s28, s29, s30, s31, s32, s33, s34, s35, s36, s37, s38, s39, s40, s41, s42, s43, s44, s45, s46, s47, s48, s49, s50, s51, s52, s53, s54, s55, s56, s57, s58, s59, s60, s61, s62, s63, s64, s65, s66, s67, s68, s69, s70, s71, s72, s73, s74, s75, s76, s77, s78, s79, s80, s81, s82, s83, s84, s85, s86, s87, s88, s89, s90, s91, s92, s93, s94, s95, s96, s97, s98, s99, s100, s101, s102, s103, s104, s105, s106, s107, s108, s109, s110, s111, s112, s113, s114, s115, s116, s117, s118, s119, s120, s121, s122, s123, s124, s125, s126, s127, s128, s129, s130, s131, s132, s133, s134, s135, s136, s137, s138, s139, s140, s141, s142, s143, s144, s145, s146, s147, s148, s149, s150, s151, s152, s153, s154, s155, s156, s157, s158, s159, s160, s161, s162, s163, s164, s165, s166, s167, s168, s169, s170, s171, s172, s173, s174, s175, s176, s177, s178, s179, s180, s181, s182, s183, s184, s185, s186, s187, s188, s189, s190, s191, s192, s193, s194, s195, s196, s197, s198, s199, s200, s201, s202, s203, s204, s205, s206, s207, s208, s209, s210, s211, s212, s213, s214, s215, s216, s217, s218, s219, s220, s221, s222, s223, s224, s225, s226, s227, s228, s229, s230, s231, s232, s233, s234, s235, s236, s237, s238, s239, s240, s241, s242, s243, s244, s245, s246, s247, s248, s249, s250, s251, s252, s253, s254, s255, s256, s257, s258, s259, s260, s261, s262, s263, s264, s265, s266, s267, s268, s269, s270, s271, s272, s273, s274, s275, s276, s277, s278, s279, s280, s281, s282, s283, s284, s285, s286, s287, s288, s289, s290, s291, s292, s293, s294, s295, s296, s297, s298, s299, s300, s301, s302, s303, s304, s305, s306, s307, s308, s309, s310, s311, s312, s313, s314, s315, s316, s317, s318, s319, s320, s321, s322, s323, s324, s325, s326, s327, s328, s329, s330, s331, s332, s333, s334, s335, s336, s337, s338, s339, s340, s341], []⟩ wA := by
  obtain ⟨A1, c1, e1, hA0, hA1⟩ := OwnW.shape A.o
  have x0 := X.c 0 _ rfl
  have x1 := X.c 1 _ rfl
  have x2 := X.c 2 _ rfl
  rcases hs with ⟨rfl, rfl⟩ | ⟨rfl, rfl⟩
  · have F := Lib.hid (show Mid W t k v wA from ⟨S, sB, A, by omega⟩)
    conv => arg 2; whnf
    dsimp only
    clear A X x0 x1 x2 hI hA0 hA1 nd
    go_wp2_with fail
    go_meet
    case rel => exact F.out
  · by_cases hlt : kk < z.length
    · obtain ⟨y, hy, hk⟩ := isK_found hI hlt
      cases A1 with
      | none => rw [hA0 rfl] at hlt; simp at hlt
      | some ad =>
        obtain ⟨gb, rfl⟩ := hA1 _ rfl
        have es : setW z x = z.set kk x := setW_at nd hy hk
        subst e1
        have P := A.put hlt x
        have F := Lib.hid (show Mid W t k (.slice (some ⟨gb, 0, none⟩) z.length c1) (((wA.setCell ⟨gb, kk * 3, none⟩ (.int .i64 x.k)).setCell ⟨gb, kk * 3 + 1, none⟩ (.int .i64 x.v)).setCell ⟨gb, kk * 3 + 2, none⟩ (.bool x.g)) from ⟨S, setW z x, by rw [es] at P ⊢; exact P, by rw [es, List.length_set]; omega⟩)
        obtain ⟨r0, r1, r2⟩ := OwnW.cells A.o kk y hy
        have om : OwnM 3 wrC 38 wA (.slice (some ⟨gb, 0, none⟩) z.length c1) z := OwnM.of_base A.o rfl rfl
        have f0 := OwnM.free om (kk * 3)
        have f1 := OwnM.free om (kk * 3 + 1)
        have f2 := OwnM.free om (kk * 3 + 2)
        conv => arg 2; whnf
        dsimp only
        clear A X P hI hA0 hA1 nd es hy hk om
        go_wp2_with fail
        go_meet
        case rel => exact F.out
    · obtain ⟨rfl, hno⟩ := isK_none hI hlt
      have es : setW z x = z ++ [x] := setW_new hno
      have HE := Lib.hid es
      have AA := Lib.hid A
      conv => arg 2; whnf
      dsimp only
      subst e1
      clear A X hI hA0 hA1 nd es hno
      go_wp2_with (with_reducible refine wp_stop 140 rfl ?_)
      intro _
      refine wp_pushW rfl (.tmp 137) (.tmp 139) rfl W.heap.size AA.out.r.b.size (.slice A1 z.length c1) z rfl AA.out.o x rfl (by omega) ?_
      intro g4 c4 y4 o4 k4 hg4
      have P := AA.out.push o4 k4 hg4
      have F := Lib.hid (show Mid W t k (.slice (some ⟨g4, 0, none⟩) (z.length + 1) c4) y4 from ⟨S, setW z x, by rw [HE.out] at P ⊢; exact P, by rw [HE.out, List.length_append]; show z.length + 1 ≤ k + 1; omega⟩)
      clear o4 k4 hg4 P x0 x1 x2
      go_wp2_with fail
      go_meet
      case rel => exact F.out
end
end Go.Proofs.Ythojmdjcfkadoaa.writesPlays
