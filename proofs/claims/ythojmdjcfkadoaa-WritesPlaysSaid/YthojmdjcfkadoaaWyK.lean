/- WritesPlays: where an op's key stands in the law's own list (a loop); conditions: what the parts before it have laid. -/
import Derived.Test.YthojmdjcfkadoaaWyA
namespace Go.Proofs.Ythojmdjcfkadoaa.writesPlays
open Go.ChangeShapes Go.WideShapes Go.ChangeAt Go.RowKit
set_option linter.unusedVariables false
def KeyR (z : List WrI) (key : Int) (wA : World) (kv : Value) (wr : World) : Prop :=
  ∃ j d : Nat, j ≤ z.length ∧ kv = .int .i64 j ∧ (∀ m x, m < j → z[m]? = some x → x.k ≠ key) ∧ wr = wA.drewN d
section
variable {wA : World} {v : Value} {z : List WrI} {ob : Nat} {key : Int} {B : Nat} {Q : Exit → Act → World → Prop} {J K : Act → World → Prop}
set_option maxRecDepth 1000000 in
set_option maxHeartbeats 8000000 in
theorem keyLoop { s0 s1 s2 s3 s4 s5 s6 s7 s8 s9 s10 s11 s13 s15 s17 s18 s19 s20 s21 s22 s23 s24 s25 s26 s27 s28 s29 s30 s31 s32 s33 s34 s35 s36 s37 s38 s39 s40 s41 s42 s43 s44 s45 s46 s47 s48 s49 s50 s51 s52 s53 s54 s55 s56 s57 s58 s59 s60 s61 s62 s63 s64 s65 s66 s67 s68 s69 s70 s71 s72 s73 s74 s75 s76 s77 s78 s79 s80 s81 s82 s83 s84 s85 s86 s87 s88 s89 s90 s91 s92 s93 s94 s95 s96 s97 s98 s99 s100 s101 s102 s103 s104 s105 s106 s107 s108 s109 s110 s111 s112 s113 s114 s115 s116 s117 s118 s119 s120 s121 s122 s123 s124 s125 s126 s127 s128 s129 s130 s131 s132 s133 s134 s135 s136 s137 s138 s139 s140 s141 s142 s143 s144 s145 s146 s147 s148 s149 s150 s151 s152 s153 s154 s155 s156 s157 s158 s159 s160 s161 s162 s163 s164 s165 s166 s167 s168 s169 s170 s171 s172 s173 s174 s175 s176 s177 s178 s179 s180 s181 s182 s183 s184 s185 s186 s187 s188 s189 s190 s191 s192 s193 s194 s195 s196 s197 s198 s199 s200 s201 s202 s203 s204 s205 s206 s207 s208 s209 s210 s211 s212 s213 s214 s215 s216 s217 s218 s219 s220 s221 s222 s223 s224 s225 s226 s227 s228 s229 s230 s231 s232 s233 s234 s235 s236 s237 s238 s239 s240 s241 s242 s243 s244 s245 s246 s247 s248 s249 s250 s251 s252 s253 s254 s255 s256 s257 s258 s259 s260 s261 s262 s263 s264 s265 s266 s267 s268 s269 s270 s271 s272 s273 s274 s275 s276 s277 s278 s279 s280 s281 s282 s283 s284 s285 s286 s287 s288 s289 s290 s291 s292 s293 s294 s295 s296 s297 s298 s299 s300 s301 s302 s303 s304 s305 s306 s307 s308 s309 s310 s311 s312 s313 s314 s315 s316 s317 s318 s319 s320 s321 s322 s323 s324 s325 s326 s327 s328 s329 s330 s331 s332 s333 s334 s335 s336 s337 s338 s339 s340 s341 : Value}
    (hJ : ∀ a' w', PK z key wA s0 s1 s2 s3 s4 s5 s6 s7 s8 s9 s10 s11 v s13 (.pointer (some ⟨ob, 0, none⟩)) s15 s17 s18 s19 s20 s21 s22 s23 s24 s25 s26 s27 s28 s29 s30 s31 s32 s33 s34 s35 s36 s37 s38 s39 s40 s41 s42 s43 s44 s45 s46 s47 s48 s49 s50 s51 s52 s53 s54 s55 s56 s57 s58 s59 s60 s61 s62 s63 s64 s65 s66 s67 s68 s69 s86 s87 s88 s89 s90 s91 s92 s93 s94 s95 s96 s97 s98 s99 s100 s101 s102 s103 s104 s105 s106 s107 s108 s109 s110 s111 s112 s113 s114 s115 s116 s117 s118 s119 s120 s121 s122 s123 s124 s125 s126 s127 s128 s129 s130 s131 s132 s133 s134 s135 s136 s137 s138 s139 s140 s141 s142 s143 s144 s145 s146 s147 s148 s149 s150 s151 s152 s153 s154 s155 s156 s157 s158 s159 s160 s161 s162 s163 s164 s165 s166 s167 s168 s169 s170 s171 s172 s173 s174 s175 s176 s177 s178 s179 s180 s181 s182 s183 s184 s185 s186 s187 s188 s189 s190 s191 s192 s193 s194 s195 s196 s197 s198 s199 s200 s201 s202 s203 s204 s205 s206 s207 s208 s209 s210 s211 s212 s213 s214 s215 s216 s217 s218 s219 s220 s221 s222 s223 s224 s225 s226 s227 s228 s229 s230 s231 s232 s233 s234 s235 s236 s237 s238 s239 s240 s241 s242 s243 s244 s245 s246 s247 s248 s249 s250 s251 s252 s253 s254 s255 s256 s257 s258 s259 s260 s261 s262 s263 s264 s265 s266 s267 s268 s269 s270 s271 s272 s273 s274 s275 s276 s277 s278 s279 s280 s281 s282 s283 s284 s285 s286 s287 s288 s289 s290 s291 s292 s293 s294 s295 s296 s297 s298 s299 s300 s301 s302 s303 s304 s305 s306 s307 s308 s309 s310 s311 s312 s313 s314 s315 s316 s317 s318 s319 s320 s321 s322 s323 s324 s325 s326 s327 s328 s329 s330 s331 s332 s333 s334 s335 s336 s337 s338 s339 s340 s341 a' w' → J a' w') (hK : ∀ a' w', Met J a' w' → K a' w')
    (o1 : OwnW B wA v z) (zl : z.length ≤ 60) (x1 : wA.cell? ⟨ob, 1, none⟩ = some (.int .i64 key)) :
    Code.wp Try.prog cKey (Exit.then K Q) ⟨#[s0, s1, s2, s3, s4, s5, s6, s7, s8, s9, s10, s11, v, s13, .pointer (some ⟨ob, 0, none⟩), s15, .int .i64 0, s17, s18, s19, s20, s21, s22, s23, s24, s25, s26, s27, s28, s29, s30, s31, s32, s33, s34, s35, s36, s37, s38, s39, s40, s41, s42, s43, s44, s45, s46, s47, s48, s49, s50, s51, s52, s53, s54, s55, s56, s57, s58, s59, s60, s61, s62, s63, s64, s65, s66, s67, s68, s69, s70, s71, s72, s73, s74, s75, s76, s77, s78, s79, s80, s81, s82, s83, s84, s85, s86, s87, s88, s89, s90, s91, s92, s93, s94, s95, s96, s97, s98, s99, s100, s101, s102, s103, s104, s105, s106, s107, s108, s109, s110, s111, s112, s113, s114, s115, s116, s117, s118, s119, s120, s121, s122, s123, s124, s125, s126, s127, s128, s129, s130, s131, s132, s133, s134, s135, s136, s137, s138, s139, s140, s141, s142, s143, s144, s145, s146, s147, s148, s149, s150, s151, s152, s153, s154, s155, s156, s157, s158, s159, s160, s161, s162, s163, s164, s165, s166, s167, s168, s169, s170, s171, s172, s173, s174, s175, s176, s177, s178, s179, s180, s181, s182, s183, s184, s185, s186, s187, s188, s189, s190, s191, s192, s193, s194, s195, s196, s197, s198, s199, s200, s201, s202, s203, s204, s205, s206, s207, s208, s209, s210, s211, s212, s213, s214, s215, s216, s217, s218, s219, s220, s221, s222, s223, s224, s225, s226, s227, s228, s229, s230, s231, s232, s233, s234, s235, s236, s237, s238, s239, s240, s241, s242, s243, s244, s245, s246, s247, s248, s249, s250, s251, s252, s253, s254, s255, s256, s257, s258, s259, s260, s261, s262, s263, s264, s265, s266, s267, s268, s269, s270, s271, s272, s273, s274, s275, s276, s277, s278, s279, s280, s281, s282, s283, s284, s285, s286, s287, s288, s289, s290, s291, s292, s293, s294, s295, s296, s297, s298, s299, s300, s301, s302, s303, s304, s305, s306, s307, s308, s309, s310, s311, s312, s313, s314, s315, s316, s317, s318, s319, s320, s321, s322, s323, s324, s325, s326, s327, s328, s329, s330, s331, s332, s333, s334, s335, s336, s337, s338, s339, s340, s341], []⟩ wA := by
  obtain ⟨A, c, rfl, hA0, hA1⟩ := OwnW.shape o1
  conv => arg 2; whnf
  dsimp only
  go_wp2
  go_loopw [16] (fun kv wr => KeyR z key wA kv wr) (fun kv _ => z.length - (intOf kv).toNat)
  case atStart => exact ⟨0, 0, Nat.zero_le _, rfl, fun m x hm => absurd hm (Nat.not_lt_zero m), rfl⟩
  case round =>
    obtain ⟨j, d, hj, rfl, hno, rfl⟩ := hrel
    by_cases hlt : j < z.length
    · have wk : IntKind.i64.wrap ((j : Int) + 1) = (j : Int) + 1 := IntWalk.i64_in _ (by omega)
      cases A with
      | none => rw [hA0 rfl] at hlt; simp at hlt
      | some ad =>
        obtain ⟨g, rfl⟩ := hA1 _ rfl
        obtain ⟨x, hx⟩ : ∃ x, z[j]? = some x := ⟨_, List.getElem?_eq_getElem hlt⟩
        have c0 := (OwnW.cells o1 j x hx).1
        by_cases hy : x.k = key
        · have F := Lib.hid (show IsK z key j from ⟨hno, .inl ⟨x, hx, hy⟩⟩)
          have q0 : (x.k == key) = true := by simpa using hy
          rw [hy] at c0
          clear hno hA0 hA1 o1 hx hy q0
          go_wp2_with fail
          go_quiet (fail)
          go_wp2_with fail
          go_meet
          case rel => exact ⟨⟨j, rfl, F.out⟩, _, World.drewN_drewN _ _ _⟩
        · have HN := Lib.hid (show ∀ m y, m < j + 1 → z[m]? = some y → y.k ≠ key from fun m y hm hy2 => by
            by_cases e : m = j
            · subst e; rw [hx] at hy2; cases hy2; exact hy
            · exact hno m y (by omega) hy2)
          obtain ⟨y, ey⟩ : ∃ y, x.k = y := ⟨_, rfl⟩
          rw [ey] at c0 hy
          have q0 : (y == key) = false := by simpa using hy
          clear hno hA0 hA1 o1 hx hy ey
          go_wp2_with fail
          go_quiet (fail)
          go_wp2
          first | exact ⟨⟨j + 1, _, by omega, by go_num, HN.out, rfl⟩, by simp [intOf]; omega⟩ | (refine ⟨?rel2, ?meas2⟩; (case meas2 => (simp [intOf]; omega)); (case rel2 => ((repeat apply Exists.intro); exact ⟨⟨j + 1, _, by omega, by go_num, HN.out, rfl⟩, rfl⟩)))
    · obtain rfl : j = z.length := by omega
      have F := Lib.hid (show IsK z key z.length from ⟨hno, .inr rfl⟩)
      clear hno hA0 hA1 o1
      go_wp2_with fail
      go_quiet (fail)
      go_wp2_with fail
      go_meet
      case rel => exact ⟨⟨_, rfl, F.out⟩, _, World.drewN_drewN _ _ _⟩
end
end Go.Proofs.Ythojmdjcfkadoaa.writesPlays
