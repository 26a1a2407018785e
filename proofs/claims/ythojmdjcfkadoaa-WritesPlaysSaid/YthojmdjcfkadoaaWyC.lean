/- WritesPlays: the law's own laying of writes over pairs: the pairs below a key (a loop), and which write a key has (a loop); conditions: what the parts before it have laid. -/
import Derived.Test.YthojmdjcfkadoaaWyA
namespace Go.Proofs.Ythojmdjcfkadoaa.writesPlays
open Go.ChangeShapes Go.WideShapes Go.ChangeAt Go.RowKit
set_option linter.unusedVariables false
noncomputable def cLow : Code := (Try.f5.body.bind (blockIn 8)).getD .skip
noncomputable def cWh : Code := (Try.f5.body.bind (blockIn 10)).getD .skip
/-- What the law has laid so far, i pairs on; c: how many writes at most. -/
def St (w4 : World) (ws : List WrI) (l F : List PrI) (c i : Nat) (vw : Value) (wr : World) : Prop :=
  ∃ R, i ≤ l.length ∧ OwnP w4.heap.size wr vw R ∧ Keep (fun _ => False) w4 wr ∧ R ++ mergeW ws (l.drop i) = F ∧ R.length ≤ i + c
theorem St.quiet {w4 wr w' : World} {ws : List WrI} {l F : List PrI} {c i : Nat} {vw : Value} (h : St w4 ws l F c i vw wr) (k : Keep (fun _ => False) wr w') : St w4 ws l F c i vw w' := by
  obtain ⟨R, h1, h2, h3, h4⟩ := h
  exact ⟨R, h1, OwnP.keep h2 k (by simp), h3.trans k, h4⟩
/-- The write that the law finds for a key. -/
def AtK (z : List WrI) (lo hi : Int) (k : Nat) (j : Nat) (a : Int) : Prop :=
  (a = -1 ∧ ∀ m x, m < j → z[m]? = some x → ¬ (x.k = (k : Int) ∧ lo ≤ (k : Int) ∧ (k : Int) ≤ hi)) ∨ ∃ (m : Nat) (x : WrI), a = (m : Int) ∧ m < j ∧ z[m]? = some x ∧ x.k = (k : Int) ∧ lo ≤ (k : Int) ∧ (k : Int) ≤ hi
theorem AtK.yes {z : List WrI} {lo hi : Int} {k j : Nat} {a : Int} {x : WrI} (h : AtK z lo hi k j a) (hx : z[j]? = some x) (e : x.k = (k : Int) ∧ lo ≤ (k : Int) ∧ (k : Int) ≤ hi) : AtK z lo hi k (j + 1) j := .inr ⟨j, x, rfl, by omega, hx, e⟩
theorem AtK.no {z : List WrI} {lo hi : Int} {k j : Nat} {a : Int} {x : WrI} (h : AtK z lo hi k j a) (hx : z[j]? = some x) (e : ¬ (x.k = (k : Int) ∧ lo ≤ (k : Int) ∧ (k : Int) ≤ hi)) : AtK z lo hi k (j + 1) a := by
  rcases h with ⟨h1, h2⟩ | ⟨m, y, h1, h2, h3⟩
  · refine .inl ⟨h1, fun m y hm hy => ?_⟩
    by_cases q : m = j
    · subst q; rw [hx] at hy; cases hy; exact e
    · exact h2 m y (by omega) hy
  · exact .inr ⟨m, y, h1, by omega, h3⟩
set_option maxRecDepth 1000000 in
/-- Behind the pairs below the key. -/
def PL (w4 : World) (ws : List WrI) (l F : List PrI) (k : Nat) (s0 s1 s2 s3 s4 s5 s6 s7 s8 s9 s10 s11 s12 s13 s14 s15 s16 s17 s18 s19 s20 s21 s22 s23 s24 s25 s28 s29 s30 s31 s32 s33 s34 s35 s36 s37 s38 s39 s40 s41 s42 s43 s44 s45 s46 s47 s48 s49 s50 s51 s52 s53 s54 s55 s56 s57 s58 s59 s60 s61 s62 s63 s64 s65 s66 s67 s68 s69 s70 s71 s72 s73 s74 s75 s76 s77 s78 s79 s80 s81 s82 s83 s84 s85 s86 s87 s88 s89 s90 s91 s92 s93 s94 s95 s96 s97 s98 s99 s100 s101 s102 s103 s104 s105 s106 s107 s108 s109 s110 s111 s112 s113 s114 s115 s116 s117 s118 s119 s120 s121 s122 s123 s124 s125 s126 s127 s128 s129 s130 s131 s132 s133 s134 s135 s136 s137 s138 s139 s140 s141 s142 s143 s144 s145 s146 s147 s148 s149 s150 s151 s152 s153 s154 s155 s156 s157 s158 s159 s160 s161 s162 s163 s164 s165 s166 s167 s168 s169 s170 s171 s172 s173 s174 s175 s176 s177 s178 s179 s180 s181 s182 s183 s184 s185 s186 s187 s188 s189 s190 s191 s192 s193 s194 s195 s196 s197 s198 s199 s200 s201 s202 s203 s204 s205 s206 s207 s208 s209 s210 s211 s212 s213 s214 s215 s216 s217 s218 s219 s220 s221 s222 s223 s224 s225 s226 s227 s228 s229 s230 s231 s232 s233 s234 s235 s236 s237 s260 s261 s262 s263 s264 s265 s266 s267 s268 s269 s270 s271 s272 s273 s274 s275 s276 s277 s278 s279 s280 s281 s282 s283 s284 s285 s286 s287 s288 s289 s290 s291 s292 s293 s294 s295 s296 s297 s298 s299 s300 s301 s302 s303 s304 s305 s306 s307 s308 s309 s310 s311 s312 s313 s314 s315 s316 s317 s318 s319 s320 s321 s322 s323 s324 s325 s326 s327 s328 s329 s330 s331 s332 s333 s334 s335 s336 s337 s338 s339 s340 s341 : Value) (a' : Act) (w' : World) : Prop :=
  ∃ u26 u27 u238 u239 u240 u241 u242 u243 u244 u245 u246 u247 u248 u249 u250 u251 u252 u253 u254 u255 u256 u257 u258 u259 : Value, (∃ i : Nat, u27 = .int .i64 i ∧ St w4 ws l F k i u26 w' ∧ ∀ p, l[i]? = some p → (k : Int) ≤ p.k) ∧ a' = ⟨#[s0, s1, s2, s3, s4, s5, s6, s7, s8, s9, s10, s11, s12, s13, s14, s15, s16, s17, s18, s19, s20, s21, s22, s23, s24, s25, u26, u27, s28, s29, s30, s31, s32, s33, s34, s35, s36, s37, s38, s39, s40, s41, s42, s43, s44, s45, s46, s47, s48, s49, s50, s51, s52, s53, s54, s55, s56, s57, s58, s59, s60, s61, s62, s63, s64, s65, s66, s67, s68, s69, s70, s71, s72, s73, s74, s75, s76, s77, s78, s79, s80, s81, s82, s83, s84, s85, s86, s87, s88, s89, s90, s91, s92, s93, s94, s95, s96, s97, s98, s99, s100, s101, s102, s103, s104, s105, s106, s107, s108, s109, s110, s111, s112, s113, s114, s115, s116, s117, s118, s119, s120, s121, s122, s123, s124, s125, s126, s127, s128, s129, s130, s131, s132, s133, s134, s135, s136, s137, s138, s139, s140, s141, s142, s143, s144, s145, s146, s147, s148, s149, s150, s151, s152, s153, s154, s155, s156, s157, s158, s159, s160, s161, s162, s163, s164, s165, s166, s167, s168, s169, s170, s171, s172, s173, s174, s175, s176, s177, s178, s179, s180, s181, s182, s183, s184, s185, s186, s187, s188, s189, s190, s191, s192, s193, s194, s195, s196, s197, s198, s199, s200, s201, s202, s203, s204, s205, s206, s207, s208, s209, s210, s211, s212, s213, s214, s215, s216, s217, s218, s219, s220, s221, s222, s223, s224, s225, s226, s227, s228, s229, s230, s231, s232, s233, s234, s235, s236, s237, u238, u239, u240, u241, u242, u243, u244, u245, u246, u247, u248, u249, u250, u251, u252, u253, u254, u255, u256, u257, u258, u259, s260, s261, s262, s263, s264, s265, s266, s267, s268, s269, s270, s271, s272, s273, s274, s275, s276, s277, s278, s279, s280, s281, s282, s283, s284, s285, s286, s287, s288, s289, s290, s291, s292, s293, s294, s295, s296, s297, s298, s299, s300, s301, s302, s303, s304, s305, s306, s307, s308, s309, s310, s311, s312, s313, s314, s315, s316, s317, s318, s319, s320, s321, s322, s323, s324, s325, s326, s327, s328, s329, s330, s331, s332, s333, s334, s335, s336, s337, s338, s339, s340, s341], []⟩
set_option maxRecDepth 1000000 in
/-- Behind the search of the write. -/
def PW (z : List WrI) (lo hi : Int) (k : Nat) (wA : World) (s0 s1 s2 s3 s4 s5 s6 s7 s8 s9 s10 s11 s12 s13 s14 s15 s16 s17 s18 s19 s21 s22 s23 s24 s25 s26 s27 s28 s30 s31 s32 s33 s34 s35 s36 s37 s38 s39 s40 s41 s42 s43 s44 s45 s46 s47 s48 s49 s50 s51 s52 s53 s54 s55 s56 s57 s58 s59 s60 s61 s62 s63 s64 s65 s66 s67 s68 s69 s70 s71 s72 s73 s74 s75 s76 s77 s78 s79 s80 s81 s82 s83 s84 s85 s86 s87 s88 s89 s90 s91 s92 s93 s94 s95 s96 s97 s98 s99 s100 s101 s102 s103 s104 s105 s106 s107 s108 s109 s110 s111 s112 s113 s114 s115 s116 s117 s118 s119 s120 s121 s122 s123 s124 s125 s126 s127 s128 s129 s130 s131 s132 s133 s134 s135 s136 s137 s138 s139 s140 s141 s142 s143 s144 s145 s146 s147 s148 s149 s150 s151 s152 s153 s154 s155 s156 s157 s158 s159 s160 s161 s162 s163 s164 s165 s166 s167 s168 s169 s170 s171 s172 s173 s174 s175 s176 s177 s178 s179 s180 s181 s182 s183 s184 s185 s186 s187 s188 s189 s190 s191 s192 s193 s194 s195 s196 s197 s198 s199 s200 s201 s202 s203 s204 s205 s206 s207 s208 s209 s210 s211 s212 s213 s214 s215 s216 s217 s218 s219 s220 s221 s222 s223 s224 s225 s226 s227 s228 s229 s230 s231 s232 s233 s234 s235 s236 s237 s238 s239 s240 s241 s242 s243 s244 s245 s246 s247 s248 s249 s250 s251 s252 s253 s254 s255 s256 s257 s258 s259 s284 s285 s286 s287 s288 s289 s290 s291 s292 s293 s294 s295 s296 s297 s298 s299 s300 s301 s302 s303 s304 s305 s306 s307 s308 s309 s310 s311 s312 s313 s314 s315 s316 s317 s318 s319 s320 s321 s322 s323 s324 s325 s326 s327 s328 s329 s330 s331 s332 s333 s334 s335 s336 s337 s338 s339 s340 s341 : Value) (a' : Act) (w' : World) : Prop :=
  ∃ u20 u29 u260 u261 u262 u263 u264 u265 u266 u267 u268 u269 u270 u271 u272 u273 u274 u275 u276 u277 u278 u279 u280 u281 u282 u283 : Value, ((∃ a, u20 = .int .i64 a ∧ AtK z lo hi k z.length a) ∧ ∃ d : Nat, w' = wA.drewN d) ∧ a' = ⟨#[s0, s1, s2, s3, s4, s5, s6, s7, s8, s9, s10, s11, s12, s13, s14, s15, s16, s17, s18, s19, u20, s21, s22, s23, s24, s25, s26, s27, s28, u29, s30, s31, s32, s33, s34, s35, s36, s37, s38, s39, s40, s41, s42, s43, s44, s45, s46, s47, s48, s49, s50, s51, s52, s53, s54, s55, s56, s57, s58, s59, s60, s61, s62, s63, s64, s65, s66, s67, s68, s69, s70, s71, s72, s73, s74, s75, s76, s77, s78, s79, s80, s81, s82, s83, s84, s85, s86, s87, s88, s89, s90, s91, s92, s93, s94, s95, s96, s97, s98, s99, s100, s101, s102, s103, s104, s105, s106, s107, s108, s109, s110, s111, s112, s113, s114, s115, s116, s117, s118, s119, s120, s121, s122, s123, s124, s125, s126, s127, s128, s129, s130, s131, s132, s133, s134, s135, s136, s137, s138, s139, s140, s141, s142, s143, s144, s145, s146, s147, s148, s149, s150, s151, s152, s153, s154, s155, s156, s157, s158, s159, s160, s161, s162, s163, s164, s165, s166, s167, s168, s169, s170, s171, s172, s173, s174, s175, s176, s177, s178, s179, s180, s181, s182, s183, s184, s185, s186, s187, s188, s189, s190, s191, s192, s193, s194, s195, s196, s197, s198, s199, s200, s201, s202, s203, s204, s205, s206, s207, s208, s209, s210, s211, s212, s213, s214, s215, s216, s217, s218, s219, s220, s221, s222, s223, s224, s225, s226, s227, s228, s229, s230, s231, s232, s233, s234, s235, s236, s237, s238, s239, s240, s241, s242, s243, s244, s245, s246, s247, s248, s249, s250, s251, s252, s253, s254, s255, s256, s257, s258, s259, u260, u261, u262, u263, u264, u265, u266, u267, u268, u269, u270, u271, u272, u273, u274, u275, u276, u277, u278, u279, u280, u281, u282, u283, s284, s285, s286, s287, s288, s289, s290, s291, s292, s293, s294, s295, s296, s297, s298, s299, s300, s301, s302, s303, s304, s305, s306, s307, s308, s309, s310, s311, s312, s313, s314, s315, s316, s317, s318, s319, s320, s321, s322, s323, s324, s325, s326, s327, s328, s329, s330, s331, s332, s333, s334, s335, s336, s337, s338, s339, s340, s341], []⟩
def LowR (w4 : World) (ws : List WrI) (l F : List PrI) (k : Nat) (vw iv : Value) (wr : World) : Prop := ∃ i : Nat, iv = .int .i64 i ∧ St w4 ws l F k i vw wr
def WhR (z : List WrI) (lo hi : Int) (k : Nat) (wA : World) (av jv : Value) (wr : World) : Prop := ∃ (j d : Nat) (a : Int), j ≤ z.length ∧ jv = .int .i64 j ∧ av = .int .i64 a ∧ AtK z lo hi k j a ∧ wr = wA.drewN d
section
variable {w4 wA : World} {pv vw v : Value} {l F : List PrI} {ws z : List WrI} {k i : Nat} {lo hi : Int} {B : Nat} {Q : Exit → Act → World → Prop} {J K : Act → World → Prop}
set_option maxRecDepth 1000000 in
set_option maxHeartbeats 8000000 in
theorem lowLoop {A : Option Addr} {n c : Nat} { s0 s2 s3 s4 s5 s6 s7 s8 s9 s10 s11 s12 s13 s14 s15 s16 s17 s18 s19 s20 s21 s22 s23 s24 s25 s29 s30 s31 s32 s33 s34 s35 s36 s37 s38 s39 s40 s41 s42 s43 s44 s45 s46 s47 s48 s49 s50 s51 s52 s53 s54 s55 s56 s57 s58 s59 s60 s61 s62 s63 s64 s65 s66 s67 s68 s69 s70 s71 s72 s73 s74 s75 s76 s77 s78 s79 s80 s81 s82 s83 s84 s85 s86 s87 s88 s89 s90 s91 s92 s93 s94 s95 s96 s97 s98 s99 s100 s101 s102 s103 s104 s105 s106 s107 s108 s109 s110 s111 s112 s113 s114 s115 s116 s117 s118 s119 s120 s121 s122 s123 s124 s125 s126 s127 s128 s129 s130 s131 s132 s133 s134 s135 s136 s137 s138 s139 s140 s141 s142 s143 s144 s145 s146 s147 s148 s149 s150 s151 s152 s153 s154 s155 s156 s157 s158 s159 s160 s161 s162 s163 s164 s165 s166 s167 s168 s169 s170 s171 s172 s173 s174 s175 s176 s177 s178 s179 s180 s181 s182 s183 s184 s185 s186 s187 s188 s189 s190 s191 s192 s193 s194 s195 s196 s197 s198 s199 s200 s201 s202 s203 s204 s205 s206 s207 s208 s209 s210 s211 s212 s213 s214 s215 s216 s217 s218 s219 s220 s221 s222 s223 s224 s225 s226 s227 s228 s229 s230 s231 s232 s233 s234 s235 s236 s237 s238 s239 s240 s241 s242 s243 s244 s245 s246 s247 s248 s249 s250 s251 s252 s253 s254 s255 s256 s257 s258 s259 s260 s261 s262 s263 s264 s265 s266 s267 s268 s269 s270 s271 s272 s273 s274 s275 s276 s277 s278 s279 s280 s281 s282 s283 s284 s285 s286 s287 s288 s289 s290 s291 s292 s293 s294 s295 s296 s297 s298 s299 s300 s301 s302 s303 s304 s305 s306 s307 s308 s309 s310 s311 s312 s313 s314 s315 s316 s317 s318 s319 s320 s321 s322 s323 s324 s325 s326 s327 s328 s329 s330 s331 s332 s333 s334 s335 s336 s337 s338 s339 s340 s341 : Value}
    (hJ : ∀ a' w', PL w4 ws l F k s0 (.slice A n c) s2 s3 s4 s5 s6 s7 s8 s9 s10 s11 s12 s13 s14 s15 s16 s17 s18 s19 s20 s21 s22 s23 s24 s25 (.int .i64 k) s29 s30 s31 s32 s33 s34 s35 s36 s37 s38 s39 s40 s41 s42 s43 s44 s45 s46 s47 s48 s49 s50 s51 s52 s53 s54 s55 s56 s57 s58 s59 s60 s61 s62 s63 s64 s65 s66 s67 s68 s69 s70 s71 s72 s73 s74 s75 s76 s77 s78 s79 s80 s81 s82 s83 s84 s85 s86 s87 s88 s89 s90 s91 s92 s93 s94 s95 s96 s97 s98 s99 s100 s101 s102 s103 s104 s105 s106 s107 s108 s109 s110 s111 s112 s113 s114 s115 s116 s117 s118 s119 s120 s121 s122 s123 s124 s125 s126 s127 s128 s129 s130 s131 s132 s133 s134 s135 s136 s137 s138 s139 s140 s141 s142 s143 s144 s145 s146 s147 s148 s149 s150 s151 s152 s153 s154 s155 s156 s157 s158 s159 s160 s161 s162 s163 s164 s165 s166 s167 s168 s169 s170 s171 s172 s173 s174 s175 s176 s177 s178 s179 s180 s181 s182 s183 s184 s185 s186 s187 s188 s189 s190 s191 s192 s193 s194 s195 s196 s197 s198 s199 s200 s201 s202 s203 s204 s205 s206 s207 s208 s209 s210 s211 s212 s213 s214 s215 s216 s217 s218 s219 s220 s221 s222 s223 s224 s225 s226 s227 s228 s229 s230 s231 s232 s233 s234 s235 s236 s237 s260 s261 s262 s263 s264 s265 s266 s267 s268 s269 s270 s271 s272 s273 s274 s275 s276 s277 s278 s279 s280 s281 s282 s283 s284 s285 s286 s287 s288 s289 s290 s291 s292 s293 s294 s295 s296 s297 s298 s299 s300 s301 s302 s303 s304 s305 s306 s307 s308 s309 s310 s311 s312 s313 s314 s315 s316 s317 s318 s319 s320 s321 s322 s323 s324 s325 s326 s327 s328 s329 s330 s331 s332 s333 s334 s335 s336 s337 s338 s339 s340 s341 a' w' → J a' w') (hK : ∀ a' w', Met J a' w' → K a' w')
    (hp : LiesP w4 (.slice A n c) l) (en : n = l.length) (hS : St w4 ws l F k i vw wA) (hw : ∀ x ∈ ws, (k : Int) ≤ x.k) (ll : l.length ≤ 100) (k64 : k ≤ 64) :
    Code.wp Try.prog cLow (Exit.then K Q) ⟨#[s0, .slice A n c, s2, s3, s4, s5, s6, s7, s8, s9, s10, s11, s12, s13, s14, s15, s16, s17, s18, s19, s20, s21, s22, s23, s24, s25, vw, .int .i64 i, .int .i64 k, s29, s30, s31, s32, s33, s34, s35, s36, s37, s38, s39, s40, s41, s42, s43, s44, s45, s46, s47, s48, s49, s50, s51, s52, s53, s54, s55, s56, s57, s58, s59, s60, s61, s62, s63, s64, s65, s66, s67, s68, s69, s70, s71, s72, s73, s74, s75, s76, s77, s78, s79, s80, s81, s82, s83, s84, s85, s86, s87, s88, s89, s90, s91, s92, s93, s94, s95, s96, s97, s98, s99, s100, s101, s102, s103, s104, s105, s106, s107, s108, s109, s110, s111, s112, s113, s114, s115, s116, s117, s118, s119, s120, s121, s122, s123, s124, s125, s126, s127, s128, s129, s130, s131, s132, s133, s134, s135, s136, s137, s138, s139, s140, s141, s142, s143, s144, s145, s146, s147, s148, s149, s150, s151, s152, s153, s154, s155, s156, s157, s158, s159, s160, s161, s162, s163, s164, s165, s166, s167, s168, s169, s170, s171, s172, s173, s174, s175, s176, s177, s178, s179, s180, s181, s182, s183, s184, s185, s186, s187, s188, s189, s190, s191, s192, s193, s194, s195, s196, s197, s198, s199, s200, s201, s202, s203, s204, s205, s206, s207, s208, s209, s210, s211, s212, s213, s214, s215, s216, s217, s218, s219, s220, s221, s222, s223, s224, s225, s226, s227, s228, s229, s230, s231, s232, s233, s234, s235, s236, s237, s238, s239, s240, s241, s242, s243, s244, s245, s246, s247, s248, s249, s250, s251, s252, s253, s254, s255, s256, s257, s258, s259, s260, s261, s262, s263, s264, s265, s266, s267, s268, s269, s270, s271, s272, s273, s274, s275, s276, s277, s278, s279, s280, s281, s282, s283, s284, s285, s286, s287, s288, s289, s290, s291, s292, s293, s294, s295, s296, s297, s298, s299, s300, s301, s302, s303, s304, s305, s306, s307, s308, s309, s310, s311, s312, s313, s314, s315, s316, s317, s318, s319, s320, s321, s322, s323, s324, s325, s326, s327, s328, s329, s330, s331, s332, s333, s334, s335, s336, s337, s338, s339, s340, s341], []⟩ wA := by
  subst en
  conv => arg 2; whnf
  dsimp only
  go_wp2
  go_loopw [26, 27] (fun vw iv wr => LowR w4 ws l F k vw iv wr) (fun _ iv _ => l.length - (intOf iv).toNat)
  case atStart => exact ⟨i, rfl, hS⟩
  case round =>
    clear hS
    obtain ⟨i, rfl, hS⟩ := hrel
    have hil : i ≤ l.length := hS.choose_spec.1
    have wk : IntKind.i64.wrap ((i : Int) + 1) = (i : Int) + 1 := IntWalk.i64_in _ (by omega)
    by_cases hlt : i < l.length
    · obtain ⟨p, hx⟩ : ∃ p, l[i]? = some p := ⟨_, List.getElem?_eq_getElem (by omega)⟩
      obtain ⟨R, h1, h2, h3, h4, h5⟩ := hS
      obtain ⟨b, off, rfl, c0, c1⟩ := LiesP.at' (hp.same h3) i p hx
      by_cases hk : p.k < (k : Int)
      · have ed : l.drop i = p :: l.drop (i + 1) := by
          obtain ⟨hi, e⟩ := List.getElem?_eq_some_iff.1 hx
          rw [List.drop_eq_getElem_cons hi, e]
        rw [ed, merge_skip (fun x hx => by have := hw x hx; omega)] at h4
        have H3 := Lib.hid h3
        have H2 := Lib.hid h2
        have H4 := Lib.hid h4
        clear hx ed hp h2 h3 h4 hw
        go_wp2_with (with_reducible refine wp_stop 257 rfl ?_)
        intro _
        refine wp_pushP rfl (.tmp 251) (.tmp 256) rfl w4.heap.size H3.out.size u26 R rfl H2.out p rfl (by omega) ?_
        intro g4 c4 y4 o4 k4 hg4
        have F2 := Lib.hid (show St w4 ws l F k (i + 1) (.slice (some ⟨g4, 0, none⟩) (R.length + 1) c4) y4 from ⟨R ++ [p], by omega, o4, H3.out.older k4 (fun g hg => (OwnP.lt H2.out hg).1), by rw [List.append_assoc]; exact H4.out, by rw [List.length_append]; show R.length + 1 ≤ _; omega⟩)
        clear o4 k4 hg4 c0 c1
        go_wp2
        first | exact ⟨⟨i + 1, by go_num, F2.out⟩, by simp [intOf]; omega⟩ | (refine ⟨?rel2, ?meas2⟩; (case meas2 => (simp [intOf]; omega)); (case rel2 => ((repeat apply Exists.intro); exact ⟨⟨i + 1, by go_num, F2.out⟩, rfl⟩)))
      · have F2 := Lib.hid (show (∃ i2 : Nat, (Value.int .i64 (i : Int)) = .int .i64 i2 ∧ St w4 ws l F k i2 u26 wr ∧ ∀ p, l[i2]? = some p → (k : Int) ≤ p.k) from ⟨i, rfl, ⟨R, h1, h2, h3, h4, h5⟩, fun q hq => by rw [hx] at hq; cases hq; omega⟩)
        clear hx hp h2 h3 h4 hw
        go_wp2_with fail
        go_meet
        case rel => exact F2.out
    · have F2 := Lib.hid (show (∃ i2 : Nat, (Value.int .i64 (i : Int)) = .int .i64 i2 ∧ St w4 ws l F k i2 u26 wr ∧ ∀ p, l[i2]? = some p → (k : Int) ≤ p.k) from ⟨i, rfl, hS, fun q hq => by have := (List.getElem?_eq_some_iff.1 hq).1; omega⟩)
      clear hS hp hw
      go_wp2_with fail
      go_meet
      case rel => exact F2.out
set_option maxRecDepth 1000000 in
set_option maxHeartbeats 8000000 in
theorem whLoop { s0 s1 s4 s5 s6 s7 s8 s9 s10 s11 s13 s14 s15 s16 s17 s18 s19 s21 s22 s23 s24 s25 s26 s27 s30 s31 s32 s33 s34 s35 s36 s37 s38 s39 s40 s41 s42 s43 s44 s45 s46 s47 s48 s49 s50 s51 s52 s53 s54 s55 s56 s57 s58 s59 s60 s61 s62 s63 s64 s65 s66 s67 s68 s69 s70 s71 s72 s73 s74 s75 s76 s77 s78 s79 s80 s81 s82 s83 s84 s85 s86 s87 s88 s89 s90 s91 s92 s93 s94 s95 s96 s97 s98 s99 s100 s101 s102 s103 s104 s105 s106 s107 s108 s109 s110 s111 s112 s113 s114 s115 s116 s117 s118 s119 s120 s121 s122 s123 s124 s125 s126 s127 s128 s129 s130 s131 s132 s133 s134 s135 s136 s137 s138 s139 s140 s141 s142 s143 s144 s145 s146 s147 s148 s149 s150 s151 s152 s153 s154 s155 s156 s157 s158 s159 s160 s161 s162 s163 s164 s165 s166 s167 s168 s169 s170 s171 s172 s173 s174 s175 s176 s177 s178 s179 s180 s181 s182 s183 s184 s185 s186 s187 s188 s189 s190 s191 s192 s193 s194 s195 s196 s197 s198 s199 s200 s201 s202 s203 s204 s205 s206 s207 s208 s209 s210 s211 s212 s213 s214 s215 s216 s217 s218 s219 s220 s221 s222 s223 s224 s225 s226 s227 s228 s229 s230 s231 s232 s233 s234 s235 s236 s237 s238 s239 s240 s241 s242 s243 s244 s245 s246 s247 s248 s249 s250 s251 s252 s253 s254 s255 s256 s257 s258 s259 s260 s261 s262 s263 s264 s265 s266 s267 s268 s269 s270 s271 s272 s273 s274 s275 s276 s277 s278 s279 s280 s281 s282 s283 s284 s285 s286 s287 s288 s289 s290 s291 s292 s293 s294 s295 s296 s297 s298 s299 s300 s301 s302 s303 s304 s305 s306 s307 s308 s309 s310 s311 s312 s313 s314 s315 s316 s317 s318 s319 s320 s321 s322 s323 s324 s325 s326 s327 s328 s329 s330 s331 s332 s333 s334 s335 s336 s337 s338 s339 s340 s341 : Value}
    (hJ : ∀ a' w', PW z lo hi k wA s0 s1 (.int .i64 lo) (.int .i64 hi) s4 s5 s6 s7 s8 s9 s10 s11 v s13 s14 s15 s16 s17 s18 s19 s21 s22 s23 s24 s25 s26 s27 (.int .i64 k) s30 s31 s32 s33 s34 s35 s36 s37 s38 s39 s40 s41 s42 s43 s44 s45 s46 s47 s48 s49 s50 s51 s52 s53 s54 s55 s56 s57 s58 s59 s60 s61 s62 s63 s64 s65 s66 s67 s68 s69 s70 s71 s72 s73 s74 s75 s76 s77 s78 s79 s80 s81 s82 s83 s84 s85 s86 s87 s88 s89 s90 s91 s92 s93 s94 s95 s96 s97 s98 s99 s100 s101 s102 s103 s104 s105 s106 s107 s108 s109 s110 s111 s112 s113 s114 s115 s116 s117 s118 s119 s120 s121 s122 s123 s124 s125 s126 s127 s128 s129 s130 s131 s132 s133 s134 s135 s136 s137 s138 s139 s140 s141 s142 s143 s144 s145 s146 s147 s148 s149 s150 s151 s152 s153 s154 s155 s156 s157 s158 s159 s160 s161 s162 s163 s164 s165 s166 s167 s168 s169 s170 s171 s172 s173 s174 s175 s176 s177 s178 s179 s180 s181 s182 s183 s184 s185 s186 s187 s188 s189 s190 s191 s192 s193 s194 s195 s196 s197 s198 s199 s200 s201 s202 s203 s204 s205 s206 s207 s208 s209 s210 s211 s212 s213 s214 s215 s216 s217 s218 s219 s220 s221 s222 s223 s224 s225 s226 s227 s228 s229 s230 s231 s232 s233 s234 s235 s236 s237 s238 s239 s240 s241 s242 s243 s244 s245 s246 s247 s248 s249 s250 s251 s252 s253 s254 s255 s256 s257 s258 s259 s284 s285 s286 s287 s288 s289 s290 s291 s292 s293 s294 s295 s296 s297 s298 s299 s300 s301 s302 s303 s304 s305 s306 s307 s308 s309 s310 s311 s312 s313 s314 s315 s316 s317 s318 s319 s320 s321 s322 s323 s324 s325 s326 s327 s328 s329 s330 s331 s332 s333 s334 s335 s336 s337 s338 s339 s340 s341 a' w' → J a' w') (hK : ∀ a' w', Met J a' w' → K a' w')
    (o1 : OwnW B wA v z) (zl : z.length ≤ 60) :
    Code.wp Try.prog cWh (Exit.then K Q) ⟨#[s0, s1, .int .i64 lo, .int .i64 hi, s4, s5, s6, s7, s8, s9, s10, s11, v, s13, s14, s15, s16, s17, s18, s19, .int .i64 (-1), s21, s22, s23, s24, s25, s26, s27, .int .i64 k, .int .i64 0, s30, s31, s32, s33, s34, s35, s36, s37, s38, s39, s40, s41, s42, s43, s44, s45, s46, s47, s48, s49, s50, s51, s52, s53, s54, s55, s56, s57, s58, s59, s60, s61, s62, s63, s64, s65, s66, s67, s68, s69, s70, s71, s72, s73, s74, s75, s76, s77, s78, s79, s80, s81, s82, s83, s84, s85, s86, s87, s88, s89, s90, s91, s92, s93, s94, s95, s96, s97, s98, s99, s100, s101, s102, s103, s104, s105, s106, s107, s108, s109, s110, s111, s112, s113, s114, s115, s116, s117, s118, s119, s120, s121, s122, s123, s124, s125, s126, s127, s128, s129, s130, s131, s132, s133, s134, s135, s136, s137, s138, s139, s140, s141, s142, s143, s144, s145, s146, s147, s148, s149, s150, s151, s152, s153, s154, s155, s156, s157, s158, s159, s160, s161, s162, s163, s164, s165, s166, s167, s168, s169, s170, s171, s172, s173, s174, s175, s176, s177, s178, s179, s180, s181, s182, s183, s184, s185, s186, s187, s188, s189, s190, s191, s192, s193, s194, s195, s196, s197, s198, s199, s200, s201, s202, s203, s204, s205, s206, s207, s208, s209, s210, s211, s212, s213, s214, s215, s216, s217, s218, s219, s220, s221, s222, s223, s224, s225, s226, s227, s228, s229, s230, s231, s232, s233, s234, s235, s236, s237, s238, s239, s240, s241, s242, s243, s244, s245, s246, s247, s248, s249, s250, s251, s252, s253, s254, s255, s256, s257, s258, s259, s260, s261, s262, s263, s264, s265, s266, s267, s268, s269, s270, s271, s272, s273, s274, s275, s276, s277, s278, s279, s280, s281, s282, s283, s284, s285, s286, s287, s288, s289, s290, s291, s292, s293, s294, s295, s296, s297, s298, s299, s300, s301, s302, s303, s304, s305, s306, s307, s308, s309, s310, s311, s312, s313, s314, s315, s316, s317, s318, s319, s320, s321, s322, s323, s324, s325, s326, s327, s328, s329, s330, s331, s332, s333, s334, s335, s336, s337, s338, s339, s340, s341], []⟩ wA := by
  obtain ⟨A, c, rfl, hA0, hA1⟩ := OwnW.shape o1
  conv => arg 2; whnf
  dsimp only
  go_wp2
  go_loopw [20, 29] (fun av jv wr => WhR z lo hi k wA av jv wr) (fun _ jv _ => z.length - (intOf jv).toNat)
  case atStart => exact ⟨0, 0, -1, Nat.zero_le _, rfl, rfl, .inl ⟨rfl, fun m x hm => absurd hm (Nat.not_lt_zero m)⟩, rfl⟩
  case round =>
    obtain ⟨j, d, a, hj, rfl, rfl, hI, rfl⟩ := hrel
    by_cases hlt : j < z.length
    · have wk : IntKind.i64.wrap ((j : Int) + 1) = (j : Int) + 1 := IntWalk.i64_in _ (by omega)
      cases A with
      | none => rw [hA0 rfl] at hlt; simp at hlt
      | some ad =>
        obtain ⟨g, rfl⟩ := hA1 _ rfl
        obtain ⟨x, hx⟩ : ∃ x, z[j]? = some x := ⟨_, List.getElem?_eq_getElem hlt⟩
        have c0 := (OwnW.cells o1 j x hx).1
        by_cases hy : x.k = (k : Int)
        · by_cases hl : lo ≤ (k : Int)
          · by_cases hh : (k : Int) ≤ hi
            · have F := Lib.hid (hI.yes hx ⟨hy, hl, hh⟩)
              rw [hy] at c0
              clear hA0 hA1 o1 hx hI hy
              go_wp2
              first | exact ⟨⟨j + 1, _, _, by omega, by go_num, rfl, F.out, rfl⟩, by simp [intOf]; omega⟩ | (refine ⟨?rel2, ?meas2⟩; (case meas2 => (simp [intOf]; omega)); (case rel2 => ((repeat apply Exists.intro); exact ⟨⟨j + 1, _, _, by omega, by go_num, rfl, F.out, rfl⟩, rfl⟩)))
            · have F := Lib.hid (hI.no hx (fun e => hh e.2.2))
              rw [hy] at c0
              clear hA0 hA1 o1 hx hI hy
              go_wp2
              first | exact ⟨⟨j + 1, _, _, by omega, by go_num, rfl, F.out, rfl⟩, by simp [intOf]; omega⟩ | (refine ⟨?rel2, ?meas2⟩; (case meas2 => (simp [intOf]; omega)); (case rel2 => ((repeat apply Exists.intro); exact ⟨⟨j + 1, _, _, by omega, by go_num, rfl, F.out, rfl⟩, rfl⟩)))
          · have F := Lib.hid (hI.no hx (fun e => hl e.2.1))
            rw [hy] at c0
            clear hA0 hA1 o1 hx hI hy
            go_wp2
            first | exact ⟨⟨j + 1, _, _, by omega, by go_num, rfl, F.out, rfl⟩, by simp [intOf]; omega⟩ | (refine ⟨?rel2, ?meas2⟩; (case meas2 => (simp [intOf]; omega)); (case rel2 => ((repeat apply Exists.intro); exact ⟨⟨j + 1, _, _, by omega, by go_num, rfl, F.out, rfl⟩, rfl⟩)))
        · have F := Lib.hid (hI.no hx (fun e => hy e.1))
          obtain ⟨y, ey⟩ : ∃ y, x.k = y := ⟨_, rfl⟩
          rw [ey] at c0 hy
          have q0 : (y == (k : Int)) = false := by simpa using hy
          clear hA0 hA1 o1 hx hI hy ey
          go_wp2
          first | exact ⟨⟨j + 1, _, _, by omega, by go_num, rfl, F.out, rfl⟩, by simp [intOf]; omega⟩ | (refine ⟨?rel2, ?meas2⟩; (case meas2 => (simp [intOf]; omega)); (case rel2 => ((repeat apply Exists.intro); exact ⟨⟨j + 1, _, _, by omega, by go_num, rfl, F.out, rfl⟩, rfl⟩)))
    · obtain rfl : j = z.length := by omega
      have F := Lib.hid hI
      clear hA0 hA1 o1 hI
      go_wp2_with fail
      go_meet
      case rel => exact ⟨⟨a, rfl, F.out⟩, d, rfl⟩
end
end Go.Proofs.Ythojmdjcfkadoaa.writesPlays
