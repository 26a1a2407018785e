/- WritesPlays: one key of the law's own laying; conditions: what the parts before it have laid. -/
import Derived.Test.YthojmdjcfkadoaaWyC
namespace Go.Proofs.Ythojmdjcfkadoaa.writesPlays
open Go.ChangeShapes Go.WideShapes Go.ChangeAt Go.RowKit
set_option linter.unusedVariables false
noncomputable def cOld : Code := (Try.f5.body.bind (afterB 10)).getD .skip
noncomputable def cSel : Code := (Try.f5.body.bind (afterG 57)).getD .skip
theorem ws_none {z : List WrI} {lo hi a : Int} {k : Nat} (h : AtK z lo hi k z.length a) (ha : a = -1) (n : Nat) : wsFrom z lo hi k (n + 1) = wsFrom z lo hi (k + 1) n := by
  show (if lo ≤ (k : Int) ∧ (k : Int) ≤ hi then (wlook z k).toList else []) ++ wsFrom z lo hi (k + 1) n = _
  rcases h with ⟨_, h2⟩ | ⟨m, x, h1, _⟩
  · split
    · rename_i c
      rw [wlook_none fun y hy e => by
        obtain ⟨m, hm, rfl⟩ := List.getElem_of_mem hy
        exact h2 m _ hm (List.getElem?_eq_getElem hm) ⟨e, c⟩]
      rfl
    · rfl
  · omega
theorem ws_some {z : List WrI} {lo hi : Int} {k m : Nat} {x : WrI} (nd : (z.map WrI.k).Nodup) (hx : z[m]? = some x) (e : x.k = (k : Int) ∧ lo ≤ (k : Int) ∧ (k : Int) ≤ hi) (n : Nat) : wsFrom z lo hi k (n + 1) = x :: wsFrom z lo hi (k + 1) n := by
  show (if lo ≤ (k : Int) ∧ (k : Int) ≤ hi then (wlook z k).toList else []) ++ wsFrom z lo hi (k + 1) n = _
  rw [if_pos e.2, ← e.1, wlook_of nd (List.mem_of_getElem? hx)]
  rfl
/-- Whether the pair that comes next is of the key. -/
def IsOld (l : List PrI) (i k : Nat) (old : Bool) : Prop := (old = true ∧ ∃ p, l[i]? = some p ∧ p.k = (k : Int)) ∨ (old = false ∧ ∀ p, l[i]? = some p → (k : Int) < p.k)
theorem drop_at {l : List PrI} {i : Nat} {p : PrI} (hx : l[i]? = some p) : l.drop i = p :: l.drop (i + 1) := by
  obtain ⟨hi, e⟩ := List.getElem?_eq_some_iff.1 hx
  rw [List.drop_eq_getElem_cons hi, e]
theorem merge_here {x : WrI} {ws : List WrI} {l : List PrI} {i k : Nat} {old : Bool} (h : IsOld l i k old) (e : x.k = (k : Int)) : mergeW (x :: ws) (l.drop i) = cellW x ++ mergeW ws (l.drop (if old then i + 1 else i)) := by
  rcases h with ⟨rfl, p, hp, hk⟩ | ⟨rfl, h⟩
  · rw [drop_at hp, merge_eq (by omega)]; rfl
  · show _ = cellW x ++ mergeW ws (l.drop i)
    cases hd : l.drop i with
    | nil => exact merge_no
    | cons p l' =>
      have : l[i]? = some p := by
        have := List.getElem?_drop (xs := l) (i := i) (j := 0)
        rw [hd] at this
        simpa using this.symm
      have := h p this
      exact merge_gt (by omega)
set_option maxRecDepth 1000000 in
/-- Behind a key. -/
def PEW (z : List WrI) (lo hi : Int) (w4 : World) (l F : List PrI) (k n : Nat) (s0 s1 s2 s3 s4 s5 s6 s7 s8 s9 s10 s11 s12 s13 s14 s15 s16 s17 s18 s19 s21 s22 s23 s24 s25 s28 s31 s32 s33 s34 s35 s36 s37 s38 s39 s40 s41 s42 s43 s44 s45 s46 s47 s48 s49 s50 s51 s52 s53 s54 s55 s56 s57 s58 s59 s60 s61 s62 s63 s64 s65 s66 s67 s68 s69 s70 s71 s72 s73 s74 s75 s76 s77 s78 s79 s80 s81 s82 s83 s84 s85 s86 s87 s88 s89 s90 s91 s92 s93 s94 s95 s96 s97 s98 s99 s100 s101 s102 s103 s104 s105 s106 s107 s108 s109 s110 s111 s112 s113 s114 s115 s116 s117 s118 s119 s120 s121 s122 s123 s124 s125 s126 s127 s128 s129 s130 s131 s132 s133 s134 s135 s136 s137 s138 s139 s140 s141 s142 s143 s144 s145 s146 s147 s148 s149 s150 s151 s152 s153 s154 s155 s156 s157 s158 s159 s160 s161 s162 s163 s164 s165 s166 s167 s168 s169 s170 s171 s172 s173 s174 s175 s176 s177 s178 s179 s180 s181 s182 s183 s184 s185 s186 s187 s188 s189 s190 s191 s192 s193 s194 s195 s196 s197 s198 s199 s200 s201 s202 s203 s204 s205 s206 s207 s208 s209 s210 s211 s212 s213 s214 s215 s216 s217 s218 s219 s220 s221 s222 s223 s224 s225 s226 s227 s228 s229 s230 s231 s232 s233 s234 s235 s236 s237 s334 s335 s336 s337 s338 s339 s340 s341 : Value) (a' : Act) (w' : World) : Prop :=
  ∃ u20 u26 u27 u29 u30 u238 u239 u240 u241 u242 u243 u244 u245 u246 u247 u248 u249 u250 u251 u252 u253 u254 u255 u256 u257 u258 u259 u260 u261 u262 u263 u264 u265 u266 u267 u268 u269 u270 u271 u272 u273 u274 u275 u276 u277 u278 u279 u280 u281 u282 u283 u284 u285 u286 u287 u288 u289 u290 u291 u292 u293 u294 u295 u296 u297 u298 u299 u300 u301 u302 u303 u304 u305 u306 u307 u308 u309 u310 u311 u312 u313 u314 u315 u316 u317 u318 u319 u320 u321 u322 u323 u324 u325 u326 u327 u328 u329 u330 u331 u332 u333 : Value, (∃ i : Nat, u27 = .int .i64 i ∧ St w4 (wsFrom z lo hi (k + 1) n) l F (k + 1) i u26 w') ∧ a' = ⟨#[s0, s1, s2, s3, s4, s5, s6, s7, s8, s9, s10, s11, s12, s13, s14, s15, s16, s17, s18, s19, u20, s21, s22, s23, s24, s25, u26, u27, s28, u29, u30, s31, s32, s33, s34, s35, s36, s37, s38, s39, s40, s41, s42, s43, s44, s45, s46, s47, s48, s49, s50, s51, s52, s53, s54, s55, s56, s57, s58, s59, s60, s61, s62, s63, s64, s65, s66, s67, s68, s69, s70, s71, s72, s73, s74, s75, s76, s77, s78, s79, s80, s81, s82, s83, s84, s85, s86, s87, s88, s89, s90, s91, s92, s93, s94, s95, s96, s97, s98, s99, s100, s101, s102, s103, s104, s105, s106, s107, s108, s109, s110, s111, s112, s113, s114, s115, s116, s117, s118, s119, s120, s121, s122, s123, s124, s125, s126, s127, s128, s129, s130, s131, s132, s133, s134, s135, s136, s137, s138, s139, s140, s141, s142, s143, s144, s145, s146, s147, s148, s149, s150, s151, s152, s153, s154, s155, s156, s157, s158, s159, s160, s161, s162, s163, s164, s165, s166, s167, s168, s169, s170, s171, s172, s173, s174, s175, s176, s177, s178, s179, s180, s181, s182, s183, s184, s185, s186, s187, s188, s189, s190, s191, s192, s193, s194, s195, s196, s197, s198, s199, s200, s201, s202, s203, s204, s205, s206, s207, s208, s209, s210, s211, s212, s213, s214, s215, s216, s217, s218, s219, s220, s221, s222, s223, s224, s225, s226, s227, s228, s229, s230, s231, s232, s233, s234, s235, s236, s237, u238, u239, u240, u241, u242, u243, u244, u245, u246, u247, u248, u249, u250, u251, u252, u253, u254, u255, u256, u257, u258, u259, u260, u261, u262, u263, u264, u265, u266, u267, u268, u269, u270, u271, u272, u273, u274, u275, u276, u277, u278, u279, u280, u281, u282, u283, u284, u285, u286, u287, u288, u289, u290, u291, u292, u293, u294, u295, u296, u297, u298, u299, u300, u301, u302, u303, u304, u305, u306, u307, u308, u309, u310, u311, u312, u313, u314, u315, u316, u317, u318, u319, u320, u321, u322, u323, u324, u325, u326, u327, u328, u329, u330, u331, u332, u333, s334, s335, s336, s337, s338, s339, s340, s341], []⟩
section
variable {w4 wA : World} {vw v : Value} {l F : List PrI} {z : List WrI} {k i n : Nat} {lo hi a : Int} {B : Nat} {Q : Exit → Act → World → Prop} {JE KE : Act → World → Prop}
set_option maxRecDepth 1000000 in
set_option maxHeartbeats 16000000 in
theorem swRest {A A1 : Option Addr} {c c1 : Nat} {old : Bool} { s0 s2 s3 s4 s5 s6 s7 s8 s9 s10 s11 s13 s14 s15 s16 s17 s18 s19 s21 s22 s23 s24 s25 s29 s31 s32 s33 s34 s35 s36 s37 s38 s39 s40 s41 s42 s43 s44 s45 s46 s47 s48 s49 s50 s51 s52 s53 s54 s55 s56 s57 s58 s59 s60 s61 s62 s63 s64 s65 s66 s67 s68 s69 s70 s71 s72 s73 s74 s75 s76 s77 s78 s79 s80 s81 s82 s83 s84 s85 s86 s87 s88 s89 s90 s91 s92 s93 s94 s95 s96 s97 s98 s99 s100 s101 s102 s103 s104 s105 s106 s107 s108 s109 s110 s111 s112 s113 s114 s115 s116 s117 s118 s119 s120 s121 s122 s123 s124 s125 s126 s127 s128 s129 s130 s131 s132 s133 s134 s135 s136 s137 s138 s139 s140 s141 s142 s143 s144 s145 s146 s147 s148 s149 s150 s151 s152 s153 s154 s155 s156 s157 s158 s159 s160 s161 s162 s163 s164 s165 s166 s167 s168 s169 s170 s171 s172 s173 s174 s175 s176 s177 s178 s179 s180 s181 s182 s183 s184 s185 s186 s187 s188 s189 s190 s191 s192 s193 s194 s195 s196 s197 s198 s199 s200 s201 s202 s203 s204 s205 s206 s207 s208 s209 s210 s211 s212 s213 s214 s215 s216 s217 s218 s219 s220 s221 s222 s223 s224 s225 s226 s227 s228 s229 s230 s231 s232 s233 s234 s235 s236 s237 s238 s239 s240 s241 s242 s243 s244 s245 s246 s247 s248 s249 s250 s251 s252 s253 s254 s255 s256 s257 s258 s259 s260 s261 s262 s263 s264 s265 s266 s267 s268 s269 s270 s271 s272 s273 s274 s275 s276 s277 s278 s279 s280 s281 s282 s283 s284 s285 s286 s287 s288 s289 s290 s291 s292 s293 s294 s295 s296 s297 s298 s299 s300 s301 s302 s303 s304 s305 s306 s307 s308 s309 s310 s311 s312 s313 s314 s315 s316 s317 s318 s319 s320 s321 s322 s323 s324 s325 s326 s327 s328 s329 s330 s331 s332 s333 s334 s335 s336 s337 s338 s339 s340 s341 : Value}
    (hJE : ∀ a' w', PEW z lo hi w4 l F k n s0 (.slice A l.length c) s2 s3 s4 s5 s6 s7 s8 s9 s10 s11 (.slice A1 z.length c1) s13 s14 s15 s16 s17 s18 s19 s21 s22 s23 s24 s25 (.int .i64 k) s31 s32 s33 s34 s35 s36 s37 s38 s39 s40 s41 s42 s43 s44 s45 s46 s47 s48 s49 s50 s51 s52 s53 s54 s55 s56 s57 s58 s59 s60 s61 s62 s63 s64 s65 s66 s67 s68 s69 s70 s71 s72 s73 s74 s75 s76 s77 s78 s79 s80 s81 s82 s83 s84 s85 s86 s87 s88 s89 s90 s91 s92 s93 s94 s95 s96 s97 s98 s99 s100 s101 s102 s103 s104 s105 s106 s107 s108 s109 s110 s111 s112 s113 s114 s115 s116 s117 s118 s119 s120 s121 s122 s123 s124 s125 s126 s127 s128 s129 s130 s131 s132 s133 s134 s135 s136 s137 s138 s139 s140 s141 s142 s143 s144 s145 s146 s147 s148 s149 s150 s151 s152 s153 s154 s155 s156 s157 s158 s159 s160 s161 s162 s163 s164 s165 s166 s167 s168 s169 s170 s171 s172 s173 s174 s175 s176 s177 s178 s179 s180 s181 s182 s183 s184 s185 s186 s187 s188 s189 s190 s191 s192 s193 s194 s195 s196 s197 s198 s199 s200 s201 s202 s203 s204 s205 s206 s207 s208 s209 s210 s211 s212 s213 s214 s215 s216 s217 s218 s219 s220 s221 s222 s223 s224 s225 s226 s227 s228 s229 s230 s231 s232 s233 s234 s235 s236 s237 s334 s335 s336 s337 s338 s339 s340 s341 a' w' → JE a' w') (hKE : ∀ a' w', Met JE a' w' → KE a' w')
    (hp : LiesP wA (.slice A l.length c) l) (o1 : OwnW B wA (.slice A1 z.length c1) z) (nd : (z.map WrI.k).Nodup) (hS : St w4 (wsFrom z lo hi k (n + 1)) l F k i vw wA) (hA : AtK z lo hi k z.length a) (hold : IsOld l i k old) (ll : l.length ≤ 100) (k64 : k < 64) :
    Code.wp Try.prog cSel (Exit.inBlock 7 (Exit.then KE Q)) ⟨#[s0, .slice A l.length c, s2, s3, s4, s5, s6, s7, s8, s9, s10, s11, .slice A1 z.length c1, s13, s14, s15, s16, s17, s18, s19, .int .i64 a, s21, s22, s23, s24, s25, vw, .int .i64 i, .int .i64 k, s29, .bool old, s31, s32, s33, s34, s35, s36, s37, s38, s39, s40, s41, s42, s43, s44, s45, s46, s47, s48, s49, s50, s51, s52, s53, s54, s55, s56, s57, s58, s59, s60, s61, s62, s63, s64, s65, s66, s67, s68, s69, s70, s71, s72, s73, s74, s75, s76, s77, s78, s79, s80, s81, s82, s83, s84, s85, s86, s87, s88, s89, s90, s91, s92, s93, s94, s95, s96, s97, s98, s99, s100, s101, s102, s103, s104, s105, s106, s107, s108, s109, s110, s111, s112, s113, s114, s115, s116, s117, s118, s119, s120, s121, s122, s123, s124, s125, s126, s127, s128, s129, s130, s131, s132, s133, s134, s135, s136, s137, s138, s139, s140, s141, s142, s143, s144, s145, s146, s147, s148, s149, s150, s151, s152, s153, s154, s155, s156, s157, s158, s159, s160, s161, s162, s163, s164, s165, s166, s167, s168, s169, s170, s171, s172, s173, s174, s175, s176, s177, s178, s179, s180, s181, s182, s183, s184, s185, s186, s187, s188, s189, s190, s191, s192, s193, s194, s195, s196, s197, s198, s199, s200, s201, s202, s203, s204, s205, s206, s207, s208, s209, s210, s211, s212, s213, s214, s215, s216, s217, s218, s219, s220, s221, s222, s223, s224, s225, s226, s227, s228, s229, s230, s231, s232, s233, s234, s235, s236, s237, s238, s239, s240, s241, s242, s243, s244, s245, s246, s247, s248, s249, s250, s251, s252, s253, s254, s255, s256, s257, s258, s259, s260, s261, s262, s263, s264, s265, s266, s267, s268, s269, s270, s271, s272, s273, s274, s275, s276, s277, s278, s279, s280, s281, s282, s283, s284, s285, s286, s287, s288, s289, s290, s291, s292, s293, s294, s295, s296, s297, s298, s299, s300, s301, s302, s303, s304, s305, s306, s307, s308, s309, s310, s311, s312, s313, s314, s315, s316, s317, s318, s319, s320, s321, s322, s323, s324, s325, s326, s327, s328, s329, s330, s331, s332, s333, s334, s335, s336, s337, s338, s339, s340, s341], []⟩ wA := by
  obtain ⟨R, h1, h2, h3, h4, h5⟩ := hS
  have wk : IntKind.i64.wrap ((i : Int) + 1) = (i : Int) + 1 := IntWalk.i64_in _ (by omega)
  have H2 := Lib.hid h2
  have H3 := Lib.hid h3
  rcases hA with ⟨rfl, hno⟩ | ⟨m, x, rfl, hm, hx, hxk⟩
  · rw [ws_none (.inl ⟨rfl, hno⟩) rfl] at h4
    rcases hold with ⟨rfl, p, hpi, hk⟩ | ⟨rfl, hq⟩
    · obtain ⟨b, off, rfl, c0, c1'⟩ := LiesP.at' hp i p hpi
      rw [drop_at hpi, merge_skip (fun y hy => by have := wsFrom_ge hy; omega)] at h4
      have hi2 := (List.getElem?_eq_some_iff.1 hpi).1
      have H4 := Lib.hid h4
      clear h2 h3 h4 hno o1 hp hpi hk nd
      conv => arg 2; whnf
      dsimp only
      go_wp2_with (with_reducible refine wp_stop 330 rfl ?_)
      intro _
      refine wp_pushP rfl (.tmp 324) (.tmp 329) rfl w4.heap.size H3.out.size vw R rfl H2.out p rfl (by omega) ?_
      intro g4 d4 y4 o4 k4 hg4
      have F2 := Lib.hid (show St w4 (wsFrom z lo hi (k + 1) n) l F (k + 1) (i + 1) (.slice (some ⟨g4, 0, none⟩) (R.length + 1) d4) y4 from ⟨R ++ [p], hi2, o4, H3.out.older k4 (fun g hg => (OwnP.lt H2.out hg).1), by rw [List.append_assoc]; exact H4.out, by rw [List.length_append]; show R.length + 1 ≤ _; omega⟩)
      clear o4 k4 hg4 c0 c1'
      go_wp2_with fail
      go_meet
      case rel => exact ⟨i + 1, by go_num, F2.out⟩
    · have F2 := Lib.hid (show St w4 (wsFrom z lo hi (k + 1) n) l F (k + 1) i vw wA from ⟨R, h1, h2, h3, h4, by omega⟩)
      clear h2 h3 h4 hno o1 hp hq nd
      conv => arg 2; whnf
      dsimp only
      go_wp2_with fail
      go_meet
      case rel => exact ⟨i, rfl, F2.out⟩
  · rw [ws_some nd hx hxk, merge_here hold hxk.1, ← List.append_assoc] at h4
    have hio : (if old then i + 1 else i) ≤ l.length := by
      rcases hold with ⟨rfl, p, hpi, _⟩ | ⟨rfl, _⟩
      · exact (List.getElem?_eq_some_iff.1 hpi).1
      · exact h1
    have lR : R.length ≤ i + k := h5
    cases A1 with
    | none =>
      obtain ⟨A', c', e, hz0, _⟩ := OwnW.shape o1
      cases e
      rw [hz0 rfl] at hm
      simp at hm
    | some ad =>
      obtain ⟨g, rfl⟩ : ∃ g, ad = ⟨g, 0, none⟩ := by
        obtain ⟨A', c', e, _, hz1⟩ := OwnW.shape o1
        cases e
        exact hz1 _ rfl
      obtain ⟨c0, c1', c2⟩ := OwnW.cells o1 m x hx
      cases hg : x.g with
      | false =>
        rw [hg] at c2
        have ec : cellW x = [⟨x.k, x.v⟩] := by unfold cellW; rw [hg]; rfl
        rw [ec] at h4
        obtain ⟨xk, xv, xg⟩ := x
        have hxk : xk = (k : Int) := hxk.1
        simp only at h4 c0 c1' c2
        subst hxk
        have H4 := Lib.hid h4
        have HIO := Lib.hid hio
        clear h2 h3 h4 o1 hp nd hx hg ec hold hio
        conv => arg 2; whnf
        dsimp only
        go_wp2_with (with_reducible refine wp_stop 317 rfl ?_)
        intro _
        refine wp_pushP rfl (.tmp 308) (.tmp 316) rfl w4.heap.size H3.out.size vw R rfl H2.out ⟨k, xv⟩ rfl (by omega) ?_
        intro g4 d4 y4 o4 k4 hg4
        have F2 := fun (i2 : Nat) (e : (if old then i + 1 else i) = i2) => show St w4 (wsFrom z lo hi (k + 1) n) l F (k + 1) i2 (.slice (some ⟨g4, 0, none⟩) (R.length + 1) d4) y4 from e ▸ ⟨R ++ [⟨k, xv⟩], HIO.out, o4, H3.out.older k4 (fun g hg => (OwnP.lt H2.out hg).1), H4.out, by rw [List.length_append]; show R.length + 1 ≤ _; split <;> omega⟩
        have F2 := Lib.hid F2
        clear o4 k4 hg4 c0 c1' c2
        cases old with
        | true =>
          have F3 := Lib.hid (F2.out (i + 1) rfl)
          clear F2 H4 HIO
          go_wp2_with fail
          go_meet
          case rel => exact ⟨i + 1, by go_num, F3.out⟩
        | false =>
          have F3 := Lib.hid (F2.out i rfl)
          clear F2 H4 HIO
          go_wp2_with fail
          go_meet
          case rel => exact ⟨i, rfl, F3.out⟩
      | true =>
        rw [hg] at c2
        have ec : cellW x = [] := by unfold cellW; rw [hg]; rfl
        rw [ec, List.append_nil] at h4
        have F2 := fun (i2 : Nat) (e : (if old then i + 1 else i) = i2) => show St w4 (wsFrom z lo hi (k + 1) n) l F (k + 1) i2 vw wA from e ▸ ⟨R, hio, h2, h3, h4, by split <;> omega⟩
        have F2 := Lib.hid F2
        clear h2 h3 h4 o1 hp nd hx hg ec hold hio
        cases old with
        | true =>
          have F3 := Lib.hid (F2.out (i + 1) rfl)
          clear F2
          conv => arg 2; whnf
          dsimp only
          go_wp2_with fail
          go_meet
          case rel => exact ⟨i + 1, by go_num, F3.out⟩
        | false =>
          have F3 := Lib.hid (F2.out i rfl)
          clear F2
          conv => arg 2; whnf
          dsimp only
          go_wp2_with fail
          go_meet
          case rel => exact ⟨i, rfl, F3.out⟩
set_option maxRecDepth 1000000 in
set_option maxHeartbeats 16000000 in
theorem swEnd {A : Option Addr} {c : Nat} { s0 s2 s3 s4 s5 s6 s7 s8 s9 s10 s11 s13 s14 s15 s16 s17 s18 s19 s21 s22 s23 s24 s25 s29 s30 s31 s32 s33 s34 s35 s36 s37 s38 s39 s40 s41 s42 s43 s44 s45 s46 s47 s48 s49 s50 s51 s52 s53 s54 s55 s56 s57 s58 s59 s60 s61 s62 s63 s64 s65 s66 s67 s68 s69 s70 s71 s72 s73 s74 s75 s76 s77 s78 s79 s80 s81 s82 s83 s84 s85 s86 s87 s88 s89 s90 s91 s92 s93 s94 s95 s96 s97 s98 s99 s100 s101 s102 s103 s104 s105 s106 s107 s108 s109 s110 s111 s112 s113 s114 s115 s116 s117 s118 s119 s120 s121 s122 s123 s124 s125 s126 s127 s128 s129 s130 s131 s132 s133 s134 s135 s136 s137 s138 s139 s140 s141 s142 s143 s144 s145 s146 s147 s148 s149 s150 s151 s152 s153 s154 s155 s156 s157 s158 s159 s160 s161 s162 s163 s164 s165 s166 s167 s168 s169 s170 s171 s172 s173 s174 s175 s176 s177 s178 s179 s180 s181 s182 s183 s184 s185 s186 s187 s188 s189 s190 s191 s192 s193 s194 s195 s196 s197 s198 s199 s200 s201 s202 s203 s204 s205 s206 s207 s208 s209 s210 s211 s212 s213 s214 s215 s216 s217 s218 s219 s220 s221 s222 s223 s224 s225 s226 s227 s228 s229 s230 s231 s232 s233 s234 s235 s236 s237 s238 s239 s240 s241 s242 s243 s244 s245 s246 s247 s248 s249 s250 s251 s252 s253 s254 s255 s256 s257 s258 s259 s260 s261 s262 s263 s264 s265 s266 s267 s268 s269 s270 s271 s272 s273 s274 s275 s276 s277 s278 s279 s280 s281 s282 s283 s284 s285 s286 s287 s288 s289 s290 s291 s292 s293 s294 s295 s296 s297 s298 s299 s300 s301 s302 s303 s304 s305 s306 s307 s308 s309 s310 s311 s312 s313 s314 s315 s316 s317 s318 s319 s320 s321 s322 s323 s324 s325 s326 s327 s328 s329 s330 s331 s332 s333 s334 s335 s336 s337 s338 s339 s340 s341 : Value}
    (hJE : ∀ a' w', PEW z lo hi w4 l F k n s0 (.slice A l.length c) s2 s3 s4 s5 s6 s7 s8 s9 s10 s11 v s13 s14 s15 s16 s17 s18 s19 s21 s22 s23 s24 s25 (.int .i64 k) s31 s32 s33 s34 s35 s36 s37 s38 s39 s40 s41 s42 s43 s44 s45 s46 s47 s48 s49 s50 s51 s52 s53 s54 s55 s56 s57 s58 s59 s60 s61 s62 s63 s64 s65 s66 s67 s68 s69 s70 s71 s72 s73 s74 s75 s76 s77 s78 s79 s80 s81 s82 s83 s84 s85 s86 s87 s88 s89 s90 s91 s92 s93 s94 s95 s96 s97 s98 s99 s100 s101 s102 s103 s104 s105 s106 s107 s108 s109 s110 s111 s112 s113 s114 s115 s116 s117 s118 s119 s120 s121 s122 s123 s124 s125 s126 s127 s128 s129 s130 s131 s132 s133 s134 s135 s136 s137 s138 s139 s140 s141 s142 s143 s144 s145 s146 s147 s148 s149 s150 s151 s152 s153 s154 s155 s156 s157 s158 s159 s160 s161 s162 s163 s164 s165 s166 s167 s168 s169 s170 s171 s172 s173 s174 s175 s176 s177 s178 s179 s180 s181 s182 s183 s184 s185 s186 s187 s188 s189 s190 s191 s192 s193 s194 s195 s196 s197 s198 s199 s200 s201 s202 s203 s204 s205 s206 s207 s208 s209 s210 s211 s212 s213 s214 s215 s216 s217 s218 s219 s220 s221 s222 s223 s224 s225 s226 s227 s228 s229 s230 s231 s232 s233 s234 s235 s236 s237 s334 s335 s336 s337 s338 s339 s340 s341 a' w' → JE a' w') (hKE : ∀ a' w', Met JE a' w' → KE a' w')
    (hp : LiesP w4 (.slice A l.length c) l) (o1 : OwnW B wA v z) (nd : (z.map WrI.k).Nodup) (hS : St w4 (wsFrom z lo hi k (n + 1)) l F k i vw wA) (hA : AtK z lo hi k z.length a) (hh : ∀ p, l[i]? = some p → (k : Int) ≤ p.k) (ll : l.length ≤ 100) (k64 : k < 64) :
    Code.wp Try.prog cOld (Exit.inBlock 7 (Exit.then KE Q)) ⟨#[s0, .slice A l.length c, s2, s3, s4, s5, s6, s7, s8, s9, s10, s11, v, s13, s14, s15, s16, s17, s18, s19, .int .i64 a, s21, s22, s23, s24, s25, vw, .int .i64 i, .int .i64 k, s29, s30, s31, s32, s33, s34, s35, s36, s37, s38, s39, s40, s41, s42, s43, s44, s45, s46, s47, s48, s49, s50, s51, s52, s53, s54, s55, s56, s57, s58, s59, s60, s61, s62, s63, s64, s65, s66, s67, s68, s69, s70, s71, s72, s73, s74, s75, s76, s77, s78, s79, s80, s81, s82, s83, s84, s85, s86, s87, s88, s89, s90, s91, s92, s93, s94, s95, s96, s97, s98, s99, s100, s101, s102, s103, s104, s105, s106, s107, s108, s109, s110, s111, s112, s113, s114, s115, s116, s117, s118, s119, s120, s121, s122, s123, s124, s125, s126, s127, s128, s129, s130, s131, s132, s133, s134, s135, s136, s137, s138, s139, s140, s141, s142, s143, s144, s145, s146, s147, s148, s149, s150, s151, s152, s153, s154, s155, s156, s157, s158, s159, s160, s161, s162, s163, s164, s165, s166, s167, s168, s169, s170, s171, s172, s173, s174, s175, s176, s177, s178, s179, s180, s181, s182, s183, s184, s185, s186, s187, s188, s189, s190, s191, s192, s193, s194, s195, s196, s197, s198, s199, s200, s201, s202, s203, s204, s205, s206, s207, s208, s209, s210, s211, s212, s213, s214, s215, s216, s217, s218, s219, s220, s221, s222, s223, s224, s225, s226, s227, s228, s229, s230, s231, s232, s233, s234, s235, s236, s237, s238, s239, s240, s241, s242, s243, s244, s245, s246, s247, s248, s249, s250, s251, s252, s253, s254, s255, s256, s257, s258, s259, s260, s261, s262, s263, s264, s265, s266, s267, s268, s269, s270, s271, s272, s273, s274, s275, s276, s277, s278, s279, s280, s281, s282, s283, s284, s285, s286, s287, s288, s289, s290, s291, s292, s293, s294, s295, s296, s297, s298, s299, s300, s301, s302, s303, s304, s305, s306, s307, s308, s309, s310, s311, s312, s313, s314, s315, s316, s317, s318, s319, s320, s321, s322, s323, s324, s325, s326, s327, s328, s329, s330, s331, s332, s333, s334, s335, s336, s337, s338, s339, s340, s341], []⟩ wA := by
  obtain ⟨old, hold⟩ : ∃ old, IsOld l i k old := by
    cases e : l[i]? with
    | none => exact ⟨false, .inr ⟨rfl, fun p hp => by rw [e] at hp; cases hp⟩⟩
    | some p =>
      have := hh p e
      by_cases h : p.k = (k : Int)
      · exact ⟨true, .inl ⟨rfl, p, e, h⟩⟩
      · exact ⟨false, .inr ⟨rfl, fun q hq => by rw [e] at hq; cases hq; omega⟩⟩
  obtain ⟨R, h1, h2, h3, h4, h5⟩ := hS
  obtain ⟨A1, c1, e1, hA0, hA1⟩ := OwnW.shape o1
  have hpA := hp.same h3
  have wk : IntKind.i64.wrap ((i : Int) + 1) = (i : Int) + 1 := IntWalk.i64_in _ (by omega)
  have HO := Lib.hid hold
  have HA := Lib.hid hA
  have H2 := Lib.hid h2
  have H3 := Lib.hid h3
  have H4 := Lib.hid h4
  have O1 := Lib.hid o1
  clear hA h2 h3 h4 hh hp
  conv => arg 2; whnf
  dsimp only
  subst e1
  go_upto_region 57 with fail
  rename_i K5 hK5
  have HK := Lib.hid hK5
  clear hK5
  go_cut [30] from 284 to 296 (fun ov wx => ov = .bool old ∧ wA = wx)
  case first =>
    clear O1 hA0 hA1 o1
    by_cases hil : i < l.length
    · obtain ⟨p, hx⟩ : ∃ p, l[i]? = some p := ⟨_, List.getElem?_eq_getElem hil⟩
      obtain ⟨b, off, rfl, c0, c1'⟩ := LiesP.at' hpA i p hx
      rcases hold with ⟨rfl, q, hq, hk⟩ | ⟨rfl, hq⟩
      · rw [hx] at hq
        cases hq
        rw [hk] at c0
        clear hx hpA c1' HO hk
        go_wp2_with fail
        go_meet
        case rel => exact ⟨rfl, rfl⟩
      · have := hq p hx
        obtain ⟨y, ey⟩ : ∃ y, p.k = y := ⟨_, rfl⟩
        rw [ey] at c0 this
        have q0 : (y == (k : Int)) = false := by simp; omega
        clear hx hpA c1' HO hq ey this
        go_wp2_with fail
        go_meet
        case rel => exact ⟨rfl, rfl⟩
    · have eo : old = false := by
        rcases hold with ⟨_, q, hq, _⟩ | ⟨e, _⟩
        · exact absurd (List.getElem?_eq_some_iff.1 hq).1 hil
        · exact e
      subst eo
      clear hpA HO hold
      go_wp2_with fail
      go_meet
      case rel => exact ⟨rfl, rfl⟩
  case rest =>
  obtain ⟨rfl, rfl⟩ := hcut
  exact HK.out _ _ (swRest hJE hKE hpA O1.out nd ⟨R, h1, H2.out, H3.out, H4.out, h5⟩ HA.out HO.out ll k64)
end
end Go.Proofs.Ythojmdjcfkadoaa.writesPlays
