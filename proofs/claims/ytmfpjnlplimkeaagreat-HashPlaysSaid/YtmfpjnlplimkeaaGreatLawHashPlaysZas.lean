/- Several texts, one behind the other: HpA, HpK0. -/
import Derived.Test.YtmfpjnlplimkeaaGreatLawHashPlaysZaq
import Derived.Test.YtmfpjnlplimkeaaGreatLawHashPlaysZar
import Derived.Test.YtmfpjnlplimkeaaGreatLawHashPlaysZaa
import Derived.ChangeOld
import Derived.Deep.CutRange
import Derived.Deep.CutBlock
import Derived.Deep.LoopGhost
import Derived.BigRegion
import Derived.BigQuiet
import Derived.Deep.RegionHeld3
import Derived.Deep.QuietTactic
/- HashPlays in parts: the pieces of its code, what holds where they meet, and the frames there. No condition. -/
namespace Go.Proofs.YtmfpjnlplimkeaaGreat.hashPlays
open Go.ChangeShapes Go.WideShapes Go.ChangeAt Go.RowKit
set_option linter.unusedVariables false

noncomputable def cArms : Code := (Tryz.f4.body.bind (blockIn 2)).getD .skip
noncomputable def cTail : Code := (Tryz.f4.body.bind (afterB 2)).getD .skip
noncomputable def cBody : Code := (Tryz.f4.body.bind (blockIn 1)).getD .skip
noncomputable def cRound1 : Code := (Tryz.f4.body.bind (afterR 19)).getD .skip
/-- What the lists of the law say of the Index. -/
structure I10 (h : HS) (f9 : Nat → Bool) (f10 : Nat → Int) (z1 : List Int) (k : Nat) : Prop where
  e9 : ∀ j, j < 64 → f9 j = (h.ch j).isSome
  e10 : ∀ j, j < 64 → f10 j = (((h.ch j).getD []).length : Int)
  ez : z1 = h.put.map (fun (i : Nat) => (i : Int))
  len : ∀ j l, h.ch j = some l → l.length ≤ k
/-- What an op's key is. -/
def KeyI (h : HS) (D : Nat → Nat → Prop) (key : Int) (inB isB : Bool) (cv : Value) : Prop :=
  ((key < 0 ∨ 63 < key) ∧ inB = false ∧ isB = false ∧ cv = .pointer none) ∨
  ∃ j : Nat, key = j ∧ j < 64 ∧ inB = true ∧ ((h.ch j = none ∧ isB = false ∧ cv = .pointer none) ∨ ∃ l q, h.ch j = some l ∧ isB = true ∧ cv = .pointer (some ⟨q, 0, none⟩) ∧ D q j)
theorem I10.later {h : HS} {f9 : Nat → Bool} {f10 : Nat → Int} {z1 : List Int} {k m : Nat} (I : I10 h f9 f10 z1 k) (hm : k ≤ m) : I10 h f9 f10 z1 m := ⟨I.e9, I.e10, I.ez, fun j l hl => Nat.le_trans (I.len j l hl) hm⟩
theorem I10.zlen {s : RS} {h : HS} {f9 : Nat → Bool} {f10 : Nat → Int} {z1 : List Int} {k : Nat} (I : I10 h f9 f10 z1 k) (ok : HOk s h) : z1.length ≤ 64 := by rw [I.ez, List.length_map]; exact ok.short
theorem I10.new : I10 HS.new (fun _ => false) (fun _ => 0) [] 0 := ⟨fun _ _ => rfl, fun _ _ => rfl, rfl, fun j l hl => by cases hl⟩
theorem I10.add {h : HS} {f9 : Nat → Bool} {f10 : Nat → Int} {z1 : List Int} {k j : Nat} (I : I10 h f9 f10 z1 k) (hn : h.ch j = none) : I10 (h.add j) (fun i => if i = j then true else f9 i) f10 (z1 ++ [(j : Int)]) k := by
  refine ⟨fun i hi => ?_, fun i hi => ?_, by rw [I.ez]; simp [HS.add], fun i l hl => ?_⟩
  · show (if i = j then true else f9 i) = _
    by_cases e : i = j
    · subst e; rw [if_pos rfl, HS.add_at]; rfl
    · rw [if_neg e, HS.add_ne e, I.e9 i hi]
  · by_cases e : i = j
    · subst e; rw [HS.add_at, I.e10 i hi, hn]; rfl
    · rw [HS.add_ne e, I.e10 i hi]
  · by_cases e : i = j
    · subst e; rw [HS.add_at] at hl; cases hl; simp
    · rw [HS.add_ne e] at hl; exact I.len i l hl
/-- A key's links are others now. -/
theorem I10.set {h : HS} {f9 : Nat → Bool} {f10 : Nat → Int} {z1 : List Int} {k m j : Nat} {l l' : List Int} (I : I10 h f9 f10 z1 k) (hn : h.ch j = some l) (hk : k ≤ m) (hl' : l'.length ≤ m) {c : Int} (hc : c = (l'.length : Int)) : I10 (h.set j l') f9 (fun i => if i = j then c else f10 i) z1 m := by
  refine ⟨fun i hi => ?_, fun i hi => ?_, I.ez, fun i l hl => ?_⟩
  · by_cases e : i = j
    · subst e; rw [HS.set_at, I.e9 i hi, hn]; rfl
    · rw [HS.set_ne e, I.e9 i hi]
  · show (if i = j then c else f10 i) = _
    by_cases e : i = j
    · subst e; rw [if_pos rfl, HS.set_at, hc]; rfl
    · rw [if_neg e, HS.set_ne e, I.e10 i hi]
  · by_cases e : i = j
    · subst e; rw [HS.set_at] at hl; cases hl; exact hl'
    · rw [HS.set_ne e] at hl; exact Nat.le_trans (I.len i l hl) hk
theorem I10.drop {h : HS} {f9 : Nat → Bool} {f10 : Nat → Int} {z1 : List Int} {k j : Nat} (I : I10 h f9 f10 z1 k) (hn : h.ch j = some []) : I10 (h.drop j) (fun i => if i = j then false else f9 i) f10 ((h.put.filter (fun i => decide (i ≠ j))).map (fun (i : Nat) => (i : Int))) k := by
  refine ⟨fun i hi => ?_, fun i hi => ?_, rfl, fun i l hl => ?_⟩
  · show (if i = j then false else f9 i) = _
    by_cases e : i = j
    · subst e; rw [if_pos rfl, HS.drop_at]; rfl
    · rw [if_neg e, HS.drop_ne e, I.e9 i hi]
  · by_cases e : i = j
    · subst e; rw [HS.drop_at, I.e10 i hi, hn]; rfl
    · rw [HS.drop_ne e, I.e10 i hi]
  · by_cases e : i = j
    · subst e; rw [HS.drop_at] at hl; cases hl
    · rw [HS.drop_ne e] at hl; exact I.len i l hl
def Mid (W : World) (x p n b9 b10 ob : Nat) (kd key : Int) (k : Nat) (v1 : Value) (wx : World) : Prop :=
  ∃ o S s h D f9 f10 z1, All10 W wx o x p n S s h D (500000 + 1000000 * k) b9 f9 b10 f10 v1 z1 (.slice none 0 0) [] (.slice none 0 0) [] ob [.int .i64 kd, .int .i64 key] ∧ I10 h f9 f10 z1 (k + 1)
def Fin (W : World) (x p n b9 b10 k : Nat) (v1 : Value) (wx : World) : Prop :=
  ∃ o S s h D f9 f10 z1 ob, All10 W wx o x p n S s h D (20000 + 1000000 * (k + 1)) b9 f9 b10 f10 v1 z1 (.slice none 0 0) [] (.slice none 0 0) [] ob [] ∧ I10 h f9 f10 z1 (k + 1)
def Rel (W : World) (len x p n b9 b10 k : Nat) (v1 i : Value) (wr : World) : Prop :=
  ∃ o S s h D f9 f10 z1 ob, k ≤ len ∧ k ≤ 80 ∧ i = .int .i64 k ∧ All10 W wr o x p n S s h D (20000 + 1000000 * k) b9 f9 b10 f10 v1 z1 (.slice none 0 0) [] (.slice none 0 0) [] ob [] ∧ I10 h f9 f10 z1 k
set_option maxRecDepth 1000000 in
/-- Behind the switch: the frame, and what holds. -/
def PM (W : World) (x p n b9 b10 ob : Nat) (kd key : Int) (k : Nat) (s0 s1 s2 s3 s6 s8 s14 s15 s16 s17 s25 s26 s27 s28 s29 s30 s31 s32 s33 s34 s35 s36 s37 s38 s39 s40 s41 s42 s43 s44 s45 s46 s47 s48 s49 s50 s51 s52 s53 s54 s55 s56 s57 s58 s59 s60 s61 s62 s63 s64 s65 s66 s67 s68 s69 s70 s71 s72 s73 s74 s75 s76 s77 s78 s79 s80 s81 s82 s83 s84 s85 s86 s87 s88 s89 s90 s91 s92 s93 s94 s95 s96 s97 s98 s99 s100 s101 s102 s103 s104 s105 s106 s107 s108 s109 s110 s111 s112 s113 s114 s115 s116 s117 s118 s119 s120 s121 s122 s123 s124 s125 s126 s127 s128 s129 s267 s268 s269 s270 s271 s272 s273 s274 s275 s276 s277 s278 s279 s280 s281 s282 s283 s284 s285 s286 s287 s288 s289 s290 s291 s292 s293 s294 s295 s296 s297 s298 s299 s300 s301 s302 s303 s304 s305 s306 s307 s308 s309 s310 s311 s312 s313 s314 s315 s316 s317 s318 s319 s320 s321 s322 s323 s324 s325 s326 s327 s328 s329 s330 s331 s332 s333 s334 s335 s336 s337 s338 s339 : Value) (a' : Act) (w' : World) : Prop :=
  ∃ u4 u11 u18 u19 u20 u21 u22 u23 u24 u130 u131 u132 u133 u134 u135 u136 u137 u138 u139 u140 u141 u142 u143 u144 u145 u146 u147 u148 u149 u150 u151 u152 u153 u154 u155 u156 u157 u158 u159 u160 u161 u162 u163 u164 u165 u166 u167 u168 u169 u170 u171 u172 u173 u174 u175 u176 u177 u178 u179 u180 u181 u182 u183 u184 u185 u186 u187 u188 u189 u190 u191 u192 u193 u194 u195 u196 u197 u198 u199 u200 u201 u202 u203 u204 u205 u206 u207 u208 u209 u210 u211 u212 u213 u214 u215 u216 u217 u218 u219 u220 u221 u222 u223 u224 u225 u226 u227 u228 u229 u230 u231 u232 u233 u234 u235 u236 u237 u238 u239 u240 u241 u242 u243 u244 u245 u246 u247 u248 u249 u250 u251 u252 u253 u254 u255 u256 u257 u258 u259 u260 u261 u262 u263 u264 u265 u266 : Value, Mid W x p n b9 b10 ob kd key k u11 w' ∧ a' = ⟨#[s0, s1, s2, s3, u4, .pointer (some ⟨p, 0, none⟩), s6, .pointer (some ⟨x, 0, none⟩), s8, .pointer (some ⟨b9, 0, none⟩), .pointer (some ⟨b10, 0, none⟩), u11, .int .i64 k, .pointer (some ⟨ob, 0, none⟩), s14, s15, s16, s17, u18, u19, u20, u21, u22, u23, u24, s25, s26, s27, s28, s29, s30, s31, s32, s33, s34, s35, s36, s37, s38, s39, s40, s41, s42, s43, s44, s45, s46, s47, s48, s49, s50, s51, s52, s53, s54, s55, s56, s57, s58, s59, s60, s61, s62, s63, s64, s65, s66, s67, s68, s69, s70, s71, s72, s73, s74, s75, s76, s77, s78, s79, s80, s81, s82, s83, s84, s85, s86, s87, s88, s89, s90, s91, s92, s93, s94, s95, s96, s97, s98, s99, s100, s101, s102, s103, s104, s105, s106, s107, s108, s109, s110, s111, s112, s113, s114, s115, s116, s117, s118, s119, s120, s121, s122, s123, s124, s125, s126, s127, s128, s129, u130, u131, u132, u133, u134, u135, u136, u137, u138, u139, u140, u141, u142, u143, u144, u145, u146, u147, u148, u149, u150, u151, u152, u153, u154, u155, u156, u157, u158, u159, u160, u161, u162, u163, u164, u165, u166, u167, u168, u169, u170, u171, u172, u173, u174, u175, u176, u177, u178, u179, u180, u181, u182, u183, u184, u185, u186, u187, u188, u189, u190, u191, u192, u193, u194, u195, u196, u197, u198, u199, u200, u201, u202, u203, u204, u205, u206, u207, u208, u209, u210, u211, u212, u213, u214, u215, u216, u217, u218, u219, u220, u221, u222, u223, u224, u225, u226, u227, u228, u229, u230, u231, u232, u233, u234, u235, u236, u237, u238, u239, u240, u241, u242, u243, u244, u245, u246, u247, u248, u249, u250, u251, u252, u253, u254, u255, u256, u257, u258, u259, u260, u261, u262, u263, u264, u265, u266, s267, s268, s269, s270, s271, s272, s273, s274, s275, s276, s277, s278, s279, s280, s281, s282, s283, s284, s285, s286, s287, s288, s289, s290, s291, s292, s293, s294, s295, s296, s297, s298, s299, s300, s301, s302, s303, s304, s305, s306, s307, s308, s309, s310, s311, s312, s313, s314, s315, s316, s317, s318, s319, s320, s321, s322, s323, s324, s325, s326, s327, s328, s329, s330, s331, s332, s333, s334, s335, s336, s337, s338, s339], []⟩
set_option maxRecDepth 1000000 in
/-- At a round's end: the frame, and what holds. -/
def PE (W : World) (x p n b9 b10 k : Nat) (s0 s1 s2 s3 s6 s8 s30 s31 s32 s33 s34 s35 s36 s37 s38 s39 s40 s41 s42 s43 s44 s45 s46 s47 s48 s49 s50 s51 s52 s53 s54 s55 s56 s57 s58 s59 s60 s61 s62 s63 s64 s65 s66 s67 s68 s69 s70 s71 s72 s73 s74 s75 s76 s77 s78 s79 s80 s329 s330 s331 s332 s333 s334 s335 s336 s337 s338 s339 : Value) (a' : Act) (w' : World) : Prop :=
  ∃ u4 u11 u13 u14 u15 u16 u17 u18 u19 u20 u21 u22 u23 u24 u25 u26 u27 u28 u29 u81 u82 u83 u84 u85 u86 u87 u88 u89 u90 u91 u92 u93 u94 u95 u96 u97 u98 u99 u100 u101 u102 u103 u104 u105 u106 u107 u108 u109 u110 u111 u112 u113 u114 u115 u116 u117 u118 u119 u120 u121 u122 u123 u124 u125 u126 u127 u128 u129 u130 u131 u132 u133 u134 u135 u136 u137 u138 u139 u140 u141 u142 u143 u144 u145 u146 u147 u148 u149 u150 u151 u152 u153 u154 u155 u156 u157 u158 u159 u160 u161 u162 u163 u164 u165 u166 u167 u168 u169 u170 u171 u172 u173 u174 u175 u176 u177 u178 u179 u180 u181 u182 u183 u184 u185 u186 u187 u188 u189 u190 u191 u192 u193 u194 u195 u196 u197 u198 u199 u200 u201 u202 u203 u204 u205 u206 u207 u208 u209 u210 u211 u212 u213 u214 u215 u216 u217 u218 u219 u220 u221 u222 u223 u224 u225 u226 u227 u228 u229 u230 u231 u232 u233 u234 u235 u236 u237 u238 u239 u240 u241 u242 u243 u244 u245 u246 u247 u248 u249 u250 u251 u252 u253 u254 u255 u256 u257 u258 u259 u260 u261 u262 u263 u264 u265 u266 u267 u268 u269 u270 u271 u272 u273 u274 u275 u276 u277 u278 u279 u280 u281 u282 u283 u284 u285 u286 u287 u288 u289 u290 u291 u292 u293 u294 u295 u296 u297 u298 u299 u300 u301 u302 u303 u304 u305 u306 u307 u308 u309 u310 u311 u312 u313 u314 u315 u316 u317 u318 u319 u320 u321 u322 u323 u324 u325 u326 u327 u328 : Value, Fin W x p n b9 b10 k u11 w' ∧ a' = ⟨#[s0, s1, s2, s3, u4, .pointer (some ⟨p, 0, none⟩), s6, .pointer (some ⟨x, 0, none⟩), s8, .pointer (some ⟨b9, 0, none⟩), .pointer (some ⟨b10, 0, none⟩), u11, .int .i64 k, u13, u14, u15, u16, u17, u18, u19, u20, u21, u22, u23, u24, u25, u26, u27, u28, u29, s30, s31, s32, s33, s34, s35, s36, s37, s38, s39, s40, s41, s42, s43, s44, s45, s46, s47, s48, s49, s50, s51, s52, s53, s54, s55, s56, s57, s58, s59, s60, s61, s62, s63, s64, s65, s66, s67, s68, s69, s70, s71, s72, s73, s74, s75, s76, s77, s78, s79, s80, u81, u82, u83, u84, u85, u86, u87, u88, u89, u90, u91, u92, u93, u94, u95, u96, u97, u98, u99, u100, u101, u102, u103, u104, u105, u106, u107, u108, u109, u110, u111, u112, u113, u114, u115, u116, u117, u118, u119, u120, u121, u122, u123, u124, u125, u126, u127, u128, u129, u130, u131, u132, u133, u134, u135, u136, u137, u138, u139, u140, u141, u142, u143, u144, u145, u146, u147, u148, u149, u150, u151, u152, u153, u154, u155, u156, u157, u158, u159, u160, u161, u162, u163, u164, u165, u166, u167, u168, u169, u170, u171, u172, u173, u174, u175, u176, u177, u178, u179, u180, u181, u182, u183, u184, u185, u186, u187, u188, u189, u190, u191, u192, u193, u194, u195, u196, u197, u198, u199, u200, u201, u202, u203, u204, u205, u206, u207, u208, u209, u210, u211, u212, u213, u214, u215, u216, u217, u218, u219, u220, u221, u222, u223, u224, u225, u226, u227, u228, u229, u230, u231, u232, u233, u234, u235, u236, u237, u238, u239, u240, u241, u242, u243, u244, u245, u246, u247, u248, u249, u250, u251, u252, u253, u254, u255, u256, u257, u258, u259, u260, u261, u262, u263, u264, u265, u266, u267, u268, u269, u270, u271, u272, u273, u274, u275, u276, u277, u278, u279, u280, u281, u282, u283, u284, u285, u286, u287, u288, u289, u290, u291, u292, u293, u294, u295, u296, u297, u298, u299, u300, u301, u302, u303, u304, u305, u306, u307, u308, u309, u310, u311, u312, u313, u314, u315, u316, u317, u318, u319, u320, u321, u322, u323, u324, u325, u326, u327, u328, s329, s330, s331, s332, s333, s334, s335, s336, s337, s338, s339], []⟩
end Go.Proofs.YtmfpjnlplimkeaaGreat.hashPlays
/- HashPlays, arm 0 (Put); conditions: what the parts before it have laid. -/
namespace Go.Proofs.YtmfpjnlplimkeaaGreat.hashPlays
open Go.ChangeShapes Go.WideShapes Go.ChangeAt Go.RowKit
set_option linter.unusedVariables false
section
variable {W wA : World} {oA : Nat → Nat} {x p n : Nat} {S : Nat → Prop} {s : RS} {h : HS} {D : Nat → Nat → Prop} {k b9 b10 : Nat} {f9 : Nat → Bool} {f10 : Nat → Int} {v1 : Value} {z1 : List Int} {ob : Nat} {key : Int} {inB isB : Bool} {cv : Value} {Q : Exit → Act → World → Prop} {J K JE KE : Act → World → Prop}
set_option maxRecDepth 1000000 in
set_option maxHeartbeats 8000000 in
theorem arm0 { s0 s1 s2 s3 s4 s6 s8 s18 s19 s20 s21 s22 s23 s24 s25 s26 s27 s28 s29 s30 s31 s32 s33 s34 s35 s36 s37 s38 s39 s40 s41 s42 s43 s44 s45 s46 s47 s48 s49 s50 s51 s52 s53 s54 s55 s56 s57 s58 s59 s60 s61 s62 s63 s64 s65 s66 s67 s68 s69 s70 s71 s72 s73 s74 s75 s76 s77 s78 s79 s80 s81 s82 s83 s84 s85 s86 s87 s88 s89 s90 s91 s92 s93 s94 s95 s96 s97 s98 s99 s100 s101 s102 s103 s104 s105 s106 s107 s108 s109 s110 s111 s112 s113 s114 s115 s116 s117 s118 s119 s120 s121 s122 s123 s124 s125 s126 s127 s128 s130 s131 s132 s133 s134 s135 s136 s137 s138 s139 s140 s141 s142 s143 s144 s145 s146 s147 s148 s149 s150 s151 s152 s153 s154 s155 s156 s157 s158 s159 s160 s161 s162 s163 s164 s165 s166 s167 s168 s169 s170 s171 s172 s173 s174 s175 s176 s177 s178 s179 s180 s181 s182 s183 s184 s185 s186 s187 s188 s189 s190 s191 s192 s193 s194 s195 s196 s197 s198 s199 s200 s201 s202 s203 s204 s205 s206 s207 s208 s209 s210 s211 s212 s213 s214 s215 s216 s217 s218 s219 s220 s221 s222 s223 s224 s225 s226 s227 s228 s229 s230 s231 s232 s233 s234 s235 s236 s237 s238 s239 s240 s241 s242 s243 s244 s245 s246 s247 s248 s249 s250 s251 s252 s253 s254 s255 s256 s257 s258 s259 s260 s261 s262 s263 s264 s265 s266 s267 s268 s269 s270 s271 s272 s273 s274 s275 s276 s277 s278 s279 s280 s281 s282 s283 s284 s285 s286 s287 s288 s289 s290 s291 s292 s293 s294 s295 s296 s297 s298 s299 s300 s301 s302 s303 s304 s305 s306 s307 s308 s309 s310 s311 s312 s313 s314 s315 s316 s317 s318 s319 s320 s321 s322 s323 s324 s325 s326 s327 s328 s329 s330 s331 s332 s333 s334 s335 s336 s337 s338 s339 : Value}
    (hJ : ∀ a' w', PM W x p n b9 b10 ob (0) key k s0 s1 s2 s3 s6 s8 (.bool inB) (.bool isB) cv (.bool isB) s25 s26 s27 s28 s29 s30 s31 s32 s33 s34 s35 s36 s37 s38 s39 s40 s41 s42 s43 s44 s45 s46 s47 s48 s49 s50 s51 s52 s53 s54 s55 s56 s57 s58 s59 s60 s61 s62 s63 s64 s65 s66 s67 s68 s69 s70 s71 s72 s73 s74 s75 s76 s77 s78 s79 s80 s81 s82 s83 s84 s85 s86 s87 s88 s89 s90 s91 s92 s93 s94 s95 s96 s97 s98 s99 s100 s101 s102 s103 s104 s105 s106 s107 s108 s109 s110 s111 s112 s113 s114 s115 s116 s117 s118 s119 s120 s121 s122 s123 s124 s125 s126 s127 s128 (.int .i64 (0)) s267 s268 s269 s270 s271 s272 s273 s274 s275 s276 s277 s278 s279 s280 s281 s282 s283 s284 s285 s286 s287 s288 s289 s290 s291 s292 s293 s294 s295 s296 s297 s298 s299 s300 s301 s302 s303 s304 s305 s306 s307 s308 s309 s310 s311 s312 s313 s314 s315 s316 s317 s318 s319 s320 s321 s322 s323 s324 s325 s326 s327 s328 s329 s330 s331 s332 s333 s334 s335 s336 s337 s338 s339 a' w' → J a' w') (hK : ∀ a' w', Met J a' w' → K a' w')
    (hJE : ∀ a' w', PE W x p n b9 b10 k s0 s1 s2 s3 s6 s8 s30 s31 s32 s33 s34 s35 s36 s37 s38 s39 s40 s41 s42 s43 s44 s45 s46 s47 s48 s49 s50 s51 s52 s53 s54 s55 s56 s57 s58 s59 s60 s61 s62 s63 s64 s65 s66 s67 s68 s69 s70 s71 s72 s73 s74 s75 s76 s77 s78 s79 s80 s329 s330 s331 s332 s333 s334 s335 s336 s337 s338 s339 a' w' → JE a' w') (hKE : ∀ a' w', Met JE a' w' → KE a' w')
    (hQp : RowKit.Hid (∀ c a d v w, Q (.panic c) (a.put d v) w → Q (.panic c) a w)) (k80 : k < 80) (I : I10 h f9 f10 z1 k)
    (A : All10 W wA oA x p n S s h D (40000 + 1000000 * k) b9 f9 b10 f10 v1 z1 (.slice none 0 0) [] (.slice none 0 0) [] ob [.int .i64 (0), .int .i64 key]) (KI : KeyI h D key inB isB cv) :
    Code.wp Tryz.prog cArms (Exit.then K (Exit.inBlock 1 (Exit.then KE Q))) ⟨#[s0, s1, s2, s3, s4, .pointer (some ⟨p, 0, none⟩), s6, .pointer (some ⟨x, 0, none⟩), s8, .pointer (some ⟨b9, 0, none⟩), .pointer (some ⟨b10, 0, none⟩), v1, .int .i64 k, .pointer (some ⟨ob, 0, none⟩), .bool inB, .bool isB, cv, .bool isB, s18, s19, s20, s21, s22, s23, s24, s25, s26, s27, s28, s29, s30, s31, s32, s33, s34, s35, s36, s37, s38, s39, s40, s41, s42, s43, s44, s45, s46, s47, s48, s49, s50, s51, s52, s53, s54, s55, s56, s57, s58, s59, s60, s61, s62, s63, s64, s65, s66, s67, s68, s69, s70, s71, s72, s73, s74, s75, s76, s77, s78, s79, s80, s81, s82, s83, s84, s85, s86, s87, s88, s89, s90, s91, s92, s93, s94, s95, s96, s97, s98, s99, s100, s101, s102, s103, s104, s105, s106, s107, s108, s109, s110, s111, s112, s113, s114, s115, s116, s117, s118, s119, s120, s121, s122, s123, s124, s125, s126, s127, s128, .int .i64 (0), s130, s131, s132, s133, s134, s135, s136, s137, s138, s139, s140, s141, s142, s143, s144, s145, s146, s147, s148, s149, s150, s151, s152, s153, s154, s155, s156, s157, s158, s159, s160, s161, s162, s163, s164, s165, s166, s167, s168, s169, s170, s171, s172, s173, s174, s175, s176, s177, s178, s179, s180, s181, s182, s183, s184, s185, s186, s187, s188, s189, s190, s191, s192, s193, s194, s195, s196, s197, s198, s199, s200, s201, s202, s203, s204, s205, s206, s207, s208, s209, s210, s211, s212, s213, s214, s215, s216, s217, s218, s219, s220, s221, s222, s223, s224, s225, s226, s227, s228, s229, s230, s231, s232, s233, s234, s235, s236, s237, s238, s239, s240, s241, s242, s243, s244, s245, s246, s247, s248, s249, s250, s251, s252, s253, s254, s255, s256, s257, s258, s259, s260, s261, s262, s263, s264, s265, s266, s267, s268, s269, s270, s271, s272, s273, s274, s275, s276, s277, s278, s279, s280, s281, s282, s283, s284, s285, s286, s287, s288, s289, s290, s291, s292, s293, s294, s295, s296, s297, s298, s299, s300, s301, s302, s303, s304, s305, s306, s307, s308, s309, s310, s311, s312, s313, s314, s315, s316, s317, s318, s319, s320, s321, s322, s323, s324, s325, s326, s327, s328, s329, s330, s331, s332, s333, s334, s335, s336, s337, s338, s339], []⟩ wA := by
  have x1 := A.co 1 _ rfl
  have zl := I.zlen A.r.hk
  conv => arg 2; whnf
  dsimp only
  rcases KI with ⟨hk, rfl, rfl, rfl⟩ | ⟨j, rfl, j64, rfl, ⟨hl, rfl, rfl⟩ | ⟨l, q, hl, rfl, rfl, hd⟩⟩
  · go_wp2_with fail
    refine (x_put_no A.r (by omega) key hk).mono ?_
    rintro e y1 ⟨S1, s1, rfl, e1, C1, k1⟩
    have A := A.step C1 k1
    clear C1 k1 x1
    go_wp2_with fail
    go_quiet (fail)
    go_wp2
    go_meet
    case rel => exact ⟨_, S1, s1, h, D, f9, f10, z1, (A.quiet (drewN_keep (fun _ => False) _ _)).up (by omega), I.later (by omega)⟩
  · have q3 : (j : Int).toNat = j := (by omega); have q5 : (0 : Int) ≤ (j : Int) := (by omega); have q6 : (j : Int) < 64 := (by omega)
    have e10 : f10 j = 0 := by rw [I.e10 j j64, hl]; rfl
    have e9 : f9 j = false := by rw [I.e9 j j64, hl]; rfl
    go_wp2_with fail
    refine (x_put_new A.r (by omega) j j64 hl).mono ?_
    rintro e y1 ⟨q, S1, s1, rfl, e1, C1, k1⟩
    have A := A.step C1 k1
    clear C1 k1 x1
    go_wp2_with fail
    have A := A.quiet (Keep.refl (fun _ => False) y1).drew
    have x1 := A.co 1 _ rfl
    have xj := A.t10.cell j j64
    rw [e10] at xj
    refine wp_region_held_drew (S := (fun w' => w'.cell? ⟨ob, 1, none⟩ = some (.int .i64 (j : Int)) ∧ w'.cell? ⟨b10, j, none⟩ = some (.int .i64 0))) (by kernel_rfl) ⟨x1, xj⟩ (fun hHeld => ?_)
    clear x1 xj
    refine wpAnyH_take (i := 0) (v := ?qvu0) rfl (by kernel_rfl) (by kernel_rfl) (by kernel_rfl) (by intro _ _ _ h; exact hQp.out _ _ _ _ _ h) (Or.inl ⟨by rfl, ?qyu0⟩) (by assumption) ?qru0; case qyu0 => ((intro w hSw; (try dsimp only at hSw); go_simp); try (with_reducible rfl))
    ((try simp only [List.getElem_toArray]); (try simp only [List.getElem_cons_succ]); (try simp only [List.getElem_cons_zero]); (try simp only [Act.put]); (try simp only [List.setIfInBounds_toArray]); (try simp only [List.set_cons_succ]); (try simp only [List.set_cons_zero]))
    refine wpAnyH_take (i := 1) (v := ?qvu1) rfl (by kernel_rfl) (by kernel_rfl) (by kernel_rfl) (by intro _ _ _ h; exact hQp.out _ _ _ _ _ h) (Or.inl ⟨by rfl, ?qyu1⟩) (by assumption) ?qru1; case qyu1 => ((intro w hSw; (try dsimp only at hSw); go_simp); try (with_reducible rfl))
    ((try simp only [List.getElem_toArray]); (try simp only [List.getElem_cons_succ]); (try simp only [List.getElem_cons_zero]); (try simp only [Act.put]); (try simp only [List.setIfInBounds_toArray]); (try simp only [List.set_cons_succ]); (try simp only [List.set_cons_zero]))
    refine wpAnyH_take (i := 2) (v := ?qvu2) rfl (by kernel_rfl) (by kernel_rfl) (by kernel_rfl) (by intro _ _ _ h; exact hQp.out _ _ _ _ _ h) (Or.inl ⟨by rfl, ?qyu2⟩) (by assumption) ?qru2; case qyu2 => ((intro w hSw; (try dsimp only at hSw); go_simp); try (with_reducible rfl))
    ((try simp only [List.getElem_toArray]); (try simp only [List.getElem_cons_succ]); (try simp only [List.getElem_cons_zero]); (try simp only [Act.put]); (try simp only [List.setIfInBounds_toArray]); (try simp only [List.set_cons_succ]); (try simp only [List.set_cons_zero]))
    refine wpAnyH_take (i := 3) (v := ?qvu3) rfl (by kernel_rfl) (by kernel_rfl) (by kernel_rfl) (by intro _ _ _ h; exact hQp.out _ _ _ _ _ h) (Or.inl ⟨by rfl, ?qyu3⟩) (by assumption) ?qru3; case qyu3 => ((intro w hSw; (try dsimp only at hSw); go_simp); try (with_reducible rfl))
    ((try simp only [List.getElem_toArray]); (try simp only [List.getElem_cons_succ]); (try simp only [List.getElem_cons_zero]); (try simp only [Act.put]); (try simp only [List.setIfInBounds_toArray]); (try simp only [List.set_cons_succ]); (try simp only [List.set_cons_zero]))
    refine wpAnyH_take (i := 4) (v := ?qvu4) rfl (by kernel_rfl) (by kernel_rfl) (by kernel_rfl) (by intro _ _ _ h; exact hQp.out _ _ _ _ _ h) (Or.inl ⟨by rfl, ?qyu4⟩) (by assumption) ?qru4; case qyu4 => ((intro w hSw; (try dsimp only at hSw); go_simp); try (with_reducible rfl))
    ((try simp only [List.getElem_toArray]); (try simp only [List.getElem_cons_succ]); (try simp only [List.getElem_cons_zero]); (try simp only [Act.put]); (try simp only [List.setIfInBounds_toArray]); (try simp only [List.set_cons_succ]); (try simp only [List.set_cons_zero]))
    refine wpAnyH_take (i := 5) (v := ?qvu5) rfl (by kernel_rfl) (by kernel_rfl) (by kernel_rfl) (by intro _ _ _ h; exact hQp.out _ _ _ _ _ h) (Or.inl ⟨by rfl, ?qyu5⟩) (by assumption) ?qru5; case qyu5 => ((intro w hSw; (try dsimp only at hSw); go_simp); try (with_reducible rfl))
    ((try simp only [List.getElem_toArray]); (try simp only [List.getElem_cons_succ]); (try simp only [List.getElem_cons_zero]); (try simp only [Act.put]); (try simp only [List.setIfInBounds_toArray]); (try simp only [List.set_cons_succ]); (try simp only [List.set_cons_zero]))
    refine wpAnyH_take (i := 6) (v := ?qvu6) rfl (by kernel_rfl) (by kernel_rfl) (by kernel_rfl) (by intro _ _ _ h; exact hQp.out _ _ _ _ _ h) (Or.inl ⟨by rfl, ?qyu6⟩) (by assumption) ?qru6; case qyu6 => ((intro w hSw; (try dsimp only at hSw); go_simp); try (with_reducible rfl))
    ((try simp only [List.getElem_toArray]); (try simp only [List.getElem_cons_succ]); (try simp only [List.getElem_cons_zero]); (try simp only [Act.put]); (try simp only [List.setIfInBounds_toArray]); (try simp only [List.set_cons_succ]); (try simp only [List.set_cons_zero]))
    refine wpAnyH_take (i := 7) (v := ?qvu7) rfl (by kernel_rfl) (by kernel_rfl) (by kernel_rfl) (by intro _ _ _ h; exact hQp.out _ _ _ _ _ h) (Or.inl ⟨by rfl, ?qyu7⟩) (by assumption) ?qru7; case qyu7 => ((intro w hSw; (try dsimp only at hSw); go_simp); try (with_reducible rfl))
    ((try simp only [List.getElem_toArray]); (try simp only [List.getElem_cons_succ]); (try simp only [List.getElem_cons_zero]); (try simp only [Act.put]); (try simp only [List.setIfInBounds_toArray]); (try simp only [List.set_cons_succ]); (try simp only [List.set_cons_zero]))
    refine wpAnyH_take (i := 8) (v := ?qvu8) rfl (by kernel_rfl) (by kernel_rfl) (by kernel_rfl) (by intro _ _ _ h; exact hQp.out _ _ _ _ _ h) (Or.inl ⟨by rfl, ?qyu8⟩) (by assumption) ?qru8; case qyu8 => ((intro w hSw; (try dsimp only at hSw); go_simp); try (with_reducible rfl))
    ((try simp only [List.getElem_toArray]); (try simp only [List.getElem_cons_succ]); (try simp only [List.getElem_cons_zero]); (try simp only [Act.put]); (try simp only [List.setIfInBounds_toArray]); (try simp only [List.set_cons_succ]); (try simp only [List.set_cons_zero]))
    refine wpAnyH_take (i := 9) (v := ?qvu9) rfl (by kernel_rfl) (by kernel_rfl) (by kernel_rfl) (by intro _ _ _ h; exact hQp.out _ _ _ _ _ h) (Or.inl ⟨by rfl, ?qyu9⟩) (by assumption) ?qru9; case qyu9 => ((intro w hSw; (try dsimp only at hSw); go_simp); try (with_reducible rfl))
    ((try simp only [List.getElem_toArray]); (try simp only [List.getElem_cons_succ]); (try simp only [List.getElem_cons_zero]); (try simp only [Act.put]); (try simp only [List.setIfInBounds_toArray]); (try simp only [List.set_cons_succ]); (try simp only [List.set_cons_zero]))
    refine wpAnyH_take (i := 10) (v := ?qvu10) rfl (by kernel_rfl) (by kernel_rfl) (by kernel_rfl) (by intro _ _ _ h; exact hQp.out _ _ _ _ _ h) (Or.inl ⟨by rfl, ?qyu10⟩) (by assumption) ?qru10; case qyu10 => ((intro w hSw; (try dsimp only at hSw); go_simp); try (with_reducible rfl))
    ((try simp only [List.getElem_toArray]); (try simp only [List.getElem_cons_succ]); (try simp only [List.getElem_cons_zero]); (try simp only [Act.put]); (try simp only [List.setIfInBounds_toArray]); (try simp only [List.set_cons_succ]); (try simp only [List.set_cons_zero]))
    refine wpAnyH_take (i := 11) (v := ?qvu11) rfl (by kernel_rfl) (by kernel_rfl) (by kernel_rfl) (by intro _ _ _ h; exact hQp.out _ _ _ _ _ h) (Or.inl ⟨by rfl, ?qyu11⟩) (by assumption) ?qru11; case qyu11 => ((intro w hSw; (try dsimp only at hSw); go_simp); try (with_reducible rfl))
    ((try simp only [List.getElem_toArray]); (try simp only [List.getElem_cons_succ]); (try simp only [List.getElem_cons_zero]); (try simp only [Act.put]); (try simp only [List.setIfInBounds_toArray]); (try simp only [List.set_cons_succ]); (try simp only [List.set_cons_zero]))
    refine wpAnyH_take (i := 12) (v := ?qvu12) rfl (by kernel_rfl) (by kernel_rfl) (by kernel_rfl) (by intro _ _ _ h; exact hQp.out _ _ _ _ _ h) (Or.inl ⟨by rfl, ?qyu12⟩) (by assumption) ?qru12; case qyu12 => ((intro w hSw; (try dsimp only at hSw); go_simp); try (with_reducible rfl))
    ((try simp only [List.getElem_toArray]); (try simp only [List.getElem_cons_succ]); (try simp only [List.getElem_cons_zero]); (try simp only [Act.put]); (try simp only [List.setIfInBounds_toArray]); (try simp only [List.set_cons_succ]); (try simp only [List.set_cons_zero]))
    refine wpAnyH_take (i := 13) (v := ?qvu13) rfl (by kernel_rfl) (by kernel_rfl) (by kernel_rfl) (by intro _ _ _ h; exact hQp.out _ _ _ _ _ h) (Or.inl ⟨by rfl, ?qyu13⟩) (by assumption) ?qru13; case qyu13 => ((intro w hSw; (try dsimp only at hSw); go_simp); try (with_reducible rfl))
    ((try simp only [List.getElem_toArray]); (try simp only [List.getElem_cons_succ]); (try simp only [List.getElem_cons_zero]); (try simp only [Act.put]); (try simp only [List.setIfInBounds_toArray]); (try simp only [List.set_cons_succ]); (try simp only [List.set_cons_zero]))
    refine wpAnyH_take (i := 14) (v := undef) rfl (by kernel_rfl) (by kernel_rfl) (by kernel_rfl) (by intro _ _ _ h; exact hQp.out _ _ _ _ _ h) (Or.inr ⟨by rfl, rfl⟩) (by assumption) ?qru14
    ((try simp only [List.getElem_toArray]); (try simp only [List.getElem_cons_succ]); (try simp only [List.getElem_cons_zero]); (try simp only [Act.put]); (try simp only [List.setIfInBounds_toArray]); (try simp only [List.set_cons_succ]); (try simp only [List.set_cons_zero]))
    refine wpAnyH_take (i := 15) (v := undef) rfl (by kernel_rfl) (by kernel_rfl) (by kernel_rfl) (by intro _ _ _ h; exact hQp.out _ _ _ _ _ h) (Or.inr ⟨by rfl, rfl⟩) (by assumption) ?qru15
    ((try simp only [List.getElem_toArray]); (try simp only [List.getElem_cons_succ]); (try simp only [List.getElem_cons_zero]); (try simp only [Act.put]); (try simp only [List.setIfInBounds_toArray]); (try simp only [List.set_cons_succ]); (try simp only [List.set_cons_zero]))
    refine wpAnyH_take (i := 16) (v := ?qvu16) rfl (by kernel_rfl) (by kernel_rfl) (by kernel_rfl) (by intro _ _ _ h; exact hQp.out _ _ _ _ _ h) (Or.inl ⟨by rfl, ?qyu16⟩) (by assumption) ?qru16; case qyu16 => ((intro w hSw; (try dsimp only at hSw); go_simp); try (with_reducible rfl))
    ((try simp only [List.getElem_toArray]); (try simp only [List.getElem_cons_succ]); (try simp only [List.getElem_cons_zero]); (try simp only [Act.put]); (try simp only [List.setIfInBounds_toArray]); (try simp only [List.set_cons_succ]); (try simp only [List.set_cons_zero]))
    refine wpAnyH_take (i := 17) (v := ?qvu17) rfl (by kernel_rfl) (by kernel_rfl) (by kernel_rfl) (by intro _ _ _ h; exact hQp.out _ _ _ _ _ h) (Or.inl ⟨by rfl, ?qyu17⟩) (by assumption) ?qru17; case qyu17 => ((intro w hSw; (try dsimp only at hSw); go_simp); try (with_reducible rfl))
    ((try simp only [List.getElem_toArray]); (try simp only [List.getElem_cons_succ]); (try simp only [List.getElem_cons_zero]); (try simp only [Act.put]); (try simp only [List.setIfInBounds_toArray]); (try simp only [List.set_cons_succ]); (try simp only [List.set_cons_zero]))
    refine wpAnyH_take (i := 18) (v := ?qvu18) rfl (by kernel_rfl) (by kernel_rfl) (by kernel_rfl) (by intro _ _ _ h; exact hQp.out _ _ _ _ _ h) (Or.inl ⟨by rfl, ?qyu18⟩) (by assumption) ?qru18; case qyu18 => ((intro w hSw; (try dsimp only at hSw); go_simp); try (with_reducible rfl))
    ((try simp only [List.getElem_toArray]); (try simp only [List.getElem_cons_succ]); (try simp only [List.getElem_cons_zero]); (try simp only [Act.put]); (try simp only [List.setIfInBounds_toArray]); (try simp only [List.set_cons_succ]); (try simp only [List.set_cons_zero]))
    refine wpAnyH_take (i := 19) (v := ?qvu19) rfl (by kernel_rfl) (by kernel_rfl) (by kernel_rfl) (by intro _ _ _ h; exact hQp.out _ _ _ _ _ h) (Or.inl ⟨by rfl, ?qyu19⟩) (by assumption) ?qru19; case qyu19 => ((intro w hSw; (try dsimp only at hSw); go_simp); try (with_reducible rfl))
    ((try simp only [List.getElem_toArray]); (try simp only [List.getElem_cons_succ]); (try simp only [List.getElem_cons_zero]); (try simp only [Act.put]); (try simp only [List.setIfInBounds_toArray]); (try simp only [List.set_cons_succ]); (try simp only [List.set_cons_zero]))
    refine wpAnyH_take (i := 20) (v := ?qvu20) rfl (by kernel_rfl) (by kernel_rfl) (by kernel_rfl) (by intro _ _ _ h; exact hQp.out _ _ _ _ _ h) (Or.inl ⟨by rfl, ?qyu20⟩) (by assumption) ?qru20; case qyu20 => ((intro w hSw; (try dsimp only at hSw); go_simp); try (with_reducible rfl))
    ((try simp only [List.getElem_toArray]); (try simp only [List.getElem_cons_succ]); (try simp only [List.getElem_cons_zero]); (try simp only [Act.put]); (try simp only [List.setIfInBounds_toArray]); (try simp only [List.set_cons_succ]); (try simp only [List.set_cons_zero]))
    refine wpAnyH_take (i := 21) (v := ?qvu21) rfl (by kernel_rfl) (by kernel_rfl) (by kernel_rfl) (by intro _ _ _ h; exact hQp.out _ _ _ _ _ h) (Or.inl ⟨by rfl, ?qyu21⟩) (by assumption) ?qru21; case qyu21 => ((intro w hSw; (try dsimp only at hSw); go_simp); try (with_reducible rfl))
    ((try simp only [List.getElem_toArray]); (try simp only [List.getElem_cons_succ]); (try simp only [List.getElem_cons_zero]); (try simp only [Act.put]); (try simp only [List.setIfInBounds_toArray]); (try simp only [List.set_cons_succ]); (try simp only [List.set_cons_zero]))
    refine wpAnyH_take (i := 23) (v := ?qvu22) rfl (by kernel_rfl) (by kernel_rfl) (by kernel_rfl) (by intro _ _ _ h; exact hQp.out _ _ _ _ _ h) (Or.inl ⟨by rfl, ?qyu22⟩) (by assumption) ?qru22; case qyu22 => ((intro w hSw; (try dsimp only at hSw); go_simp); try (with_reducible rfl))
    ((try simp only [List.getElem_toArray]); (try simp only [List.getElem_cons_succ]); (try simp only [List.getElem_cons_zero]); (try simp only [Act.put]); (try simp only [List.setIfInBounds_toArray]); (try simp only [List.set_cons_succ]); (try simp only [List.set_cons_zero]))
    refine wpAnyH_take (i := 24) (v := ?qvu23) rfl (by kernel_rfl) (by kernel_rfl) (by kernel_rfl) (by intro _ _ _ h; exact hQp.out _ _ _ _ _ h) (Or.inl ⟨by rfl, ?qyu23⟩) (by assumption) ?qru23; case qyu23 => ((intro w hSw; (try dsimp only at hSw); go_simp); try (with_reducible rfl))
    ((try simp only [List.getElem_toArray]); (try simp only [List.getElem_cons_succ]); (try simp only [List.getElem_cons_zero]); (try simp only [Act.put]); (try simp only [List.setIfInBounds_toArray]); (try simp only [List.set_cons_succ]); (try simp only [List.set_cons_zero]))
    refine wpAnyH_take (i := 25) (v := ?qvu24) rfl (by kernel_rfl) (by kernel_rfl) (by kernel_rfl) (by intro _ _ _ h; exact hQp.out _ _ _ _ _ h) (Or.inl ⟨by rfl, ?qyu24⟩) (by assumption) ?qru24; case qyu24 => ((intro w hSw; (try dsimp only at hSw); go_simp); try (with_reducible rfl))
    ((try simp only [List.getElem_toArray]); (try simp only [List.getElem_cons_succ]); (try simp only [List.getElem_cons_zero]); (try simp only [Act.put]); (try simp only [List.setIfInBounds_toArray]); (try simp only [List.set_cons_succ]); (try simp only [List.set_cons_zero]))
    refine wpAnyH_take (i := 26) (v := ?qvu25) rfl (by kernel_rfl) (by kernel_rfl) (by kernel_rfl) (by intro _ _ _ h; exact hQp.out _ _ _ _ _ h) (Or.inl ⟨by rfl, ?qyu25⟩) (by assumption) ?qru25; case qyu25 => ((intro w hSw; (try dsimp only at hSw); go_simp); try (with_reducible rfl))
    ((try simp only [List.getElem_toArray]); (try simp only [List.getElem_cons_succ]); (try simp only [List.getElem_cons_zero]); (try simp only [Act.put]); (try simp only [List.setIfInBounds_toArray]); (try simp only [List.set_cons_succ]); (try simp only [List.set_cons_zero]))
    refine wpAnyH_ready (rs := [22]) (by kernel_rfl) (by simp) ?_
    refine AllReadyH.cons rfl (fun K hK => ?_) AllReadyH.nil
    go_simp
    refine (x_len A.r (by omega) j (.inr ⟨rfl, rfl⟩) [] HS.add_at (by simp) 0 rfl).mono ?_
    rintro e y2 ⟨rfl, S2, s2, e2, C2, k2⟩
    have A := A.step C2 k2
    clear C2 k2
    refine hK.out _ _ ⟨A.co 1 _ rfl, by rw [A.t10.cell j j64, e10]⟩ (fun hHeld => ?_)
    clear hK K
    ((try simp only [List.getElem_toArray]); (try simp only [List.getElem_cons_succ]); (try simp only [List.getElem_cons_zero]); (try simp only [Act.put]); (try simp only [List.setIfInBounds_toArray]); (try simp only [List.set_cons_succ]); (try simp only [List.set_cons_zero]))
    refine wpAnyH_take (i := 27) (v := ?qvu26) rfl (by kernel_rfl) (by kernel_rfl) (by kernel_rfl) (by intro _ _ _ h; exact hQp.out _ _ _ _ _ h) (Or.inl ⟨by rfl, ?qyu26⟩) (by assumption) ?qru26; case qyu26 => ((intro w hSw; (try dsimp only at hSw); go_simp); try (with_reducible rfl))
    ((try simp only [List.getElem_toArray]); (try simp only [List.getElem_cons_succ]); (try simp only [List.getElem_cons_zero]); (try simp only [Act.put]); (try simp only [List.setIfInBounds_toArray]); (try simp only [List.set_cons_succ]); (try simp only [List.set_cons_zero]))
    refine wpAnyH_take (i := 28) (v := ?qvu27) rfl (by kernel_rfl) (by kernel_rfl) (by kernel_rfl) (by intro _ _ _ h; exact hQp.out _ _ _ _ _ h) (Or.inl ⟨by rfl, ?qyu27⟩) (by assumption) ?qru27; case qyu27 => ((intro w hSw; (try dsimp only at hSw); go_simp); try (with_reducible rfl))
    ((try simp only [List.getElem_toArray]); (try simp only [List.getElem_cons_succ]); (try simp only [List.getElem_cons_zero]); (try simp only [Act.put]); (try simp only [List.setIfInBounds_toArray]); (try simp only [List.set_cons_succ]); (try simp only [List.set_cons_zero]))
    refine wpAnyH_take (i := 29) (v := ?qvu28) rfl (by kernel_rfl) (by kernel_rfl) (by kernel_rfl) (by intro _ _ _ h; exact hQp.out _ _ _ _ _ h) (Or.inl ⟨by rfl, ?qyu28⟩) (by assumption) ?qru28; case qyu28 => ((intro w hSw; (try dsimp only at hSw); go_simp); try (with_reducible rfl))
    ((try simp only [List.getElem_toArray]); (try simp only [List.getElem_cons_succ]); (try simp only [List.getElem_cons_zero]); (try simp only [Act.put]); (try simp only [List.setIfInBounds_toArray]); (try simp only [List.set_cons_succ]); (try simp only [List.set_cons_zero]))
    refine wpAnyH_done (by kernel_rfl) ?_ _
    have x1 := A.co 1 _ rfl
    have x9 := A.t9.cell j j64
    have z9 := A.t9.free j
    have A := A.set9 j j64 true (f9' := fun i => if i = j then true else f9 i) (fun i => rfl)
    have x1b := A.co 1 _ rfl
    have hz : (y2.setCell ⟨b9, j, none⟩ (.bool true)).heap.size = y2.heap.size := by simp [World.setCell]
    go_wp2_with (with_reducible refine wp_stop 181 rfl ?_)
    intro _
    refine wp_pushN rfl (.tmp 177) (.tmp 180) rfl W.heap.size A.r.b.size v1 z1 rfl A.a1 (j : Int) (by rw [hz]; rfl) (by omega) ?_
    intro g3 c3 y3 o3 k3 hg3
    have A := A.push o3 k3 hg3
    clear o3 k3 hg3
    go_wp2_with fail
    go_meet
    case rel => exact ⟨_, S2, s2, _, _, _, f10, _, A.up (by omega), (I.add hl).later (by omega)⟩
  · have q3 : (j : Int).toNat = j := (by omega); have q5 : (0 : Int) ≤ (j : Int) := (by omega); have q6 : (j : Int) < 64 := (by omega)
    have e10 := I.e10 j j64
    rw [hl] at e10
    have e10 : f10 j = (l.length : Int) := e10
    have ll := I.len j l hl
    go_wp2_with fail
    refine (x_put_old A.r (by omega) j l hl).mono ?_
    rintro e y1 ⟨q1, S1, s1, rfl, e1, C1, k1⟩
    have A := A.step C1 k1
    clear C1 k1 x1
    go_wp2_with fail
    have A := A.quiet (Keep.refl (fun _ => False) y1).drew
    have x1 := A.co 1 _ rfl
    have xj := A.t10.cell j j64
    rw [e10] at xj
    refine wp_region_held_drew (S := (fun w' => w'.cell? ⟨ob, 1, none⟩ = some (.int .i64 (j : Int)) ∧ w'.cell? ⟨b10, j, none⟩ = some (.int .i64 (l.length : Int)))) (by kernel_rfl) ⟨x1, xj⟩ (fun hHeld => ?_)
    clear x1 xj
    refine wpAnyH_take (i := 0) (v := ?qvu29) rfl (by kernel_rfl) (by kernel_rfl) (by kernel_rfl) (by intro _ _ _ h; exact hQp.out _ _ _ _ _ h) (Or.inl ⟨by rfl, ?qyu29⟩) (by assumption) ?qru29; case qyu29 => ((intro w hSw; (try dsimp only at hSw); go_simp); try (with_reducible rfl))
    ((try simp only [List.getElem_toArray]); (try simp only [List.getElem_cons_succ]); (try simp only [List.getElem_cons_zero]); (try simp only [Act.put]); (try simp only [List.setIfInBounds_toArray]); (try simp only [List.set_cons_succ]); (try simp only [List.set_cons_zero]))
    refine wpAnyH_take (i := 1) (v := ?qvu30) rfl (by kernel_rfl) (by kernel_rfl) (by kernel_rfl) (by intro _ _ _ h; exact hQp.out _ _ _ _ _ h) (Or.inl ⟨by rfl, ?qyu30⟩) (by assumption) ?qru30; case qyu30 => ((intro w hSw; (try dsimp only at hSw); go_simp); try (with_reducible rfl))
    ((try simp only [List.getElem_toArray]); (try simp only [List.getElem_cons_succ]); (try simp only [List.getElem_cons_zero]); (try simp only [Act.put]); (try simp only [List.setIfInBounds_toArray]); (try simp only [List.set_cons_succ]); (try simp only [List.set_cons_zero]))
    refine wpAnyH_take (i := 2) (v := ?qvu31) rfl (by kernel_rfl) (by kernel_rfl) (by kernel_rfl) (by intro _ _ _ h; exact hQp.out _ _ _ _ _ h) (Or.inl ⟨by rfl, ?qyu31⟩) (by assumption) ?qru31; case qyu31 => ((intro w hSw; (try dsimp only at hSw); go_simp); try (with_reducible rfl))
    ((try simp only [List.getElem_toArray]); (try simp only [List.getElem_cons_succ]); (try simp only [List.getElem_cons_zero]); (try simp only [Act.put]); (try simp only [List.setIfInBounds_toArray]); (try simp only [List.set_cons_succ]); (try simp only [List.set_cons_zero]))
    refine wpAnyH_take (i := 3) (v := ?qvu32) rfl (by kernel_rfl) (by kernel_rfl) (by kernel_rfl) (by intro _ _ _ h; exact hQp.out _ _ _ _ _ h) (Or.inl ⟨by rfl, ?qyu32⟩) (by assumption) ?qru32; case qyu32 => ((intro w hSw; (try dsimp only at hSw); go_simp); try (with_reducible rfl))
    ((try simp only [List.getElem_toArray]); (try simp only [List.getElem_cons_succ]); (try simp only [List.getElem_cons_zero]); (try simp only [Act.put]); (try simp only [List.setIfInBounds_toArray]); (try simp only [List.set_cons_succ]); (try simp only [List.set_cons_zero]))
    refine wpAnyH_take (i := 4) (v := ?qvu33) rfl (by kernel_rfl) (by kernel_rfl) (by kernel_rfl) (by intro _ _ _ h; exact hQp.out _ _ _ _ _ h) (Or.inl ⟨by rfl, ?qyu33⟩) (by assumption) ?qru33; case qyu33 => ((intro w hSw; (try dsimp only at hSw); go_simp); try (with_reducible rfl))
    ((try simp only [List.getElem_toArray]); (try simp only [List.getElem_cons_succ]); (try simp only [List.getElem_cons_zero]); (try simp only [Act.put]); (try simp only [List.setIfInBounds_toArray]); (try simp only [List.set_cons_succ]); (try simp only [List.set_cons_zero]))
    refine wpAnyH_take (i := 5) (v := ?qvu34) rfl (by kernel_rfl) (by kernel_rfl) (by kernel_rfl) (by intro _ _ _ h; exact hQp.out _ _ _ _ _ h) (Or.inl ⟨by rfl, ?qyu34⟩) (by assumption) ?qru34; case qyu34 => ((intro w hSw; (try dsimp only at hSw); go_simp); try (with_reducible rfl))
    ((try simp only [List.getElem_toArray]); (try simp only [List.getElem_cons_succ]); (try simp only [List.getElem_cons_zero]); (try simp only [Act.put]); (try simp only [List.setIfInBounds_toArray]); (try simp only [List.set_cons_succ]); (try simp only [List.set_cons_zero]))
    refine wpAnyH_take (i := 6) (v := ?qvu35) rfl (by kernel_rfl) (by kernel_rfl) (by kernel_rfl) (by intro _ _ _ h; exact hQp.out _ _ _ _ _ h) (Or.inl ⟨by rfl, ?qyu35⟩) (by assumption) ?qru35; case qyu35 => ((intro w hSw; (try dsimp only at hSw); go_simp); try (with_reducible rfl))
    ((try simp only [List.getElem_toArray]); (try simp only [List.getElem_cons_succ]); (try simp only [List.getElem_cons_zero]); (try simp only [Act.put]); (try simp only [List.setIfInBounds_toArray]); (try simp only [List.set_cons_succ]); (try simp only [List.set_cons_zero]))
    refine wpAnyH_take (i := 7) (v := ?qvu36) rfl (by kernel_rfl) (by kernel_rfl) (by kernel_rfl) (by intro _ _ _ h; exact hQp.out _ _ _ _ _ h) (Or.inl ⟨by rfl, ?qyu36⟩) (by assumption) ?qru36; case qyu36 => ((intro w hSw; (try dsimp only at hSw); go_simp); try (with_reducible rfl))
    ((try simp only [List.getElem_toArray]); (try simp only [List.getElem_cons_succ]); (try simp only [List.getElem_cons_zero]); (try simp only [Act.put]); (try simp only [List.setIfInBounds_toArray]); (try simp only [List.set_cons_succ]); (try simp only [List.set_cons_zero]))
    refine wpAnyH_take (i := 8) (v := ?qvu37) rfl (by kernel_rfl) (by kernel_rfl) (by kernel_rfl) (by intro _ _ _ h; exact hQp.out _ _ _ _ _ h) (Or.inl ⟨by rfl, ?qyu37⟩) (by assumption) ?qru37; case qyu37 => ((intro w hSw; (try dsimp only at hSw); go_simp); try (with_reducible rfl))
    ((try simp only [List.getElem_toArray]); (try simp only [List.getElem_cons_succ]); (try simp only [List.getElem_cons_zero]); (try simp only [Act.put]); (try simp only [List.setIfInBounds_toArray]); (try simp only [List.set_cons_succ]); (try simp only [List.set_cons_zero]))
    refine wpAnyH_take (i := 9) (v := ?qvu38) rfl (by kernel_rfl) (by kernel_rfl) (by kernel_rfl) (by intro _ _ _ h; exact hQp.out _ _ _ _ _ h) (Or.inl ⟨by rfl, ?qyu38⟩) (by assumption) ?qru38; case qyu38 => ((intro w hSw; (try dsimp only at hSw); go_simp); try (with_reducible rfl))
    ((try simp only [List.getElem_toArray]); (try simp only [List.getElem_cons_succ]); (try simp only [List.getElem_cons_zero]); (try simp only [Act.put]); (try simp only [List.setIfInBounds_toArray]); (try simp only [List.set_cons_succ]); (try simp only [List.set_cons_zero]))
    refine wpAnyH_take (i := 10) (v := ?qvu39) rfl (by kernel_rfl) (by kernel_rfl) (by kernel_rfl) (by intro _ _ _ h; exact hQp.out _ _ _ _ _ h) (Or.inl ⟨by rfl, ?qyu39⟩) (by assumption) ?qru39; case qyu39 => ((intro w hSw; (try dsimp only at hSw); go_simp); try (with_reducible rfl))
    ((try simp only [List.getElem_toArray]); (try simp only [List.getElem_cons_succ]); (try simp only [List.getElem_cons_zero]); (try simp only [Act.put]); (try simp only [List.setIfInBounds_toArray]); (try simp only [List.set_cons_succ]); (try simp only [List.set_cons_zero]))
    refine wpAnyH_take (i := 11) (v := ?qvu40) rfl (by kernel_rfl) (by kernel_rfl) (by kernel_rfl) (by intro _ _ _ h; exact hQp.out _ _ _ _ _ h) (Or.inl ⟨by rfl, ?qyu40⟩) (by assumption) ?qru40; case qyu40 => ((intro w hSw; (try dsimp only at hSw); go_simp); try (with_reducible rfl))
    ((try simp only [List.getElem_toArray]); (try simp only [List.getElem_cons_succ]); (try simp only [List.getElem_cons_zero]); (try simp only [Act.put]); (try simp only [List.setIfInBounds_toArray]); (try simp only [List.set_cons_succ]); (try simp only [List.set_cons_zero]))
    refine wpAnyH_take (i := 12) (v := ?qvu41) rfl (by kernel_rfl) (by kernel_rfl) (by kernel_rfl) (by intro _ _ _ h; exact hQp.out _ _ _ _ _ h) (Or.inl ⟨by rfl, ?qyu41⟩) (by assumption) ?qru41; case qyu41 => ((intro w hSw; (try dsimp only at hSw); go_simp); try (with_reducible rfl))
    ((try simp only [List.getElem_toArray]); (try simp only [List.getElem_cons_succ]); (try simp only [List.getElem_cons_zero]); (try simp only [Act.put]); (try simp only [List.setIfInBounds_toArray]); (try simp only [List.set_cons_succ]); (try simp only [List.set_cons_zero]))
    refine wpAnyH_take (i := 13) (v := ?qvu42) rfl (by kernel_rfl) (by kernel_rfl) (by kernel_rfl) (by intro _ _ _ h; exact hQp.out _ _ _ _ _ h) (Or.inl ⟨by rfl, ?qyu42⟩) (by assumption) ?qru42; case qyu42 => ((intro w hSw; (try dsimp only at hSw); go_simp); try (with_reducible rfl))
    ((try simp only [List.getElem_toArray]); (try simp only [List.getElem_cons_succ]); (try simp only [List.getElem_cons_zero]); (try simp only [Act.put]); (try simp only [List.setIfInBounds_toArray]); (try simp only [List.set_cons_succ]); (try simp only [List.set_cons_zero]))
    refine wpAnyH_take (i := 14) (v := undef) rfl (by kernel_rfl) (by kernel_rfl) (by kernel_rfl) (by intro _ _ _ h; exact hQp.out _ _ _ _ _ h) (Or.inr ⟨by rfl, rfl⟩) (by assumption) ?qru43
    ((try simp only [List.getElem_toArray]); (try simp only [List.getElem_cons_succ]); (try simp only [List.getElem_cons_zero]); (try simp only [Act.put]); (try simp only [List.setIfInBounds_toArray]); (try simp only [List.set_cons_succ]); (try simp only [List.set_cons_zero]))
    refine wpAnyH_take (i := 15) (v := undef) rfl (by kernel_rfl) (by kernel_rfl) (by kernel_rfl) (by intro _ _ _ h; exact hQp.out _ _ _ _ _ h) (Or.inr ⟨by rfl, rfl⟩) (by assumption) ?qru44
    ((try simp only [List.getElem_toArray]); (try simp only [List.getElem_cons_succ]); (try simp only [List.getElem_cons_zero]); (try simp only [Act.put]); (try simp only [List.setIfInBounds_toArray]); (try simp only [List.set_cons_succ]); (try simp only [List.set_cons_zero]))
    refine wpAnyH_take (i := 16) (v := ?qvu45) rfl (by kernel_rfl) (by kernel_rfl) (by kernel_rfl) (by intro _ _ _ h; exact hQp.out _ _ _ _ _ h) (Or.inl ⟨by rfl, ?qyu45⟩) (by assumption) ?qru45; case qyu45 => ((intro w hSw; (try dsimp only at hSw); go_simp); try (with_reducible rfl))
    ((try simp only [List.getElem_toArray]); (try simp only [List.getElem_cons_succ]); (try simp only [List.getElem_cons_zero]); (try simp only [Act.put]); (try simp only [List.setIfInBounds_toArray]); (try simp only [List.set_cons_succ]); (try simp only [List.set_cons_zero]))
    refine wpAnyH_take (i := 17) (v := ?qvu46) rfl (by kernel_rfl) (by kernel_rfl) (by kernel_rfl) (by intro _ _ _ h; exact hQp.out _ _ _ _ _ h) (Or.inl ⟨by rfl, ?qyu46⟩) (by assumption) ?qru46; case qyu46 => ((intro w hSw; (try dsimp only at hSw); go_simp); try (with_reducible rfl))
    ((try simp only [List.getElem_toArray]); (try simp only [List.getElem_cons_succ]); (try simp only [List.getElem_cons_zero]); (try simp only [Act.put]); (try simp only [List.setIfInBounds_toArray]); (try simp only [List.set_cons_succ]); (try simp only [List.set_cons_zero]))
    refine wpAnyH_take (i := 18) (v := ?qvu47) rfl (by kernel_rfl) (by kernel_rfl) (by kernel_rfl) (by intro _ _ _ h; exact hQp.out _ _ _ _ _ h) (Or.inl ⟨by rfl, ?qyu47⟩) (by assumption) ?qru47; case qyu47 => ((intro w hSw; (try dsimp only at hSw); go_simp); try (with_reducible rfl))
    ((try simp only [List.getElem_toArray]); (try simp only [List.getElem_cons_succ]); (try simp only [List.getElem_cons_zero]); (try simp only [Act.put]); (try simp only [List.setIfInBounds_toArray]); (try simp only [List.set_cons_succ]); (try simp only [List.set_cons_zero]))
    refine wpAnyH_take (i := 19) (v := ?qvu48) rfl (by kernel_rfl) (by kernel_rfl) (by kernel_rfl) (by intro _ _ _ h; exact hQp.out _ _ _ _ _ h) (Or.inl ⟨by rfl, ?qyu48⟩) (by assumption) ?qru48; case qyu48 => ((intro w hSw; (try dsimp only at hSw); go_simp); try (with_reducible rfl))
    ((try simp only [List.getElem_toArray]); (try simp only [List.getElem_cons_succ]); (try simp only [List.getElem_cons_zero]); (try simp only [Act.put]); (try simp only [List.setIfInBounds_toArray]); (try simp only [List.set_cons_succ]); (try simp only [List.set_cons_zero]))
    refine wpAnyH_take (i := 20) (v := ?qvu49) rfl (by kernel_rfl) (by kernel_rfl) (by kernel_rfl) (by intro _ _ _ h; exact hQp.out _ _ _ _ _ h) (Or.inl ⟨by rfl, ?qyu49⟩) (by assumption) ?qru49; case qyu49 => ((intro w hSw; (try dsimp only at hSw); go_simp); try (with_reducible rfl))
    ((try simp only [List.getElem_toArray]); (try simp only [List.getElem_cons_succ]); (try simp only [List.getElem_cons_zero]); (try simp only [Act.put]); (try simp only [List.setIfInBounds_toArray]); (try simp only [List.set_cons_succ]); (try simp only [List.set_cons_zero]))
    refine wpAnyH_take (i := 21) (v := ?qvu50) rfl (by kernel_rfl) (by kernel_rfl) (by kernel_rfl) (by intro _ _ _ h; exact hQp.out _ _ _ _ _ h) (Or.inl ⟨by rfl, ?qyu50⟩) (by assumption) ?qru50; case qyu50 => ((intro w hSw; (try dsimp only at hSw); go_simp); try (with_reducible rfl))
    ((try simp only [List.getElem_toArray]); (try simp only [List.getElem_cons_succ]); (try simp only [List.getElem_cons_zero]); (try simp only [Act.put]); (try simp only [List.setIfInBounds_toArray]); (try simp only [List.set_cons_succ]); (try simp only [List.set_cons_zero]))
    refine wpAnyH_take (i := 23) (v := ?qvu51) rfl (by kernel_rfl) (by kernel_rfl) (by kernel_rfl) (by intro _ _ _ h; exact hQp.out _ _ _ _ _ h) (Or.inl ⟨by rfl, ?qyu51⟩) (by assumption) ?qru51; case qyu51 => ((intro w hSw; (try dsimp only at hSw); go_simp); try (with_reducible rfl))
    ((try simp only [List.getElem_toArray]); (try simp only [List.getElem_cons_succ]); (try simp only [List.getElem_cons_zero]); (try simp only [Act.put]); (try simp only [List.setIfInBounds_toArray]); (try simp only [List.set_cons_succ]); (try simp only [List.set_cons_zero]))
    refine wpAnyH_take (i := 24) (v := ?qvu52) rfl (by kernel_rfl) (by kernel_rfl) (by kernel_rfl) (by intro _ _ _ h; exact hQp.out _ _ _ _ _ h) (Or.inl ⟨by rfl, ?qyu52⟩) (by assumption) ?qru52; case qyu52 => ((intro w hSw; (try dsimp only at hSw); go_simp); try (with_reducible rfl))
    ((try simp only [List.getElem_toArray]); (try simp only [List.getElem_cons_succ]); (try simp only [List.getElem_cons_zero]); (try simp only [Act.put]); (try simp only [List.setIfInBounds_toArray]); (try simp only [List.set_cons_succ]); (try simp only [List.set_cons_zero]))
    refine wpAnyH_take (i := 25) (v := ?qvu53) rfl (by kernel_rfl) (by kernel_rfl) (by kernel_rfl) (by intro _ _ _ h; exact hQp.out _ _ _ _ _ h) (Or.inl ⟨by rfl, ?qyu53⟩) (by assumption) ?qru53; case qyu53 => ((intro w hSw; (try dsimp only at hSw); go_simp); try (with_reducible rfl))
    ((try simp only [List.getElem_toArray]); (try simp only [List.getElem_cons_succ]); (try simp only [List.getElem_cons_zero]); (try simp only [Act.put]); (try simp only [List.setIfInBounds_toArray]); (try simp only [List.set_cons_succ]); (try simp only [List.set_cons_zero]))
    refine wpAnyH_take (i := 26) (v := ?qvu54) rfl (by kernel_rfl) (by kernel_rfl) (by kernel_rfl) (by intro _ _ _ h; exact hQp.out _ _ _ _ _ h) (Or.inl ⟨by rfl, ?qyu54⟩) (by assumption) ?qru54; case qyu54 => ((intro w hSw; (try dsimp only at hSw); go_simp); try (with_reducible rfl))
    ((try simp only [List.getElem_toArray]); (try simp only [List.getElem_cons_succ]); (try simp only [List.getElem_cons_zero]); (try simp only [Act.put]); (try simp only [List.setIfInBounds_toArray]); (try simp only [List.set_cons_succ]); (try simp only [List.set_cons_zero]))
    refine wpAnyH_ready (rs := [22]) (by kernel_rfl) (by simp) ?_
    refine AllReadyH.cons rfl (fun K hK => ?_) AllReadyH.nil
    go_simp
    refine (x_len A.r (by omega) j (.inr ⟨rfl, rfl⟩) l hl (by omega) _ rfl).mono ?_
    rintro e y2 ⟨rfl, S2, s2, e2, C2, k2⟩
    have A := A.step C2 k2
    clear C2 k2
    refine hK.out _ _ ⟨A.co 1 _ rfl, by rw [A.t10.cell j j64, e10]⟩ (fun hHeld => ?_)
    clear hK K
    ((try simp only [List.getElem_toArray]); (try simp only [List.getElem_cons_succ]); (try simp only [List.getElem_cons_zero]); (try simp only [Act.put]); (try simp only [List.setIfInBounds_toArray]); (try simp only [List.set_cons_succ]); (try simp only [List.set_cons_zero]))
    refine wpAnyH_take (i := 27) (v := ?qvu55) rfl (by kernel_rfl) (by kernel_rfl) (by kernel_rfl) (by intro _ _ _ h; exact hQp.out _ _ _ _ _ h) (Or.inl ⟨by rfl, ?qyu55⟩) (by assumption) ?qru55; case qyu55 => ((intro w hSw; (try dsimp only at hSw); go_simp); try (with_reducible rfl))
    ((try simp only [List.getElem_toArray]); (try simp only [List.getElem_cons_succ]); (try simp only [List.getElem_cons_zero]); (try simp only [Act.put]); (try simp only [List.setIfInBounds_toArray]); (try simp only [List.set_cons_succ]); (try simp only [List.set_cons_zero]))
    refine wpAnyH_take (i := 28) (v := ?qvu56) rfl (by kernel_rfl) (by kernel_rfl) (by kernel_rfl) (by intro _ _ _ h; exact hQp.out _ _ _ _ _ h) (Or.inl ⟨by rfl, ?qyu56⟩) (by assumption) ?qru56; case qyu56 => ((intro w hSw; (try dsimp only at hSw); go_simp); try (with_reducible rfl))
    ((try simp only [List.getElem_toArray]); (try simp only [List.getElem_cons_succ]); (try simp only [List.getElem_cons_zero]); (try simp only [Act.put]); (try simp only [List.setIfInBounds_toArray]); (try simp only [List.set_cons_succ]); (try simp only [List.set_cons_zero]))
    refine wpAnyH_take (i := 29) (v := ?qvu57) rfl (by kernel_rfl) (by kernel_rfl) (by kernel_rfl) (by intro _ _ _ h; exact hQp.out _ _ _ _ _ h) (Or.inl ⟨by rfl, ?qyu57⟩) (by assumption) ?qru57; case qyu57 => ((intro w hSw; (try dsimp only at hSw); go_simp); try (with_reducible rfl))
    ((try simp only [List.getElem_toArray]); (try simp only [List.getElem_cons_succ]); (try simp only [List.getElem_cons_zero]); (try simp only [Act.put]); (try simp only [List.setIfInBounds_toArray]); (try simp only [List.set_cons_succ]); (try simp only [List.set_cons_zero]))
    refine wpAnyH_done (by kernel_rfl) ?_ _
    go_wp2_with fail
    go_meet
    case rel => exact ⟨_, S2, s2, h, _, f9, f10, z1, A.up (by omega), I.later (by omega)⟩
end
end Go.Proofs.YtmfpjnlplimkeaaGreat.hashPlays
