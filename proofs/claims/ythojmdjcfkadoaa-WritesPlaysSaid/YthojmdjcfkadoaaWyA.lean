/- WritesPlays in parts: a set of writes and the law's own list, boxes, the pieces of its code, what holds where they meet, and the frames there. No condition. -/
import Derived.Test.YthojmdjcfkadoaaWrP
import Derived.Test.YthojmdjcfkadoaaCodes
import Derived.Test.YthojmdjcfkadoaaOps14
import Derived.ChangeOld
import Derived.Deep.CutRange
import Derived.Deep.CutBlock
import Derived.Deep.LoopGhost
import Derived.BigRegion
import Derived.BigQuiet
import Derived.Deep.RegionHeld3
import Derived.Deep.QuietTactic
namespace Go.Proofs.Ythojmdjcfkadoaa.writesPlays
open Go.ChangeShapes Go.WideShapes Go.ChangeAt Go.RowKit
set_option linter.unusedVariables false

noncomputable def cKey : Code := (Try.f5.body.bind (blockIn 2)).getD .skip
noncomputable def cSw : Code := (Try.f5.body.bind (afterG 14)).getD .skip
noncomputable def cEnd : Code := (Try.f5.body.bind (afterR 15)).getD .skip
noncomputable def cBody : Code := (Try.f5.body.bind (blockIn 1)).getD .skip
noncomputable def cLoop : Code := (Try.f5.body.bind (blockIn 0)).getD .skip
noncomputable def cRound : Code := (Try.f5.body.bind loopIn).getD .skip
/-- An op's cells, a write's. -/
def opC (x : OpI) : List Value := [.int .i64 x.kind, .int .i64 x.key, .int .i64 x.val]
/-- A set and the law's own list of writes. -/
structure A14 (W w : World) (t : Nat) (S : Nat → Prop) (s : List WrI) (v : Value) (z : List WrI) : Prop where
  r : Wr W w t S s
  o : OwnW W.heap.size w v z
  d : ∀ g, v.ownBlock = some g → ¬ S g
section
variable {W w w' : World} {t b : Nat} {S S' : Nat → Prop} {s s' z z' : List WrI} {v v' : Value} {cs : List Value}
theorem A14.step (h : A14 W w t S s v z) (hr : Wr W w' t S' s') (k : VKeep S S' w w') : A14 W w' t S' s' v z :=
  ⟨hr, OwnW.keep h.o k.1 h.d, fun g hg x => by rcases k.2 g x with y | y; exact h.d g hg y; have := (OwnW.lt h.o hg).2; omega⟩
theorem A14.quiet (h : A14 W w t S s v z) (k : Keep (fun _ => False) w w') : A14 W w' t S s v z := ⟨h.r.quiet k, OwnW.keep h.o k (by simp), h.d⟩
theorem A14.push (h : A14 W w t S s v z) {g c : Nat} {y : WrI} (o : OwnW W.heap.size w' (.slice (some ⟨g, 0, none⟩) (z.length + 1) c) (z ++ [y])) (k : Keep (fun j => v.ownBlock = some j) w w') (hg : v.ownBlock = some g ∨ w.heap.size ≤ g) : A14 W w' t S s (.slice (some ⟨g, 0, none⟩) (z.length + 1) c) (z ++ [y]) := by
  refine ⟨h.r.own k (fun x hx => ⟨h.d x hx, (OwnW.lt h.o hx).1⟩), o, fun x hx y => ?_⟩
  have : g = x := by simpa [Value.ownBlock] using hx
  subst this
  rcases hg with z | z
  · exact h.d _ z y
  · have := h.r.lt _ y; omega
theorem A14.below (h : A14 W w t S s v z) : Below W.heap.size W w := h.r.b
/-- A write is laid over one of the list's. -/
theorem A14.put {g n c i : Nat} (h : A14 W w t S s (.slice (some ⟨g, 0, none⟩) n c) z) (hi : i < z.length) (x : WrI) :
    A14 W (((w.setCell ⟨g, i * 3, none⟩ (.int .i64 x.k)).setCell ⟨g, i * 3 + 1, none⟩ (.int .i64 x.v)).setCell ⟨g, i * 3 + 2, none⟩ (.bool x.g)) t S s (.slice (some ⟨g, 0, none⟩) n c) (z.set i x) := by
  have kk := three_keep w g i (.int .i64 x.k) (.int .i64 x.v) (.bool x.g)
  refine ⟨h.r.own kk (fun j e => by rw [e]; exact ⟨h.d g rfl, (OwnW.lt h.o rfl).1⟩), ?_, h.d⟩
  have o : OwnM 3 wrC 38 w (.slice (some ⟨g, 0, none⟩) n c) z := OwnM.of_base h.o rfl rfl
  have hn := o.n
  subst hn
  have p := put_three o i hi x
  have q := h.o
  have b := (OwnW.lt q rfl).1
  obtain ⟨p1, p2⟩ := p
  refine ⟨by rw [List.length_set]; exact (by rw [List.length_set] at p1; exact p1), ?_⟩
  rcases p2 with p2 | ⟨g', c', cur, hv, _, r⟩
  · exact .inl p2
  · refine .inr ⟨g', c', cur, hv, ?_, r⟩
    have e : (Value.slice (some ⟨g, 0, none⟩) z.length c).ownBlock = some g' := by rw [hv]; rfl
    have e2 : g = g' := by simpa [Value.ownBlock] using e
    rw [← e2]
    exact b
/-- A box: its cells; it lies beside the set and the list. -/
structure Bx (w : World) (S : Nat → Prop) (v : Value) (b : Nat) (cs : List Value) : Prop where
  c : ∀ i u, cs[i]? = some u → w.cell? ⟨b, i, none⟩ = some u
  nS : ¬ S b
  nv : v.ownBlock ≠ some b
  lt : b < w.heap.size
  fz : ∀ i, w.frozen? ⟨b, i, none⟩ = false
theorem Bx.step (h : Bx w S v b cs) (k : VKeep S S' w w') : Bx w' S' v b cs :=
  ⟨fun i u hu => k.1.cell (h.c i u hu) h.nS, fun x => by rcases k.2 b x with y | y; exact h.nS y; have := h.lt; omega, h.nv, Nat.lt_of_lt_of_le h.lt k.1.size, fun i => (k.1.frozen (a := ⟨b, i, none⟩) h.lt h.nS).trans (h.fz i)⟩
theorem Bx.quiet (h : Bx w S v b cs) (k : Keep (fun _ => False) w w') : Bx w' S v b cs := ⟨fun i u hu => k.cell (h.c i u hu) id, h.nS, h.nv, Nat.lt_of_lt_of_le h.lt k.size, fun i => (k.frozen (a := ⟨b, i, none⟩) h.lt id).trans (h.fz i)⟩
theorem Bx.far {T : Nat → Prop} (h : Bx w S v b cs) (k : Keep T w w') (hn : ¬ T b) : Bx w' S v b cs := ⟨fun i u hu => k.cell (h.c i u hu) hn, h.nS, h.nv, Nat.lt_of_lt_of_le h.lt k.size, fun i => (k.frozen (a := ⟨b, i, none⟩) h.lt hn).trans (h.fz i)⟩
/-- A new box. -/
theorem A14.box (h : A14 W w t S s v z) (cs : Array Value) (e : TypeId) : A14 W (w.alloc (.cells cs e)) t S s v z ∧ Bx (w.alloc (.cells cs e)) S v w.heap.size cs.toList :=
  ⟨h.quiet ((Keep.refl _ _).alloc _), fun i u hu => by simpa using hu, fun x => by have := h.r.lt _ x; omega, fun x => by have := (OwnW.lt h.o x).2; omega, by simp, fun i => by simp⟩
theorem A14.far (h : A14 W w t S s v z) {T : Nat → Prop} (k : Keep T w w') (hT : ∀ g, T g → ¬ S g ∧ v.ownBlock ≠ some g ∧ W.heap.size ≤ g) : A14 W w' t S s v z :=
  ⟨h.r.own k (fun g hg => ⟨(hT g hg).1, (hT g hg).2.2⟩), OwnW.keep h.o k (fun g hg x => (hT g x).2.1 hg), h.d⟩
end
/-- Where a key stands first, or how many there are. -/
def IsK (z : List WrI) (key : Int) (k : Nat) : Prop := (∀ m x, m < k → z[m]? = some x → x.k ≠ key) ∧ ((∃ x, z[k]? = some x ∧ x.k = key) ∨ k = z.length)
/-- At a round's end: the set holds what the list says. -/
def Mid (W : World) (t k : Nat) (v : Value) (wx : World) : Prop := ∃ S s, A14 W wx t S s v s ∧ s.length ≤ k + 1
def Rel (W : World) (len t k : Nat) (v i : Value) (wr : World) : Prop := ∃ S s, k ≤ len ∧ k ≤ 60 ∧ i = .int .i64 k ∧ A14 W wr t S s v s ∧ s.length ≤ k
set_option maxRecDepth 1000000 in
/-- Behind the search for the key. -/
def PK (z : List WrI) (key : Int) (wA : World) (s0 s1 s2 s3 s4 s5 s6 s7 s8 s9 s10 s11 s12 s13 s14 s15 s17 s18 s19 s20 s21 s22 s23 s24 s25 s26 s27 s28 s29 s30 s31 s32 s33 s34 s35 s36 s37 s38 s39 s40 s41 s42 s43 s44 s45 s46 s47 s48 s49 s50 s51 s52 s53 s54 s55 s56 s57 s58 s59 s60 s61 s62 s63 s64 s65 s66 s67 s68 s69 s86 s87 s88 s89 s90 s91 s92 s93 s94 s95 s96 s97 s98 s99 s100 s101 s102 s103 s104 s105 s106 s107 s108 s109 s110 s111 s112 s113 s114 s115 s116 s117 s118 s119 s120 s121 s122 s123 s124 s125 s126 s127 s128 s129 s130 s131 s132 s133 s134 s135 s136 s137 s138 s139 s140 s141 s142 s143 s144 s145 s146 s147 s148 s149 s150 s151 s152 s153 s154 s155 s156 s157 s158 s159 s160 s161 s162 s163 s164 s165 s166 s167 s168 s169 s170 s171 s172 s173 s174 s175 s176 s177 s178 s179 s180 s181 s182 s183 s184 s185 s186 s187 s188 s189 s190 s191 s192 s193 s194 s195 s196 s197 s198 s199 s200 s201 s202 s203 s204 s205 s206 s207 s208 s209 s210 s211 s212 s213 s214 s215 s216 s217 s218 s219 s220 s221 s222 s223 s224 s225 s226 s227 s228 s229 s230 s231 s232 s233 s234 s235 s236 s237 s238 s239 s240 s241 s242 s243 s244 s245 s246 s247 s248 s249 s250 s251 s252 s253 s254 s255 s256 s257 s258 s259 s260 s261 s262 s263 s264 s265 s266 s267 s268 s269 s270 s271 s272 s273 s274 s275 s276 s277 s278 s279 s280 s281 s282 s283 s284 s285 s286 s287 s288 s289 s290 s291 s292 s293 s294 s295 s296 s297 s298 s299 s300 s301 s302 s303 s304 s305 s306 s307 s308 s309 s310 s311 s312 s313 s314 s315 s316 s317 s318 s319 s320 s321 s322 s323 s324 s325 s326 s327 s328 s329 s330 s331 s332 s333 s334 s335 s336 s337 s338 s339 s340 s341 : Value) (a' : Act) (w' : World) : Prop :=
  ∃ u16 u70 u71 u72 u73 u74 u75 u76 u77 u78 u79 u80 u81 u82 u83 u84 u85 : Value, ((∃ kk : Nat, u16 = .int .i64 kk ∧ IsK z key kk) ∧ ∃ d : Nat, w' = wA.drewN d) ∧ a' = ⟨#[s0, s1, s2, s3, s4, s5, s6, s7, s8, s9, s10, s11, s12, s13, s14, s15, u16, s17, s18, s19, s20, s21, s22, s23, s24, s25, s26, s27, s28, s29, s30, s31, s32, s33, s34, s35, s36, s37, s38, s39, s40, s41, s42, s43, s44, s45, s46, s47, s48, s49, s50, s51, s52, s53, s54, s55, s56, s57, s58, s59, s60, s61, s62, s63, s64, s65, s66, s67, s68, s69, u70, u71, u72, u73, u74, u75, u76, u77, u78, u79, u80, u81, u82, u83, u84, u85, s86, s87, s88, s89, s90, s91, s92, s93, s94, s95, s96, s97, s98, s99, s100, s101, s102, s103, s104, s105, s106, s107, s108, s109, s110, s111, s112, s113, s114, s115, s116, s117, s118, s119, s120, s121, s122, s123, s124, s125, s126, s127, s128, s129, s130, s131, s132, s133, s134, s135, s136, s137, s138, s139, s140, s141, s142, s143, s144, s145, s146, s147, s148, s149, s150, s151, s152, s153, s154, s155, s156, s157, s158, s159, s160, s161, s162, s163, s164, s165, s166, s167, s168, s169, s170, s171, s172, s173, s174, s175, s176, s177, s178, s179, s180, s181, s182, s183, s184, s185, s186, s187, s188, s189, s190, s191, s192, s193, s194, s195, s196, s197, s198, s199, s200, s201, s202, s203, s204, s205, s206, s207, s208, s209, s210, s211, s212, s213, s214, s215, s216, s217, s218, s219, s220, s221, s222, s223, s224, s225, s226, s227, s228, s229, s230, s231, s232, s233, s234, s235, s236, s237, s238, s239, s240, s241, s242, s243, s244, s245, s246, s247, s248, s249, s250, s251, s252, s253, s254, s255, s256, s257, s258, s259, s260, s261, s262, s263, s264, s265, s266, s267, s268, s269, s270, s271, s272, s273, s274, s275, s276, s277, s278, s279, s280, s281, s282, s283, s284, s285, s286, s287, s288, s289, s290, s291, s292, s293, s294, s295, s296, s297, s298, s299, s300, s301, s302, s303, s304, s305, s306, s307, s308, s309, s310, s311, s312, s313, s314, s315, s316, s317, s318, s319, s320, s321, s322, s323, s324, s325, s326, s327, s328, s329, s330, s331, s332, s333, s334, s335, s336, s337, s338, s339, s340, s341], []⟩
set_option maxRecDepth 1000000 in
/-- At a round's end: the frame, and what holds. -/
def PE (W : World) (t k : Nat) (s0 s1 s2 s3 s4 s5 s6 s7 s8 s9 s13 s19 s20 s21 s22 s23 s24 s25 s26 s27 s28 s29 s30 s31 s32 s33 s34 s35 s36 s37 s38 s39 s40 s41 s42 s43 s44 s45 s46 s47 s48 s49 s50 s51 s52 s53 s54 s55 s56 s57 s141 s142 s143 s144 s145 s146 s147 s148 s149 s150 s151 s152 s153 s154 s155 s156 s157 s158 s159 s160 s161 s162 s163 s164 s165 s166 s167 s168 s169 s170 s171 s172 s173 s174 s175 s176 s177 s178 s179 s180 s181 s182 s183 s184 s185 s186 s187 s188 s189 s190 s191 s192 s193 s194 s195 s196 s197 s198 s199 s200 s201 s202 s203 s204 s205 s206 s207 s208 s209 s210 s211 s212 s213 s214 s215 s216 s217 s218 s219 s220 s221 s222 s223 s224 s225 s226 s227 s228 s229 s230 s231 s232 s233 s234 s235 s236 s237 s238 s239 s240 s241 s242 s243 s244 s245 s246 s247 s248 s249 s250 s251 s252 s253 s254 s255 s256 s257 s258 s259 s260 s261 s262 s263 s264 s265 s266 s267 s268 s269 s270 s271 s272 s273 s274 s275 s276 s277 s278 s279 s280 s281 s282 s283 s284 s285 s286 s287 s288 s289 s290 s291 s292 s293 s294 s295 s296 s297 s298 s299 s300 s301 s302 s303 s304 s305 s306 s307 s308 s309 s310 s311 s312 s313 s314 s315 s316 s317 s318 s319 s320 s321 s322 s323 s324 s325 s326 s327 s328 s329 s330 s331 s332 s333 s334 s335 s336 s337 s338 s339 s340 s341 : Value) (a' : Act) (w' : World) : Prop :=
  ∃ u10 u12 u14 u15 u16 u17 u18 u58 u59 u60 u61 u62 u63 u64 u65 u66 u67 u68 u69 u70 u71 u72 u73 u74 u75 u76 u77 u78 u79 u80 u81 u82 u83 u84 u85 u86 u87 u88 u89 u90 u91 u92 u93 u94 u95 u96 u97 u98 u99 u100 u101 u102 u103 u104 u105 u106 u107 u108 u109 u110 u111 u112 u113 u114 u115 u116 u117 u118 u119 u120 u121 u122 u123 u124 u125 u126 u127 u128 u129 u130 u131 u132 u133 u134 u135 u136 u137 u138 u139 u140 : Value, Mid W t k u12 w' ∧ a' = ⟨#[s0, s1, s2, s3, s4, s5, s6, s7, s8, s9, u10, .pointer (some ⟨t, 0, none⟩), u12, s13, u14, u15, u16, u17, u18, s19, s20, s21, s22, s23, s24, s25, s26, s27, s28, s29, s30, s31, s32, s33, s34, s35, s36, s37, s38, s39, s40, s41, s42, s43, s44, s45, s46, s47, s48, s49, s50, s51, s52, s53, s54, s55, s56, s57, u58, u59, u60, u61, u62, u63, u64, u65, u66, u67, u68, u69, u70, u71, u72, u73, u74, u75, u76, u77, u78, u79, u80, u81, u82, u83, u84, u85, u86, u87, u88, u89, u90, u91, u92, u93, u94, u95, u96, u97, u98, u99, u100, u101, u102, u103, u104, u105, u106, u107, u108, u109, u110, u111, u112, u113, u114, u115, u116, u117, u118, u119, u120, u121, u122, u123, u124, u125, u126, u127, u128, u129, u130, u131, u132, u133, u134, u135, u136, u137, u138, u139, u140, s141, s142, s143, s144, s145, s146, s147, s148, s149, s150, s151, s152, s153, s154, s155, s156, s157, s158, s159, s160, s161, s162, s163, s164, s165, s166, s167, s168, s169, s170, s171, s172, s173, s174, s175, s176, s177, s178, s179, s180, s181, s182, s183, s184, s185, s186, s187, s188, s189, s190, s191, s192, s193, s194, s195, s196, s197, s198, s199, s200, s201, s202, s203, s204, s205, s206, s207, s208, s209, s210, s211, s212, s213, s214, s215, s216, s217, s218, s219, s220, s221, s222, s223, s224, s225, s226, s227, s228, s229, s230, s231, s232, s233, s234, s235, s236, s237, s238, s239, s240, s241, s242, s243, s244, s245, s246, s247, s248, s249, s250, s251, s252, s253, s254, s255, s256, s257, s258, s259, s260, s261, s262, s263, s264, s265, s266, s267, s268, s269, s270, s271, s272, s273, s274, s275, s276, s277, s278, s279, s280, s281, s282, s283, s284, s285, s286, s287, s288, s289, s290, s291, s292, s293, s294, s295, s296, s297, s298, s299, s300, s301, s302, s303, s304, s305, s306, s307, s308, s309, s310, s311, s312, s313, s314, s315, s316, s317, s318, s319, s320, s321, s322, s323, s324, s325, s326, s327, s328, s329, s330, s331, s332, s333, s334, s335, s336, s337, s338, s339, s340, s341], []⟩
theorem isK_found {z : List WrI} {key : Int} {k : Nat} (h : IsK z key k) (hk : k < z.length) : ∃ y, z[k]? = some y ∧ y.k = key := by
  rcases h.2 with h | h
  · exact h
  · omega
theorem isK_none {z : List WrI} {key : Int} {k : Nat} (h : IsK z key k) (hk : ¬ k < z.length) : k = z.length ∧ ∀ y ∈ z, y.k ≠ key := by
  rcases h.2 with ⟨x, hx, _⟩ | h2
  · exact absurd (List.getElem?_eq_some_iff.1 hx).1 hk
  · refine ⟨h2, fun y hy => ?_⟩
    obtain ⟨m, hm, rfl⟩ := List.getElem_of_mem hy
    exact h.1 m _ (by omega) (List.getElem?_eq_getElem hm)
end Go.Proofs.Ythojmdjcfkadoaa.writesPlays
