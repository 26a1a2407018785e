/- WritesPlays, behind Get: Over, and what the law lays; a slice of pairs that came in; conditions: what the parts before it have laid. -/
import Derived.Test.YthojmdjcfkadoaaWyF
import Derived.Test.YthojmdjcfkadoaaWyT
namespace Go.Proofs.Ythojmdjcfkadoaa.writesPlays
open Go.ChangeShapes Go.WideShapes Go.ChangeAt Go.RowKit
set_option linter.unusedVariables false
/-- A slice of pairs that came in. -/
def IsPs (w : World) (A : Option Addr) (n c : Nat) (l : List PrI) : Prop := l.length = n ∧ LiesP w (.slice A n c) l
theorem cells_pr : Try.prog.cellsOf 31 = 2 := by kernel_rfl
theorem cells_in : Try.prog.cellsOf 3 = 1 := by kernel_rfl
set_option maxRecDepth 100000 in
set_option maxHeartbeats 1000000 in
theorem is_ps {H : Type} {enc : TypeId × Value → H} {w : World} {spare : Nat → Bool} {held : Bool} {A : Option Addr} {n c : Nat} {d : DataW H} {ps : List MemPlace}
    (h : DataW.Trod enc Try.prog w 0 spare held 32 (.slice A n c) d ps) : ∃ l, IsPs w A n c l := by
  obtain ⟨fuel, hf⟩ := h
  rcases DataW.trod_slice Try.underlying32 hf with ⟨h0, _⟩ | ⟨a, len, cap, elems, rest, m, _, h0, _, _, hl, hm, hlen, hel, _, _⟩
  · simp [Value.cells] at h0
    obtain ⟨rfl, rfl, rfl⟩ := h0
    exact ⟨[], rfl, none, 0, rfl, Nat.le_refl _, fun _ => rfl, fun h => absurd h (Nat.lt_irrefl _)⟩
  · simp [Value.cells] at h0
    obtain ⟨rfl, rfl, rfl⟩ := h0
    rw [cells_pr] at hel
    have each : ∀ j, ∃ x : PrI, j < n → w.cell? (a.add (j * 2)) = some (.int .i64 x.k) ∧ w.cell? ((a.add (j * 2)).add 1) = some (.int .i64 x.v) := by
      intro j
      by_cases hj : j < n
      · have he := hel j hj
        rw [List.getElem?_eq_getElem (by omega), Option.bind_eq_some_iff] at he
        obtain ⟨cs, hcs, ht⟩ := he
        obtain ⟨_, hcl, hat⟩ := World.cells?_some hcs
        obtain ⟨xs, m', _, _, hl4, hxl, hx⟩ := DataW.trod_struct Try.underlying31 ht
        have f0 : DataW.trod enc Try.prog w 0 spare held m' 3 ((cs.drop 0).take (Try.prog.cellsOf 3)) = xs[0]? := hx 0 _ rfl
        have f1 : DataW.trod enc Try.prog w 0 spare held m' 3 ((cs.drop 1).take (Try.prog.cellsOf 3)) = xs[1]? := hx 1 _ rfl
        match cs, hcl, xs, hxl with
        | [x0, x1], _, [y0, y1], _ =>
          simp only [cells_in, List.drop_zero, List.drop_succ_cons, List.take_succ_cons, List.take_zero, List.getElem?_cons_zero, List.getElem?_cons_succ] at f0 f1
          obtain ⟨v0, e0, _, g0⟩ := DataW.trod_int Try.underlying3 f0
          obtain ⟨v1, e1, _, g1⟩ := DataW.trod_int Try.underlying3 f1
          simp only [List.cons.injEq, and_true] at e0 e1
          subst e0 e1
          exact ⟨⟨v0, v1⟩, fun _ => ⟨by have := hat 0 (by omega); simpa [Addr.add] using this, hat 1 (by omega)⟩⟩
      · exact ⟨⟨0, 0⟩, fun h => absurd h hj⟩
    obtain ⟨f, hf⟩ := Classical.axiomOfChoice each
    refine ⟨(List.range n).map f, by simp, some a, c, by simp, by simp; exact hl, fun e => (by cases e), fun hp => ?_⟩
    simp only [List.length_map, List.length_range] at hp
    obtain ⟨b, off, spot⟩ := a
    have hs0 := (hf 0 hp).1
    have hspot : spot = none := by simpa [Addr.add] using World.cell?_spot hs0
    subst hspot
    refine ⟨b, off, rfl, lt_of_cell (by simpa [Addr.add] using hs0), fun j p hj => ?_⟩
    have hjn : j < n := by have := (List.getElem?_eq_some_iff.1 hj).1; simpa using this
    have ep : p = f j := by
      rw [List.getElem?_map, List.getElem?_range hjn] at hj
      simpa using hj.symm
    obtain ⟨d0, d1⟩ := hf j hjn
    have ad : ∀ i, (({ block := b, off := off, spot := none } : Addr).add (j * 2)).add i = ⟨b, off + j * 2 + i, none⟩ := fun i => by rw [add_plain, add_plain]
    rw [ad] at d1
    rw [add_plain] at d0
    rw [ep]
    exact ⟨d0, d1⟩
section
variable {W wA : World} {t : Nat} {S : Nat → Prop} {z : List WrI} {v u : Value} {l r : List PrI} {lo hi : Int} {B B2 c : Nat} {A : Option Addr}
set_option maxRecDepth 1000000 in
set_option maxHeartbeats 16000000 in
theorem tail4 { s0 s4 s5 s6 s7 s8 s9 s10 s11 s13 s14 s15 s16 s17 s18 s19 s20 s21 s22 s23 s24 s26 s27 s28 s29 s30 s31 s32 s33 s34 s35 s36 s37 s38 s39 s40 s41 s42 s43 s44 s45 s46 s47 s48 s49 s50 s51 s52 s53 s54 s55 s56 s57 s58 s59 s60 s61 s62 s63 s64 s65 s66 s67 s68 s69 s70 s71 s72 s73 s74 s75 s76 s77 s78 s79 s80 s81 s82 s83 s84 s85 s86 s87 s88 s89 s90 s91 s92 s93 s94 s95 s96 s97 s98 s99 s100 s101 s102 s103 s104 s105 s106 s107 s108 s109 s110 s111 s112 s113 s114 s115 s116 s117 s118 s119 s120 s121 s122 s123 s124 s125 s126 s127 s128 s129 s130 s131 s132 s133 s134 s135 s136 s137 s138 s139 s140 s141 s142 s143 s144 s145 s146 s147 s148 s149 s150 s151 s152 s153 s154 s155 s156 s157 s158 s159 s160 s161 s162 s163 s164 s165 s166 s167 s168 s169 s170 s171 s172 s173 s174 s175 s176 s177 s178 s179 s180 s181 s182 s183 s184 s185 s186 s187 s188 s189 s190 s191 s192 s193 s194 s195 s196 s197 s198 s199 s200 s201 s202 s203 s204 s205 s206 s207 s208 s209 s210 s211 s212 s213 s214 s215 s216 s217 s218 s219 s220 s221 s222 s223 s224 s225 s226 s227 s228 s229 s230 s231 s232 s233 s234 s235 s236 s237 s238 s239 s240 s241 s242 s243 s244 s245 s246 s247 s248 s249 s250 s251 s252 s253 s254 s255 s256 s257 s258 s259 s260 s261 s262 s263 s264 s265 s266 s267 s268 s269 s270 s271 s272 s273 s274 s275 s276 s277 s278 s279 s280 s281 s282 s283 s284 s285 s286 s287 s288 s289 s290 s291 s292 s293 s294 s295 s296 s297 s298 s299 s300 s301 s302 s303 s304 s305 s306 s307 s308 s309 s310 s311 s312 s313 s314 s315 s316 s317 s318 s319 s320 s321 s322 s323 s324 s325 s326 s327 s328 s329 s330 s331 s332 s333 s334 s335 s336 s337 s338 s339 s340 s341 : Value}
    (hp : LiesP wA (.slice A l.length c) l) (o1 : OwnW B wA v z) (ou : OwnP B2 wA u r) (er : r = mergeW (wsFrom z lo hi 0 64) l) (lr : r.length ≤ 200) (zl : z.length ≤ 60) (nd : (z.map WrI.k).Nodup) (ll : l.length ≤ 100) (bW : Below W.heap.size W wA) :
    Code.wp Try.prog cT4 (bodyPost Try.prog Try.f5 fun e w' => e = .returned (.bool true) ∧ Below W.heap.size W w') ⟨#[s0, .slice A l.length c, .int .i64 lo, .int .i64 hi, s4, s5, s6, s7, s8, s9, s10, s11, v, s13, s14, s15, s16, s17, s18, s19, s20, s21, s22, s23, s24, u, s26, s27, s28, s29, s30, s31, s32, s33, s34, s35, s36, s37, s38, s39, s40, s41, s42, s43, s44, s45, s46, s47, s48, s49, s50, s51, s52, s53, s54, s55, s56, s57, s58, s59, s60, s61, s62, s63, s64, s65, s66, s67, s68, s69, s70, s71, s72, s73, s74, s75, s76, s77, s78, s79, s80, s81, s82, s83, s84, s85, s86, s87, s88, s89, s90, s91, s92, s93, s94, s95, s96, s97, s98, s99, s100, s101, s102, s103, s104, s105, s106, s107, s108, s109, s110, s111, s112, s113, s114, s115, s116, s117, s118, s119, s120, s121, s122, s123, s124, s125, s126, s127, s128, s129, s130, s131, s132, s133, s134, s135, s136, s137, s138, s139, s140, s141, s142, s143, s144, s145, s146, s147, s148, s149, s150, s151, s152, s153, s154, s155, s156, s157, s158, s159, s160, s161, s162, s163, s164, s165, s166, s167, s168, s169, s170, s171, s172, s173, s174, s175, s176, s177, s178, s179, s180, s181, s182, s183, s184, s185, s186, s187, s188, s189, s190, s191, s192, s193, s194, s195, s196, s197, s198, s199, s200, s201, s202, s203, s204, s205, s206, s207, s208, s209, s210, s211, s212, s213, s214, s215, s216, s217, s218, s219, s220, s221, s222, s223, s224, s225, s226, s227, s228, s229, s230, s231, s232, s233, s234, s235, s236, s237, s238, s239, s240, s241, s242, s243, s244, s245, s246, s247, s248, s249, s250, s251, s252, s253, s254, s255, s256, s257, s258, s259, s260, s261, s262, s263, s264, s265, s266, s267, s268, s269, s270, s271, s272, s273, s274, s275, s276, s277, s278, s279, s280, s281, s282, s283, s284, s285, s286, s287, s288, s289, s290, s291, s292, s293, s294, s295, s296, s297, s298, s299, s300, s301, s302, s303, s304, s305, s306, s307, s308, s309, s310, s311, s312, s313, s314, s315, s316, s317, s318, s319, s320, s321, s322, s323, s324, s325, s326, s327, s328, s329, s330, s331, s332, s333, s334, s335, s336, s337, s338, s339, s340, s341], []⟩ wA := by
  subst er
  have HP := Lib.hid hp
  have OU := Lib.hid ou
  conv => arg 2; whnf
  dsimp only
  go_upto_block 6 with fail
  rename_i K5 hK5
  have HK := Lib.hid hK5
  clear hK5 ou
  go_cut [26, 27] from 234 to 333 (fun vw iv wx => RXK wA l (mergeW (wsFrom z lo hi 0 64) l) vw iv wx)
  case first =>
    rename_i JX KX hJX hKX
    exact keyLoop6 hJX hKX hp o1 zl nd rfl ll
  case rest =>
    obtain ⟨i, rfl, R, h1, h2, h3, h4, h5⟩ := hcut
    have hK5 := HK.out
    have hd := (hp.same h3).drop i h1
    have hc : l.length ≤ c := by obtain ⟨_, _, e, h, _⟩ := hp; cases e; exact h
    obtain ⟨Ad, eA⟩ : ∃ Ad, (if c = i then A else Option.map (fun x => x.add (i * 2)) A) = Ad := ⟨_, rfl⟩
    rw [eA] at hd
    have lRL : R.length + (l.drop i).length ≤ 100000 := by rw [List.length_drop]; omega
    have hv : R ++ mergeW [] (l.drop i) = R ++ l.drop i := rfl
    rw [hv] at h4
    have H4 := Lib.hid h4
    have H2 := Lib.hid h2
    have H3 := Lib.hid h3
    clear HK hp o1 h2 h3 h4 hv nd
    refine hK5 _ _ ?_
    clear hK5
    go_wp2_with (with_reducible refine wp_stop 338 rfl ?_)
    intro _
    refine wp_appP rfl (.tmp 334) (.tmp 337) rfl wA.heap.size H3.out.size _ R rfl H2.out _ (l.drop i) rfl hd lRL ?_
    intro u7 w5 o5 k7
    rw [H4.out] at o5
    have K7 := H3.out.older k7 (fun g hg => (OwnP.lt H2.out hg).1)
    have hs := sameP_lies (OwnP.lies (OwnP.keep OU.out K7 (by simp))) (OwnP.lies o5) (by omega)
    have bF := bW.trans (K7.below bW.size (by simp))
    clear o5 k7 K7 hd OU
    go_wp2_with fail
    refine hs.mono ?_
    rintro e w6 ⟨rfl, d, rfl⟩
    clear hs
    go_wp2
    go_ret
    exact ⟨rfl, bF.trans ((drewN_keep (fun _ => False) w5 d).below bF.size (by simp))⟩
set_option maxRecDepth 1000000 in
set_option maxHeartbeats 16000000 in
theorem tail3 { s0 s4 s5 s6 s7 s8 s9 s10 s13 s14 s15 s16 s17 s18 s19 s20 s21 s22 s23 s24 s25 s26 s27 s28 s29 s30 s31 s32 s33 s34 s35 s36 s37 s38 s39 s40 s41 s42 s43 s44 s45 s46 s47 s48 s49 s50 s51 s52 s53 s54 s55 s56 s57 s58 s59 s60 s61 s62 s63 s64 s65 s66 s67 s68 s69 s70 s71 s72 s73 s74 s75 s76 s77 s78 s79 s80 s81 s82 s83 s84 s85 s86 s87 s88 s89 s90 s91 s92 s93 s94 s95 s96 s97 s98 s99 s100 s101 s102 s103 s104 s105 s106 s107 s108 s109 s110 s111 s112 s113 s114 s115 s116 s117 s118 s119 s120 s121 s122 s123 s124 s125 s126 s127 s128 s129 s130 s131 s132 s133 s134 s135 s136 s137 s138 s139 s140 s141 s142 s143 s144 s145 s146 s147 s148 s149 s150 s151 s152 s153 s154 s155 s156 s157 s158 s159 s160 s161 s162 s163 s164 s165 s166 s167 s168 s169 s170 s171 s172 s173 s174 s175 s176 s177 s178 s179 s180 s181 s182 s183 s184 s185 s186 s187 s188 s189 s190 s191 s192 s193 s194 s195 s196 s197 s198 s199 s200 s201 s202 s203 s204 s205 s206 s207 s208 s209 s210 s211 s212 s213 s214 s215 s216 s217 s218 s219 s220 s221 s222 s223 s224 s225 s226 s227 s228 s229 s230 s231 s232 s233 s234 s235 s236 s237 s238 s239 s240 s241 s242 s243 s244 s245 s246 s247 s248 s249 s250 s251 s252 s253 s254 s255 s256 s257 s258 s259 s260 s261 s262 s263 s264 s265 s266 s267 s268 s269 s270 s271 s272 s273 s274 s275 s276 s277 s278 s279 s280 s281 s282 s283 s284 s285 s286 s287 s288 s289 s290 s291 s292 s293 s294 s295 s296 s297 s298 s299 s300 s301 s302 s303 s304 s305 s306 s307 s308 s309 s310 s311 s312 s313 s314 s315 s316 s317 s318 s319 s320 s321 s322 s323 s324 s325 s326 s327 s328 s329 s330 s331 s332 s333 s334 s335 s336 s337 s338 s339 s340 s341 : Value}
    (hp : LiesP W (.slice A l.length c) l) (R : A14 W wA t S z v z) (zl : z.length ≤ 60) (ll : l.length ≤ 100) :
    Code.wp Try.prog cT3 (bodyPost Try.prog Try.f5 fun e w' => e = .returned (.bool true) ∧ Below W.heap.size W w') ⟨#[s0, .slice A l.length c, .int .i64 lo, .int .i64 hi, s4, s5, s6, s7, s8, s9, s10, .pointer (some ⟨t, 0, none⟩), v, s13, s14, s15, s16, s17, s18, s19, s20, s21, s22, s23, s24, s25, s26, s27, s28, s29, s30, s31, s32, s33, s34, s35, s36, s37, s38, s39, s40, s41, s42, s43, s44, s45, s46, s47, s48, s49, s50, s51, s52, s53, s54, s55, s56, s57, s58, s59, s60, s61, s62, s63, s64, s65, s66, s67, s68, s69, s70, s71, s72, s73, s74, s75, s76, s77, s78, s79, s80, s81, s82, s83, s84, s85, s86, s87, s88, s89, s90, s91, s92, s93, s94, s95, s96, s97, s98, s99, s100, s101, s102, s103, s104, s105, s106, s107, s108, s109, s110, s111, s112, s113, s114, s115, s116, s117, s118, s119, s120, s121, s122, s123, s124, s125, s126, s127, s128, s129, s130, s131, s132, s133, s134, s135, s136, s137, s138, s139, s140, s141, s142, s143, s144, s145, s146, s147, s148, s149, s150, s151, s152, s153, s154, s155, s156, s157, s158, s159, s160, s161, s162, s163, s164, s165, s166, s167, s168, s169, s170, s171, s172, s173, s174, s175, s176, s177, s178, s179, s180, s181, s182, s183, s184, s185, s186, s187, s188, s189, s190, s191, s192, s193, s194, s195, s196, s197, s198, s199, s200, s201, s202, s203, s204, s205, s206, s207, s208, s209, s210, s211, s212, s213, s214, s215, s216, s217, s218, s219, s220, s221, s222, s223, s224, s225, s226, s227, s228, s229, s230, s231, s232, s233, s234, s235, s236, s237, s238, s239, s240, s241, s242, s243, s244, s245, s246, s247, s248, s249, s250, s251, s252, s253, s254, s255, s256, s257, s258, s259, s260, s261, s262, s263, s264, s265, s266, s267, s268, s269, s270, s271, s272, s273, s274, s275, s276, s277, s278, s279, s280, s281, s282, s283, s284, s285, s286, s287, s288, s289, s290, s291, s292, s293, s294, s295, s296, s297, s298, s299, s300, s301, s302, s303, s304, s305, s306, s307, s308, s309, s310, s311, s312, s313, s314, s315, s316, s317, s318, s319, s320, s321, s322, s323, s324, s325, s326, s327, s328, s329, s330, s331, s332, s333, s334, s335, s336, s337, s338, s339, s340, s341], []⟩ wA := by
  obtain ⟨nd, kb⟩ : (z.map WrI.k).Nodup ∧ ∀ x ∈ z, 0 ≤ x.k ∧ x.k ≤ 63 := by
    obtain ⟨v0, a, _⟩ := R.r.a
    exact ⟨a.nd, fun x hx => ⟨(a.kb x hx).1, (a.kb x hx).2.1⟩⟩
  have hpA := hp.same (Keep.of_below R.r.b (fun _ => False))
  conv => arg 2; whnf
  dsimp only
  go_wp2_with fail
  refine (wr_over R.r _ l hpA (by omega) lo hi).mono ?_
  rintro e w1 ⟨u, r, S1, rfl, ou, du, iy, inn, C1, k1⟩
  have R1 := R.step C1 k1
  have hp1 := hp.same (Keep.of_below R1.r.b (fun _ => False))
  clear C1 k1 R hpA
  by_cases hr : Rising l
  · have hI := iy hr
    have er := hI.eq ((within_all lo hi kb).over hr) (fun key => rfl)
    have lr := hI.len
    have ha := ris_any hp1 true ⟨fun _ => hr, fun _ => rfl⟩ (by omega)
    clear iy inn
    go_upto_region 41 with fail
    rename_i Ko hKo K5 hK5
    have HK := Lib.hid hKo
    clear hKo
    go_wp2_with fail
    refine ha.mono ?_
    rintro e w2 ⟨rfl, d, rfl⟩
    clear ha
    have k2 := drewN_keep (fun _ => False) w1 d
    go_wp2_with fail
    exact HK.out _ _ (tail4 (W := W) (hp1.same k2) (R1.quiet k2).o (OwnP.keep ou k2 (by simp)) er (by omega) zl nd ll (R1.quiet k2).below)
  · have er := inn hr
    subst er
    have ha := ris_any hp1 false ⟨fun e => (by cases e), fun e => absurd e hr⟩ (by omega)
    obtain ⟨Au, cu, rfl, hu⟩ : ∃ A c, u = .slice A 0 c ∧ True := by
      obtain ⟨A, c, e, _⟩ := OwnP.lies ou
      exact ⟨A, c, e, trivial⟩
    have bF := R1.below
    clear iy inn ou du hp1 R1
    go_wp2_with fail
    refine ha.mono ?_
    rintro e w2 ⟨rfl, d, rfl⟩
    clear ha
    go_wp2
    go_ret
    exact ⟨rfl, bF.trans ((drewN_keep (fun _ => False) w1 d).below bF.size (by simp))⟩
end
end Go.Proofs.Ythojmdjcfkadoaa.writesPlays
