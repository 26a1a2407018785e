/- ModelPlays: what is asked of both behind a call. Conditions: what the parts before it have laid. -/
import Derived.Test.YtkkjofefjepodaaLawModelPlaysZab
import Derived.Test.YtkkjofefjepodaaLawModelPlaysZbb
namespace Go.Proofs.Ytkkjofefjepodaa.modelPlays
open Go.ChangeShapes Go.WideShapes Go.ChangeAt Go.RowKit
set_option linter.unusedVariables false
set_option linter.unusedSimpArgs false
set_option maxRecDepth 1000000 in
set_option maxHeartbeats 16000000 in
theorem r1 {W wc : World} {m r N k : Nat} {S5 T5 : Nat → Prop} {y : MoI} {kd s lv ok oy oh ov : Int} {Q : Exit → Act → World → Prop} {J K : Act → World → Prop} { s0 s1 s2 s3 s4 s5 s6 s7 s9 s13 s14 s15 s16 s17 s18 s19 s20 s21 s22 s23 s24 s25 s26 s27 s28 s29 s30 s31 s32 s33 s34 s35 s36 s37 s38 s39 s40 s41 s42 s43 s44 s45 s46 s47 s48 s49 s50 s51 s52 s53 s54 s55 s56 s57 s58 s59 s60 s61 s62 s63 s64 s65 s66 s67 s68 s69 s70 s71 s72 s73 s74 s75 s76 s77 s78 s79 s80 s81 s82 s83 s84 s85 s86 s87 s88 s89 s90 s91 s92 s93 s94 s95 s96 s97 s98 s99 s100 s101 s102 s103 s104 s105 s106 s107 s108 s109 s110 s111 s112 s113 s114 s115 s116 s117 s118 s119 s120 s121 s122 s123 s124 s125 s126 s127 s128 s129 s130 s131 s132 s133 s134 s135 s136 s137 s138 s139 s140 s141 s142 s143 s144 s145 s146 s147 s148 s149 s150 s151 s152 s153 s154 s155 s156 s157 s158 s159 s160 s161 s162 s163 s164 s165 s166 s167 s168 s169 s170 s171 s172 s173 s174 s175 s176 s177 s178 s179 s180 s181 s182 s183 s184 s185 s186 s187 s188 s189 s190 s191 s192 s193 s194 : Value} (hJ : ∀ a' w', PMR W m r N k s0 s1 s2 s3 s4 s5 s6 s7 s9 s13 s14 s15 s16 s17 s18 s19 s20 s21 s22 s23 s24 s25 s26 s27 s28 s29 s30 s31 s32 s33 s34 s35 s36 s37 s38 s39 s40 s41 s42 s43 s44 s45 s46 s47 s48 s49 s50 s51 s52 s53 s54 s55 s56 s57 s58 s59 s60 s61 s62 s63 s64 s65 s66 s67 s68 s69 s70 s71 s72 s73 s74 s75 s76 s77 s78 s79 s80 s81 s82 s83 s84 s85 s86 s87 s88 s89 s90 s91 s92 s93 s94 s95 s96 s97 s98 s99 s100 s101 s102 s103 s104 s105 s106 s107 s108 s109 s110 s111 s112 s113 s114 s115 s116 s117 s118 s119 s120 s121 s122 s180 s181 s182 s183 s184 s185 s186 s187 s188 s189 s190 s191 s192 s193 s194 a' w' → J a' w') (hK : ∀ a' w', Met J a' w' → K a' w') (hQp : RowKit.Hid (∀ c a d v w, Q (.panic c) (a.put d v) w → Q (.panic c) a w))
  (R5 : Rnd W wc m S5 r T5 y y N ⟨kd, s, lv, ok, oy, oh, ov⟩) (b1 : I64 s) (k80 : k < 80) (h4 : k % 4 ≠ 0) : Code.wp Try.prog cR (Exit.then K Q) ⟨#[s0, s1, s2, s3, s4, s5, s6, s7, .pointer (some ⟨m, 0, none⟩), s9, .pointer (some ⟨r, 0, none⟩), .int .i64 k, .pointer (some ⟨N, 0, none⟩), s13, s14, s15, s16, s17, s18, s19, s20, s21, s22, s23, s24, s25, s26, s27, s28, s29, s30, s31, s32, s33, s34, s35, s36, s37, s38, s39, s40, s41, s42, s43, s44, s45, s46, s47, s48, s49, s50, s51, s52, s53, s54, s55, s56, s57, s58, s59, s60, s61, s62, s63, s64, s65, s66, s67, s68, s69, s70, s71, s72, s73, s74, s75, s76, s77, s78, s79, s80, s81, s82, s83, s84, s85, s86, s87, s88, s89, s90, s91, s92, s93, s94, s95, s96, s97, s98, s99, s100, s101, s102, s103, s104, s105, s106, s107, s108, s109, s110, s111, s112, s113, s114, s115, s116, s117, s118, s119, s120, s121, s122, s123, s124, s125, s126, s127, s128, s129, s130, s131, s132, s133, s134, s135, s136, s137, s138, s139, s140, s141, s142, s143, s144, s145, s146, s147, s148, s149, s150, s151, s152, s153, s154, s155, s156, s157, s158, s159, s160, s161, s162, s163, s164, s165, s166, s167, s168, s169, s170, s171, s172, s173, s174, s175, s176, s177, s178, s179, s180, s181, s182, s183, s184, s185, s186, s187, s188, s189, s190, s191, s192, s193, s194], []⟩ wc := by
 obtain ⟨A, c, cV⟩ := R5.d.rm.vers
 have cT := R5.d.rm.time
 have cS := R5.bx.c1
 dsimp only at cS
 obtain ⟨L, eL⟩ : ∃ L, y.v.length = L := ⟨_, rfl⟩
 obtain ⟨tm, eT⟩ : ∃ t, y.time = t := ⟨_, rfl⟩
 have tb : 0 ≤ tm ∧ tm ≤ 1099511627776 := by have := R5.d.md.gd.time; have := R5.d.md.gd.conf; omega
 obtain ⟨l, ids, lvs, st, sr, ops, hst⟩ := stat_form y s
 have ll := live_le y
 have pl := prs_le R5.d.md.gd tm
 rw [eL] at cV
 rw [eT] at cT
 have EL := Lib.hid eL
 have ET := Lib.hid eT
 have HST := Lib.hid hst
 have LL := Lib.hid ll
 have PL := Lib.hid pl
 have SN := st_neq
 clear eL eT hst ll pl
 obtain ⟨z, hz⟩ : ∃ z : Nat, k % 4 = z := ⟨_, rfl⟩
 have m1 : (k : Int).tmod 4 = (z : Int) := by rw [Int.tmod_eq_emod_of_nonneg (by omega)]; omega
 have m2 : (k : Int) % 4 = (z : Int) := by omega
 have R5d := R5.quiet (Keep.refl (fun _ => False) wc).drew
 clear R5
 have z4 : ((z : Int) == 0) = false := by simp; omega
 clear hz h4
 conv => arg 2; whnf
 dsimp only
 go_wp2_with fail
 refine wp_region_held_drew (S := (fun w' => w'.cell? ⟨r, 2, none⟩ = some (.slice A L c) ∧ w'.cell? ⟨r, 51, none⟩ = some (.int .u64 tm) ∧ w'.cell? ⟨N, 1, none⟩ = some (.int .i64 s))) (by kernel_rfl) ⟨cV, cT, cS⟩ (fun hHeld => ?_)
 refine tk 0 (v := ?qvu1210) ?qyu1210 ?qru1210 (hQ := by intro _ _ _ h; exact hQp.out _ _ _ _ _ h); case qyu1210 => ((intro w hSw; (try dsimp only at hSw); go_simp); try (with_reducible rfl))
 (try simp only [tA, tS, tZ, Act.put, uA, uS, uZ])
 refine tk 2 (v := ?qvu1211) ?qyu1211 ?qru1211 (hQ := by intro _ _ _ h; exact hQp.out _ _ _ _ _ h); case qyu1211 => ((intro w hSw; (try dsimp only at hSw); go_simp); try (with_reducible rfl))
 (try simp only [tA, tS, tZ, Act.put, uA, uS, uZ])
 refine tk 3 (v := ?qvu1212) ?qyu1212 ?qru1212 (hQ := by intro _ _ _ h; exact hQp.out _ _ _ _ _ h); case qyu1212 => ((intro w hSw; (try dsimp only at hSw); go_simp); try (with_reducible rfl))
 (try simp only [tA, tS, tZ, Act.put, uA, uS, uZ])
 refine tk 4 (v := ?qvu1213) ?qyu1213 ?qru1213 (hQ := by intro _ _ _ h; exact hQp.out _ _ _ _ _ h); case qyu1213 => ((intro w hSw; (try dsimp only at hSw); go_simp); try (with_reducible rfl))
 (try simp only [tA, tS, tZ, Act.put, uA, uS, uZ])
 refine tk 5 (v := ?qvu1214) ?qyu1214 ?qru1214 (hQ := by intro _ _ _ h; exact hQp.out _ _ _ _ _ h); case qyu1214 => ((intro w hSw; (try dsimp only at hSw); go_simp); try (with_reducible rfl))
 (try simp only [tA, tS, tZ, Act.put, uA, uS, uZ])
 refine tk 6 (v := ?qvu1215) ?qyu1215 ?qru1215 (hQ := by intro _ _ _ h; exact hQp.out _ _ _ _ _ h); case qyu1215 => ((intro w hSw; (try dsimp only at hSw); go_simp); try (with_reducible rfl))
 (try simp only [tA, tS, tZ, Act.put, uA, uS, uZ])
 refine wpAnyH_ready (rs := [1]) (by kernel_rfl) (by simp) ?_
 refine AllReadyH.cons rfl (fun K hK => ?_) AllReadyH.nil
 go_simp
 refine (md_used R5d.d.md L (congrArg _ EL.out)).mono ?_
 rintro e v1 ⟨rfl, Sa, Ma, ka⟩
 have R1 := R5d.stepM Ma ka
 refine hK.out _ _ ⟨ka.1.cell hHeld.1 R5d.d.nr, ka.1.cell hHeld.2.1 R5d.d.nr, ka.1.cell hHeld.2.2 R5d.n1⟩ (fun hHeld => ?_)
 clear hK K
 (try simp only [tA, tS, tZ, Act.put, uA, uS, uZ])
 refine tk 7 (v := ?qvu1216) ?qyu1216 ?qru1216 (hQ := by intro _ _ _ h; exact hQp.out _ _ _ _ _ h); case qyu1216 => ((intro w hSw; (try dsimp only at hSw); go_simp); try (with_reducible rfl))
 (try simp only [tA, tS, tZ, Act.put, uA, uS, uZ])
 refine tk 8 (v := ?qvu1217) ?qyu1217 ?qru1217 (hQ := by intro _ _ _ h; exact hQp.out _ _ _ _ _ h); case qyu1217 => ((intro w hSw; (try dsimp only at hSw); go_simp); try (with_reducible rfl))
 (try simp only [tA, tS, tZ, Act.put, uA, uS, uZ])
 refine tk 9 (v := ?qvu1218) ?qyu1218 ?qru1218 (hQ := by intro _ _ _ h; exact hQp.out _ _ _ _ _ h); case qyu1218 => ((intro w hSw; (try dsimp only at hSw); go_simp); try (with_reducible rfl))
 (try simp only [tA, tS, tZ, Act.put, uA, uS, uZ])
 refine tk 11 (v := ?qvu1219) ?qyu1219 ?qru1219 (hQ := by intro _ _ _ h; exact hQp.out _ _ _ _ _ h); case qyu1219 => ((intro w hSw; (try dsimp only at hSw); go_simp); try (with_reducible rfl))
 (try simp only [tA, tS, tZ, Act.put, uA, uS, uZ])
 refine tk 12 (v := ?qvu1220) ?qyu1220 ?qru1220 (hQ := by intro _ _ _ h; exact hQp.out _ _ _ _ _ h); case qyu1220 => ((intro w hSw; (try dsimp only at hSw); go_simp); try (with_reducible rfl))
 (try simp only [tA, tS, tZ, Act.put, uA, uS, uZ])
 refine tk 13 (v := ?qvu1221) ?qyu1221 ?qru1221 (hQ := by intro _ _ _ h; exact hQp.out _ _ _ _ _ h); case qyu1221 => ((intro w hSw; (try dsimp only at hSw); go_simp); try (with_reducible rfl))
 (try simp only [tA, tS, tZ, Act.put, uA, uS, uZ])
 refine tk 14 (v := ?qvu1222) ?qyu1222 ?qru1222 (hQ := by intro _ _ _ h; exact hQp.out _ _ _ _ _ h); case qyu1222 => ((intro w hSw; (try dsimp only at hSw); go_simp); try (with_reducible rfl))
 (try simp only [tA, tS, tZ, Act.put, uA, uS, uZ])
 refine wpAnyH_ready (rs := [10]) (by kernel_rfl) (by simp) ?_
 refine AllReadyH.cons rfl (fun K hK => ?_) AllReadyH.nil
 go_simp
 refine (md_now R1.d.md tm ET.out).mono ?_
 rintro e v2 ⟨rfl, Sb, Mb, kb⟩
 have R2 := R1.stepM Mb kb
 refine hK.out _ _ ⟨kb.1.cell hHeld.1 R1.d.nr, kb.1.cell hHeld.2.1 R1.d.nr, kb.1.cell hHeld.2.2 R1.n1⟩ (fun hHeld => ?_)
 clear hK K
 (try simp only [tA, tS, tZ, Act.put, uA, uS, uZ])
 refine tk 15 (v := ?qvu1223) ?qyu1223 ?qru1223 (hQ := by intro _ _ _ h; exact hQp.out _ _ _ _ _ h); case qyu1223 => ((intro w hSw; (try dsimp only at hSw); go_simp); try (with_reducible rfl))
 (try simp only [tA, tS, tZ, Act.put, uA, uS, uZ])
 refine tk 16 (v := ?qvu1224) ?qyu1224 ?qru1224 (hQ := by intro _ _ _ h; exact hQp.out _ _ _ _ _ h); case qyu1224 => ((intro w hSw; (try dsimp only at hSw); go_simp); try (with_reducible rfl))
 (try simp only [tA, tS, tZ, Act.put, uA, uS, uZ])
 refine tk 17 (v := ?qvu1225) ?qyu1225 ?qru1225 (hQ := by intro _ _ _ h; exact hQp.out _ _ _ _ _ h); case qyu1225 => ((intro w hSw; (try dsimp only at hSw); go_simp); try (with_reducible rfl))
 (try simp only [tA, tS, tZ, Act.put, uA, uS, uZ])
 refine tk 18 (v := ?qvu1226) ?qyu1226 ?qru1226 (hQ := by intro _ _ _ h; exact hQp.out _ _ _ _ _ h); case qyu1226 => ((intro w hSw; (try dsimp only at hSw); go_simp); try (with_reducible rfl))
 (try simp only [tA, tS, tZ, Act.put, uA, uS, uZ])
 refine tk 20 (v := ?qvu1227) ?qyu1227 ?qru1227 (hQ := by intro _ _ _ h; exact hQp.out _ _ _ _ _ h); case qyu1227 => ((intro w hSw; (try dsimp only at hSw); go_simp); try (with_reducible rfl))
 (try simp only [tA, tS, tZ, Act.put, uA, uS, uZ])
 refine wpAnyH_ready (rs := [19]) (by kernel_rfl) (by simp) ?_
 refine AllReadyH.cons rfl (fun K hK => ?_) AllReadyH.nil
 go_simp
 refine (md_live R2.d.md y.live rfl).mono ?_
 rintro e v3 ⟨u3, Sc, rfl, o3, n3, Mc, kc⟩
 have R3 := R2.stepM Mc kc
 refine hK.out _ _ ⟨kc.1.cell hHeld.1 R2.d.nr, kc.1.cell hHeld.2.1 R2.d.nr, kc.1.cell hHeld.2.2 R2.n1⟩ (fun hHeld => ?_)
 clear hK K
 (try simp only [tA, tS, tZ, Act.put, uA, uS, uZ])
 refine wpAnyH_ready (rs := [21]) (by kernel_rfl) (by simp) ?_
 refine AllReadyH.cons rfl (fun K hK => ?_) AllReadyH.nil
 go_simp
 refine (rm_live R3.d.rm y.live rfl).mono ?_
 rintro e v4 ⟨u4, rfl, o4, _, kd⟩
 have R4 := R3.quiet kd
 have o3b := OwnN.keep o3 kd (fun _ _ => id)
 refine hK.out _ _ ⟨kd.cell hHeld.1 id, kd.cell hHeld.2.1 id, kd.cell hHeld.2.2 id⟩ (fun hHeld => ?_)
 clear hK K
 (try simp only [tA, tS, tZ, Act.put, uA, uS, uZ])
 refine wpAnyH_ready (rs := [22]) (by kernel_rfl) (by simp) ?_
 refine AllReadyH.cons rfl (fun K hK => ?_) AllReadyH.nil
 go_simp
 refine (sameN_own o3b o4 LL.out).mono ?_
 rintro e v5 ⟨rfl, d5, rfl⟩
 have ke := drewN_keep (fun _ => False) v4 d5
 have R5 := R4.quiet ke
 refine hK.out _ _ ⟨ke.cell hHeld.1 id, ke.cell hHeld.2.1 id, ke.cell hHeld.2.2 id⟩ (fun hHeld => ?_)
 clear hK K
 (try simp only [tA, tS, tZ, Act.put, uA, uS, uZ])
 refine tk 23 (v := ?qvu1228) ?qyu1228 ?qru1228 (hQ := by intro _ _ _ h; exact hQp.out _ _ _ _ _ h); case qyu1228 => ((intro w hSw; (try dsimp only at hSw); go_simp); try (with_reducible rfl))
 (try simp only [tA, tS, tZ, Act.put, uA, uS, uZ])
 refine tk 24 (v := ?qvu1229) ?qyu1229 ?qru1229 (hQ := by intro _ _ _ h; exact hQp.out _ _ _ _ _ h); case qyu1229 => ((intro w hSw; (try dsimp only at hSw); go_simp); try (with_reducible rfl))
 (try simp only [tA, tS, tZ, Act.put, uA, uS, uZ])
 refine tk 25 (v := ?qvu1230) ?qyu1230 ?qru1230 (hQ := by intro _ _ _ h; exact hQp.out _ _ _ _ _ h); case qyu1230 => ((intro w hSw; (try dsimp only at hSw); go_simp); try (with_reducible rfl))
 (try simp only [tA, tS, tZ, Act.put, uA, uS, uZ])
 refine tk 26 (v := ?qvu1231) ?qyu1231 ?qru1231 (hQ := by intro _ _ _ h; exact hQp.out _ _ _ _ _ h); case qyu1231 => ((intro w hSw; (try dsimp only at hSw); go_simp); try (with_reducible rfl))
 (try simp only [tA, tS, tZ, Act.put, uA, uS, uZ])
 refine tk 27 (v := ?qvu1232) ?qyu1232 ?qru1232 (hQ := by intro _ _ _ h; exact hQp.out _ _ _ _ _ h); case qyu1232 => ((intro w hSw; (try dsimp only at hSw); go_simp); try (with_reducible rfl))
 (try simp only [tA, tS, tZ, Act.put, uA, uS, uZ])
 refine tk 28 (v := ?qvu1233) ?qyu1233 ?qru1233 (hQ := by intro _ _ _ h; exact hQp.out _ _ _ _ _ h); case qyu1233 => ((intro w hSw; (try dsimp only at hSw); go_simp); try (with_reducible rfl))
 (try simp only [tA, tS, tZ, Act.put, uA, uS, uZ])
 refine tk 30 (v := ?qvu1234) ?qyu1234 ?qru1234 (hQ := by intro _ _ _ h; exact hQp.out _ _ _ _ _ h); case qyu1234 => ((intro w hSw; (try dsimp only at hSw); go_simp); try (with_reducible rfl))
 (try simp only [tA, tS, tZ, Act.put, uA, uS, uZ])
 refine tk 31 (v := ?qvu1235) ?qyu1235 ?qru1235 (hQ := by intro _ _ _ h; exact hQp.out _ _ _ _ _ h); case qyu1235 => ((intro w hSw; (try dsimp only at hSw); go_simp); try (with_reducible rfl))
 (try simp only [tA, tS, tZ, Act.put, uA, uS, uZ])
 refine tk 32 (v := ?qvu1236) ?qyu1236 ?qru1236 (hQ := by intro _ _ _ h; exact hQp.out _ _ _ _ _ h); case qyu1236 => ((intro w hSw; (try dsimp only at hSw); go_simp); try (with_reducible rfl))
 (try simp only [tA, tS, tZ, Act.put, uA, uS, uZ])
 refine wpAnyH_ready (rs := [29]) (by kernel_rfl) (by simp) ?_
 refine AllReadyH.cons rfl (fun K hK => ?_) AllReadyH.nil
 go_simp
 refine (md_status R5.d.md s b1 _ HST.out).mono ?_
 rintro e v6 ⟨rfl, Sf, Mf, kf⟩
 have R6 := R5.stepM Mf kf
 refine hK.out _ _ ⟨kf.1.cell hHeld.1 R5.d.nr, kf.1.cell hHeld.2.1 R5.d.nr, kf.1.cell hHeld.2.2 R5.n1⟩ (fun hHeld => ?_)
 clear hK K
 (try simp only [tA, tS, tZ, Act.put, uA, uS, uZ])
 refine wpAnyH_ready (rs := [33]) (by kernel_rfl) (by simp) ?_
 refine AllReadyH.cons rfl (fun K hK => ?_) AllReadyH.nil
 go_simp
 refine (rm_status R6.d.rm s _ HST.out).mono ?_
 rintro e v7 ⟨rfl, _, kg⟩
 have R9 := R6.quiet kg
 refine hK.out _ _ ⟨kg.cell hHeld.1 id, kg.cell hHeld.2.1 id, kg.cell hHeld.2.2 id⟩ (fun hHeld => ?_)
 clear hK K
 (try simp only [tA, tS, tZ, Act.put, uA, uS, uZ])
 refine tk 34 (v := ?qvu1237) ?qyu1237 ?qru1237 (hQ := by intro _ _ _ h; exact hQp.out _ _ _ _ _ h); case qyu1237 => ((intro w hSw; (try dsimp only at hSw); go_simp); try (with_reducible rfl))
 (try simp only [tA, tS, tZ, Act.put, uA, uS, uZ])
 refine tk 35 (v := ?qvu1238) ?qyu1238 ?qru1238 (hQ := by intro _ _ _ h; exact hQp.out _ _ _ _ _ h); case qyu1238 => ((intro w hSw; (try dsimp only at hSw); go_simp); try (with_reducible rfl))
 (try simp only [tA, tS, tZ, Act.put, uA, uS, uZ])
 refine tk 36 (v := ?qvu1239) ?qyu1239 ?qru1239 (hQ := by intro _ _ _ h; exact hQp.out _ _ _ _ _ h); case qyu1239 => ((intro w hSw; (try dsimp only at hSw); go_simp); try (with_reducible rfl))
 (try simp only [tA, tS, tZ, Act.put, uA, uS, uZ])
 refine tk 37 (v := ?qvu1240) ?qyu1240 ?qru1240 (hQ := by intro _ _ _ h; exact hQp.out _ _ _ _ _ h); case qyu1240 => ((intro w hSw; (try dsimp only at hSw); go_simp); try (with_reducible rfl))
 (try simp only [tA, tS, tZ, Act.put, uA, uS, uZ])
 refine tk 38 (v := ?qvu1241) ?qyu1241 ?qru1241 (hQ := by intro _ _ _ h; exact hQp.out _ _ _ _ _ h); case qyu1241 => ((intro w hSw; (try dsimp only at hSw); go_simp); try (with_reducible rfl))
 (try simp only [tA, tS, tZ, Act.put, uA, uS, uZ])
 refine tk 39 (v := ?qvu1242) ?qyu1242 ?qru1242 (hQ := by intro _ _ _ h; exact hQp.out _ _ _ _ _ h); case qyu1242 => ((intro w hSw; (try dsimp only at hSw); go_simp); try (with_reducible rfl))
 (try simp only [tA, tS, tZ, Act.put, uA, uS, uZ])
 refine tk 40 (v := ?qvu1243) ?qyu1243 ?qru1243 (hQ := by intro _ _ _ h; exact hQp.out _ _ _ _ _ h); case qyu1243 => ((intro w hSw; (try dsimp only at hSw); go_simp); try (with_reducible rfl))
 (try simp only [tA, tS, tZ, Act.put, uA, uS, uZ])
 refine wpAnyH_take (i := 41) (v := undef) rfl (by kernel_rfl) (by kernel_rfl) (by kernel_rfl) (by intro _ _ _ h; exact hQp.out _ _ _ _ _ h) (Or.inr ⟨by rfl, rfl⟩) (by assumption) ?qru1244
 (try simp only [tA, tS, tZ, Act.put, uA, uS, uZ])
 refine wpAnyH_take (i := 42) (v := undef) rfl (by kernel_rfl) (by kernel_rfl) (by kernel_rfl) (by intro _ _ _ h; exact hQp.out _ _ _ _ _ h) (Or.inr ⟨by rfl, rfl⟩) (by assumption) ?qru1245
 (try simp only [tA, tS, tZ, Act.put, uA, uS, uZ])
 refine wpAnyH_take (i := 43) (v := undef) rfl (by kernel_rfl) (by kernel_rfl) (by kernel_rfl) (by intro _ _ _ h; exact hQp.out _ _ _ _ _ h) (Or.inr ⟨by rfl, rfl⟩) (by assumption) ?qru1246
 (try simp only [tA, tS, tZ, Act.put, uA, uS, uZ])
 refine wpAnyH_take (i := 44) (v := undef) rfl (by kernel_rfl) (by kernel_rfl) (by kernel_rfl) (by intro _ _ _ h; exact hQp.out _ _ _ _ _ h) (Or.inr ⟨by rfl, rfl⟩) (by assumption) ?qru1247
 (try simp only [tA, tS, tZ, Act.put, uA, uS, uZ])
 refine wpAnyH_take (i := 45) (v := undef) rfl (by kernel_rfl) (by kernel_rfl) (by kernel_rfl) (by intro _ _ _ h; exact hQp.out _ _ _ _ _ h) (Or.inr ⟨by rfl, rfl⟩) (by assumption) ?qru1248
 (try simp only [tA, tS, tZ, Act.put, uA, uS, uZ])
 refine wpAnyH_take (i := 46) (v := undef) rfl (by kernel_rfl) (by kernel_rfl) (by kernel_rfl) (by intro _ _ _ h; exact hQp.out _ _ _ _ _ h) (Or.inr ⟨by rfl, rfl⟩) (by assumption) ?qru1249
 (try simp only [tA, tS, tZ, Act.put, uA, uS, uZ])
 refine wpAnyH_take (i := 47) (v := undef) rfl (by kernel_rfl) (by kernel_rfl) (by kernel_rfl) (by intro _ _ _ h; exact hQp.out _ _ _ _ _ h) (Or.inr ⟨by rfl, rfl⟩) (by assumption) ?qru1250
 (try simp only [tA, tS, tZ, Act.put, uA, uS, uZ])
 refine wpAnyH_take (i := 48) (v := undef) rfl (by kernel_rfl) (by kernel_rfl) (by kernel_rfl) (by intro _ _ _ h; exact hQp.out _ _ _ _ _ h) (Or.inr ⟨by rfl, rfl⟩) (by assumption) ?qru1251
 (try simp only [tA, tS, tZ, Act.put, uA, uS, uZ])
 refine wpAnyH_take (i := 49) (v := undef) rfl (by kernel_rfl) (by kernel_rfl) (by kernel_rfl) (by intro _ _ _ h; exact hQp.out _ _ _ _ _ h) (Or.inr ⟨by rfl, rfl⟩) (by assumption) ?qru1252
 (try simp only [tA, tS, tZ, Act.put, uA, uS, uZ])
 refine wpAnyH_take (i := 50) (v := undef) rfl (by kernel_rfl) (by kernel_rfl) (by kernel_rfl) (by intro _ _ _ h; exact hQp.out _ _ _ _ _ h) (Or.inr ⟨by rfl, rfl⟩) (by assumption) ?qru1253
 (try simp only [tA, tS, tZ, Act.put, uA, uS, uZ])
 refine wpAnyH_take (i := 51) (v := undef) rfl (by kernel_rfl) (by kernel_rfl) (by kernel_rfl) (by intro _ _ _ h; exact hQp.out _ _ _ _ _ h) (Or.inr ⟨by rfl, rfl⟩) (by assumption) ?qru1254
 (try simp only [tA, tS, tZ, Act.put, uA, uS, uZ])
 refine wpAnyH_take (i := 52) (v := undef) rfl (by kernel_rfl) (by kernel_rfl) (by kernel_rfl) (by intro _ _ _ h; exact hQp.out _ _ _ _ _ h) (Or.inr ⟨by rfl, rfl⟩) (by assumption) ?qru1255
 (try simp only [tA, tS, tZ, Act.put, uA, uS, uZ])
 refine wpAnyH_take (i := 53) (v := undef) rfl (by kernel_rfl) (by kernel_rfl) (by kernel_rfl) (by intro _ _ _ h; exact hQp.out _ _ _ _ _ h) (Or.inr ⟨by rfl, rfl⟩) (by assumption) ?qru1256
 (try simp only [tA, tS, tZ, Act.put, uA, uS, uZ])
 refine wpAnyH_take (i := 54) (v := undef) rfl (by kernel_rfl) (by kernel_rfl) (by kernel_rfl) (by intro _ _ _ h; exact hQp.out _ _ _ _ _ h) (Or.inr ⟨by rfl, rfl⟩) (by assumption) ?qru1257
 (try simp only [tA, tS, tZ, Act.put, uA, uS, uZ])
 refine tk 55 (v := ?qvu1258) ?qyu1258 ?qru1258 (hQ := by intro _ _ _ h; exact hQp.out _ _ _ _ _ h); case qyu1258 => ((intro w hSw; (try dsimp only at hSw); go_simp); try (with_reducible rfl))
 (try simp only [tA, tS, tZ, Act.put, uA, uS, uZ])
 refine tk 56 (v := ?qvu1259) ?qyu1259 ?qru1259 (hQ := by intro _ _ _ h; exact hQp.out _ _ _ _ _ h); case qyu1259 => ((intro w hSw; (try dsimp only at hSw); go_simp); try (with_reducible rfl))
 (try simp only [tA, tS, tZ, Act.put, uA, uS, uZ])
 refine wpAnyH_done (by kernel_rfl) ?_ _
 go_wp2_with fail
 go_meet
 case rel => exact ⟨rfl, _, _, y, R9.d⟩
end Go.Proofs.Ytkkjofefjepodaa.modelPlays
