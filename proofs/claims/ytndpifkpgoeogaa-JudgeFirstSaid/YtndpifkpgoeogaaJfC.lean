/- JudgeFirst: one key put right after the other (a loop); conditions: what the parts before it have laid. -/
import Derived.Test.YtndpifkpgoeogaaJfB
namespace Go.Proofs.Ytndpifkpgoeogaa.judgeFirst
open Go.ChangeShapes Go.WideShapes Go.ChangeAt Go.RowKit
set_option linter.unusedVariables false
noncomputable def cB3 : Code := (Try.f3.body.bind (blockIn 3)).getD .skip
noncomputable def cL2 : Code := (Try.f3.body.bind (blockIn 2)).getD .skip
noncomputable def cR2 : Code := ((Try.f3.body.bind (blockIn 2)).bind loopIn).getD .skip
/-- The set, the order, and the round's own variable in its block. -/
structure Z3 (W : World) (t cb ob ib C : Nat) (v : Value) (O : List Int) (i : Nat) (w : World) : Prop where
  z : Z2 W t cb ob ib C v O i w
  f : w.frozen? ⟨ib, 0, none⟩ = false
  a : W.heap.size ≤ ib
  n1 : ib ≠ ob
  n2 : v.ownBlock ≠ some ib
  n3 : ib ≠ cb
section
variable {W w wA : World} {t cb ob ib C i n gk : Nat} {S : Nat → Prop} {v : Value} {O : List Int} {Q : Exit → Act → World → Prop} {J : Nat → Act → World → Prop} {K JE KE JX KX : Act → World → Prop}
theorem Z3.next (h : Z3 W t cb ob ib C v O i w) : Z3 W t cb ob ib C v O (i + 1) (w.setCell ⟨ib, 0, none⟩ (.int .i64 ((i : Int) + 1))) := by
  obtain ⟨S, A, q⟩ := h.z
  have k := keep_one w ⟨ib, 0, none⟩ (.int .i64 ((i : Int) + 1))
  have nb : ∀ b, b ≠ ib → ¬ b = ib := fun _ e => e
  have own : ∀ g, v.ownBlock = some g → ¬ g = ib := fun g hg e => h.n2 (e ▸ hg)
  refine ⟨⟨S, ⟨A.r.own k (fun z hz => by rw [show z = ib from hz]; exact ⟨q.nI, h.a⟩), k.cell A.c (fun e => h.n1 e.symm), (k.frozen (a := ⟨ob, 0, none⟩) A.lt (fun e => h.n1 e.symm)).trans A.f, OwnN.keep A.o k own, A.dS, A.dv, A.ob⟩, ⟨k.cell q.cC (fun e => h.n3 e.symm), k.cell q.cO (fun e => h.n1 e.symm), ?_, OwnN.keep q.o k own, q.nC, q.nO, q.nI, q.nv⟩⟩, by rw [World.frozen?_setCell]; exact h.f, h.a, h.n1, h.n2, h.n3⟩
  have := World.cell?_setCell_same w ⟨ib, 0, none⟩ (.int .i64 ((i : Int) + 1)) q.cI
  rw [this]
  simp
theorem Z3.fresh (h : Z2 W t cb ob ib C v O i w) : Z3 W t cb ob w.heap.size C v O i (w.alloc (.cells #[.int .i64 i] 3)) := by
  obtain ⟨S, A, q⟩ := h
  have k := (Keep.refl (fun _ => False) w).alloc (.cells #[.int .i64 i] 3)
  have lc := lt_of_cell (a := ⟨cb, 0, none⟩) q.cC
  have q' : QF cb ob ib C v O i (w.alloc (.cells #[.int .i64 i] 3)) S := ⟨k.cell q.cC id, k.cell q.cO id, k.cell q.cI id, OwnN.keep q.o k (by simp), q.nC, q.nO, q.nI, q.nv⟩
  refine ⟨⟨S, A.quiet k, ⟨q'.cC, q'.cO, by simp, q'.o, q'.nC, q'.nO, fun x => by have := A.r.lt _ x; omega, q'.nv⟩⟩, by simp, A.r.b.size, fun e => by have := A.lt; omega, fun e => by have := (OwnN.lt A.o e).2; omega, fun e => by simp at lc; omega⟩
set_option maxRecDepth 1000000 in
/-- Behind a round's body. -/
def PE3 (W : World) (t cb ob ib C : Nat) (v : Value) (O : List Int) (i : Nat) (s0 s1 s2 s3 s5 s6 s7 s8 s9 s10 s14 s20 s21 s22 s23 s24 s25 s26 s27 s28 s29 s30 s31 s32 s33 s34 s35 s36 s37 s38 s39 s40 s41 s42 s43 s44 s45 s46 s47 s48 s49 s50 s51 s52 s53 s54 s55 s56 s57 s58 s59 s60 s61 s62 s63 s120 s121 : Value) (a' : Act) (w' : World) : Prop :=
  ∃ u4 u11 u12 u13 u15 u16 u17 u18 u19 u64 u65 u66 u67 u68 u69 u70 u71 u72 u73 u74 u75 u76 u77 u78 u79 u80 u81 u82 u83 u84 u85 u86 u87 u88 u89 u90 u91 u92 u93 u94 u95 u96 u97 u98 u99 u100 u101 u102 u103 u104 u105 u106 u107 u108 u109 u110 u111 u112 u113 u114 u115 u116 u117 u118 u119 : Value, Z2 W t cb ob ib C v O i w' ∧ a' = ⟨#[s0, s1, s2, s3, u4, s5, s6, s7, s8, s9, s10, u11, u12, u13, s14, u15, u16, u17, u18, u19, s20, s21, s22, s23, s24, s25, s26, s27, s28, s29, s30, s31, s32, s33, s34, s35, s36, s37, s38, s39, s40, s41, s42, s43, s44, s45, s46, s47, s48, s49, s50, s51, s52, s53, s54, s55, s56, s57, s58, s59, s60, s61, s62, s63, u64, u65, u66, u67, u68, u69, u70, u71, u72, u73, u74, u75, u76, u77, u78, u79, u80, u81, u82, u83, u84, u85, u86, u87, u88, u89, u90, u91, u92, u93, u94, u95, u96, u97, u98, u99, u100, u101, u102, u103, u104, u105, u106, u107, u108, u109, u110, u111, u112, u113, u114, u115, u116, u117, u118, u119, s120, s121], []⟩
set_option maxRecDepth 1000000 in
/-- Behind the loop. -/
def PXF (W : World) (s0 s1 s2 s3 s5 s6 s7 s8 s9 s14 s20 s21 s22 s23 s24 s25 s26 s27 s28 s29 s30 s31 s32 s33 s34 s35 s36 s37 s38 s39 s40 s41 s42 s43 s44 s45 s46 s47 s48 s49 s50 s51 s52 s53 s54 s55 s56 s57 s121 : Value) (a' : Act) (w' : World) : Prop :=
  ∃ u4 u10 u11 u12 u13 u15 u16 u17 u18 u19 u58 u59 u60 u61 u62 u63 u64 u65 u66 u67 u68 u69 u70 u71 u72 u73 u74 u75 u76 u77 u78 u79 u80 u81 u82 u83 u84 u85 u86 u87 u88 u89 u90 u91 u92 u93 u94 u95 u96 u97 u98 u99 u100 u101 u102 u103 u104 u105 u106 u107 u108 u109 u110 u111 u112 u113 u114 u115 u116 u117 u118 u119 u120 : Value, Below W.heap.size W w' ∧ a' = ⟨#[s0, s1, s2, s3, u4, s5, s6, s7, s8, s9, u10, u11, u12, u13, s14, u15, u16, u17, u18, u19, s20, s21, s22, s23, s24, s25, s26, s27, s28, s29, s30, s31, s32, s33, s34, s35, s36, s37, s38, s39, s40, s41, s42, s43, s44, s45, s46, s47, s48, s49, s50, s51, s52, s53, s54, s55, s56, s57, u58, u59, u60, u61, u62, u63, u64, u65, u66, u67, u68, u69, u70, u71, u72, u73, u74, u75, u76, u77, u78, u79, u80, u81, u82, u83, u84, u85, u86, u87, u88, u89, u90, u91, u92, u93, u94, u95, u96, u97, u98, u99, u100, u101, u102, u103, u104, u105, u106, u107, u108, u109, u110, u111, u112, u113, u114, u115, u116, u117, u118, u119, u120, s121], []⟩
set_option maxRecDepth 1000000 in
/-- Between two rounds. -/
def PIF (W : World) (t cb ob C : Nat) (v : Value) (O : List Int) (s0 s1 s2 s3 s5 s6 s7 s8 s9 s14 s20 s21 s22 s23 s24 s25 s26 s27 s28 s29 s30 s31 s32 s33 s34 s35 s36 s37 s38 s39 s40 s41 s42 s43 s44 s45 s46 s47 s48 s49 s50 s51 s52 s53 s54 s55 s56 s57 s121 : Value) (m : Nat) (a' : Act) (w' : World) : Prop :=
  ∃ u4 u10 u11 u12 u13 u15 u16 u17 u18 u19 u58 u59 u60 u61 u62 u63 u64 u65 u66 u67 u68 u69 u70 u71 u72 u73 u74 u75 u76 u77 u78 u79 u80 u81 u82 u83 u84 u85 u86 u87 u88 u89 u90 u91 u92 u93 u94 u95 u96 u97 u98 u99 u100 u101 u102 u103 u104 u105 u106 u107 u108 u109 u110 u111 u112 u113 u114 u115 u116 u117 u118 u119 u120 : Value, (∃ i ib : Nat, m + i = O.length ∧ u10 = .pointer (some ⟨ib, 0, none⟩) ∧ Z3 W t cb ob ib C v O i w') ∧ a' = ⟨#[s0, s1, s2, s3, u4, s5, s6, s7, s8, s9, u10, u11, u12, u13, s14, u15, u16, u17, u18, u19, s20, s21, s22, s23, s24, s25, s26, s27, s28, s29, s30, s31, s32, s33, s34, s35, s36, s37, s38, s39, s40, s41, s42, s43, s44, s45, s46, s47, s48, s49, s50, s51, s52, s53, s54, s55, s56, s57, u58, u59, u60, u61, u62, u63, u64, u65, u66, u67, u68, u69, u70, u71, u72, u73, u74, u75, u76, u77, u78, u79, u80, u81, u82, u83, u84, u85, u86, u87, u88, u89, u90, u91, u92, u93, u94, u95, u96, u97, u98, u99, u100, u101, u102, u103, u104, u105, u106, u107, u108, u109, u110, u111, u112, u113, u114, u115, u116, u117, u118, u119, u120, s121], []⟩
set_option maxRecDepth 1000000 in
set_option maxHeartbeats 8000000 in
theorem body3 { s0 s1 s2 s4 s6 s8 s9 s11 s12 s13 s14 s15 s16 s17 s18 s19 s20 s21 s22 s23 s24 s25 s26 s27 s28 s29 s30 s31 s32 s33 s34 s35 s36 s37 s38 s39 s40 s41 s42 s43 s44 s45 s46 s47 s48 s49 s50 s51 s52 s53 s54 s55 s56 s57 s58 s59 s60 s61 s62 s63 s64 s65 s66 s67 s68 s69 s70 s71 s72 s73 s74 s75 s76 s77 s78 s79 s80 s81 s82 s83 s84 s85 s86 s87 s88 s89 s90 s91 s92 s93 s94 s95 s96 s97 s98 s99 s100 s101 s102 s103 s104 s105 s106 s107 s108 s109 s110 s111 s112 s113 s114 s115 s116 s117 s118 s119 s120 s121 : Value}
    (hJE : ∀ a' w', PE3 W t cb ob ib C v O i s0 s1 s2 (.pointer (some ⟨cb, 0, none⟩)) (.pointer (some ⟨t, 0, none⟩)) s6 (.pointer (some ⟨ob, 0, none⟩)) s8 s9 (.pointer (some ⟨ib, 0, none⟩)) s14 s20 s21 s22 s23 s24 s25 s26 s27 s28 s29 s30 s31 s32 s33 s34 s35 s36 s37 s38 s39 s40 s41 s42 s43 s44 s45 s46 s47 s48 s49 s50 s51 s52 s53 s54 s55 s56 s57 s58 s59 s60 s61 s62 s63 s120 s121 a' w' → JE a' w') (hKE : ∀ a' w', Met JE a' w' → KE a' w')
    (h : Z3 W t cb ob ib C v O i wA) (hi : i ≤ O.length) (hO : OrdF O 40) (hC : C ≤ 18446744073709551615) :
    Code.wp Try.prog cB3 (Exit.then KE Q) ⟨#[s0, s1, s2, .pointer (some ⟨cb, 0, none⟩), s4, .pointer (some ⟨t, 0, none⟩), s6, .pointer (some ⟨ob, 0, none⟩), s8, s9, .pointer (some ⟨ib, 0, none⟩), s11, s12, s13, s14, s15, s16, s17, s18, s19, s20, s21, s22, s23, s24, s25, s26, s27, s28, s29, s30, s31, s32, s33, s34, s35, s36, s37, s38, s39, s40, s41, s42, s43, s44, s45, s46, s47, s48, s49, s50, s51, s52, s53, s54, s55, s56, s57, s58, s59, s60, s61, s62, s63, s64, s65, s66, s67, s68, s69, s70, s71, s72, s73, s74, s75, s76, s77, s78, s79, s80, s81, s82, s83, s84, s85, s86, s87, s88, s89, s90, s91, s92, s93, s94, s95, s96, s97, s98, s99, s100, s101, s102, s103, s104, s105, s106, s107, s108, s109, s110, s111, s112, s113, s114, s115, s116, s117, s118, s119, s120, s121], []⟩ wA := by
  obtain ⟨S, A, q⟩ := h.z
  have cO := q.cO
  obtain ⟨A1, c1, ev, hA0, hA1⟩ := OwnN.shapeN q.o
  have wl : IntKind.i64.wrap ((O.length : Int) - 1) = (O.length : Int) - 1 := IntWalk.i64_in _ (by have := hO.ln; omega)
  rw [ev] at cO
  clear h
  conv => arg 2; whnf
  dsimp only
  go_upto_block 4 with fail
  rename_i K5 hK5
  go_cut [12] from 68 to 84 (fun wv wx => wv = .int .i64 (wantF C (O.drop i)) ∧ ∃ d : Nat, wx = wA.drewN d)
  case first =>
    rename_i J6 K6 hJ6 hK6
    exact wantLoop hJ6 hK6 q hi hO.ln hO.hb hC
  case rest =>
    obtain ⟨rfl, d, rfl⟩ := hcut
    refine hK5 _ _ ?_
    clear hK5
    have k1 := drewN_keep (fun _ => False) wA d
    have A := A.quiet k1
    have q : QF cb ob ib C v O i (wA.drewN d) S := ⟨q.cC, q.cO, q.cI, OwnN.keep q.o k1 (by simp), q.nC, q.nO, q.nI, q.nv⟩
    obtain ⟨wB, eB⟩ : ∃ w, wA.drewN d = w := ⟨_, rfl⟩
    rw [eB] at A q ⊢
    have k2 := (Keep.refl (fun _ => False) wB).alloc (.cells #[.int .i64 2, .int .i64 3] 3)
    have A2 := A.quiet k2
    have q2 : QF cb ob ib C v O i (wB.alloc (.cells #[.int .i64 2, .int .i64 3] 3)) S := ⟨k2.cell q.cC id, k2.cell q.cO id, k2.cell q.cI id, OwnN.keep q.o k2 (by simp), q.nC, q.nO, q.nI, q.nv⟩
    have r0 : (wB.alloc (.cells #[.int .i64 2, .int .i64 3] 3)).cell? ⟨wB.heap.size, 0, none⟩ = some (.int .i64 2) := by simp
    have r1 : (wB.alloc (.cells #[.int .i64 2, .int .i64 3] 3)).cell? ⟨wB.heap.size, 1, none⟩ = some (.int .i64 3) := by simp
    have nr : ¬ S wB.heap.size := fun x => by have := A.r.lt _ x; omega
    clear eB k1 k2 A q cO
    go_upto_block 6 with fail
    rename_i K7 hK7
    go_cut [] from 87 to 107 (fun wx => Z2 W t cb ob ib C v O i wx)
    case first =>
      rename_i J6 K6 hJ6 hK6
      exact lvLoop hJ6 hK6 A2 q2 hi hO hC r0 r1 nr
    case rest =>
      obtain ⟨S3, A3, q3⟩ := hcut
      refine hK7 _ _ ?_
      clear hK7 A2 q2 r0 r1 nr
      have hN := isNow (W := W) (t := t) (s := setF O) (cb := cb) (ob := ob) (ib := ib) (v := v) hi hO.ln hC
      go_wp2_with fail
      refine (jall_any A3.r q3 QF.stay hN spn_nil 1 _ _ (all_one _ _ _)).mono ?_
      rintro e y4 ⟨rfl, S4, C4, k4⟩
      have F := Lib.hid (show Z2 W t cb ob ib C v O i y4 from ⟨S4, A3.step C4 k4, q3.turn k4⟩)
      clear C4 k4 A3 q3 hN
      go_wp2_with fail
      go_meet
      case rel => exact F.out
set_option maxRecDepth 1000000 in
set_option maxHeartbeats 8000000 in
theorem round2 { s0 s1 s2 s4 s6 s8 s9 s11 s12 s13 s14 s15 s16 s17 s18 s19 s20 s21 s22 s23 s24 s25 s26 s27 s28 s29 s30 s31 s32 s33 s34 s35 s36 s37 s38 s39 s40 s41 s42 s43 s44 s45 s46 s47 s48 s49 s50 s51 s52 s53 s54 s55 s56 s57 s58 s59 s60 s61 s62 s63 s64 s65 s66 s67 s68 s69 s70 s71 s72 s73 s74 s75 s76 s77 s78 s79 s80 s81 s82 s83 s84 s85 s86 s87 s88 s89 s90 s91 s92 s93 s94 s95 s96 s97 s98 s99 s100 s101 s102 s103 s104 s105 s106 s107 s108 s109 s110 s111 s112 s113 s114 s115 s116 s117 s118 s119 s120 s121 : Value}
    (hJ : ∀ n' a' w', PIF W t cb ob C v O s0 s1 s2 (.pointer (some ⟨cb, 0, none⟩)) (.pointer (some ⟨t, 0, none⟩)) s6 (.pointer (some ⟨ob, 0, none⟩)) s8 s9 s14 s20 s21 s22 s23 s24 s25 s26 s27 s28 s29 s30 s31 s32 s33 s34 s35 s36 s37 s38 s39 s40 s41 s42 s43 s44 s45 s46 s47 s48 s49 s50 s51 s52 s53 s54 s55 s56 s57 s121 n' a' w' → J n' a' w') (hK : ∀ a' w', Handed J gk a' w' → K a' w')
    (hJX : ∀ a' w', PXF W s0 s1 s2 (.pointer (some ⟨cb, 0, none⟩)) (.pointer (some ⟨t, 0, none⟩)) s6 (.pointer (some ⟨ob, 0, none⟩)) s8 s9 s14 s20 s21 s22 s23 s24 s25 s26 s27 s28 s29 s30 s31 s32 s33 s34 s35 s36 s37 s38 s39 s40 s41 s42 s43 s44 s45 s46 s47 s48 s49 s50 s51 s52 s53 s54 s55 s56 s57 s121 a' w' → JX a' w') (hKX : ∀ a' w', Met JX a' w' → KX a' w')
    (hgk : gk + i = O.length) (h : Z3 W t cb ob ib C v O i wA) (hO : OrdF O 40) (hC : C ≤ 18446744073709551615) :
    Code.wp Try.prog cR2 (Exit.then K (Exit.inBlock 2 (Exit.then KX Q))) ⟨#[s0, s1, s2, .pointer (some ⟨cb, 0, none⟩), s4, .pointer (some ⟨t, 0, none⟩), s6, .pointer (some ⟨ob, 0, none⟩), s8, s9, .pointer (some ⟨ib, 0, none⟩), s11, s12, s13, s14, s15, s16, s17, s18, s19, s20, s21, s22, s23, s24, s25, s26, s27, s28, s29, s30, s31, s32, s33, s34, s35, s36, s37, s38, s39, s40, s41, s42, s43, s44, s45, s46, s47, s48, s49, s50, s51, s52, s53, s54, s55, s56, s57, s58, s59, s60, s61, s62, s63, s64, s65, s66, s67, s68, s69, s70, s71, s72, s73, s74, s75, s76, s77, s78, s79, s80, s81, s82, s83, s84, s85, s86, s87, s88, s89, s90, s91, s92, s93, s94, s95, s96, s97, s98, s99, s100, s101, s102, s103, s104, s105, s106, s107, s108, s109, s110, s111, s112, s113, s114, s115, s116, s117, s118, s119, s120, s121], []⟩ wA := by
  obtain ⟨S, A, q⟩ := id h.z
  have cI := q.cI
  have cO := q.cO
  obtain ⟨A1, c1, ev, hA0, hA1⟩ := OwnN.shapeN q.o
  rw [ev] at cO
  have lO := hO.ln
  by_cases hlt : i < O.length
  · clear A q
    conv => arg 2; whnf
    dsimp only
    go_upto_block 3 with fail
    rename_i K5 hK5
    have HK := Lib.hid hK5
    clear hK5
    go_cut [] from 64 to 119 (fun wx => Z2 W t cb ob ib C v O i wx)
    case first =>
      rename_i JE KE hJE hKE
      exact body3 hJE hKE h (by omega) hO hC
    case rest =>
      have hK5 := HK.out
      have Z : Z2 W t cb ob ib C v O i wc := hcut
      have Zf := Z3.fresh Z
      have cI2 : wc.cell? ⟨ib, 0, none⟩ = some (.int .i64 i) := by obtain ⟨_, _, q⟩ := Z; exact q.cI
      have wi : IntKind.i64.wrap ((i : Int) + 1) = (i : Int) + 1 := IntWalk.i64_in _ (by omega)
      obtain ⟨nb, en⟩ : ∃ nb, wc.heap.size = nb := ⟨_, rfl⟩
      rw [en] at Zf
      obtain ⟨wD, eD⟩ : ∃ wD, wc.alloc (.cells #[.int .i64 (i : Int)] 3) = wD := ⟨_, rfl⟩
      rw [eD] at Zf
      have cN : wD.cell? ⟨nb, 0, none⟩ = some (.int .i64 i) := by obtain ⟨_, _, q⟩ := Zf.z; exact q.cI
      have fN := Zf.f
      have F := Lib.hid Zf.next
      clear HK Z Zf hcut cI cO h
      go_wp2_with fail
      go_roundg (gk - 1)
      case measure => omega
      case rel => exact ⟨i + 1, nb, by omega, rfl, F.out⟩
  · have F := Lib.hid A.r.b
    obtain rfl : i = O.length := by omega
    clear A q h
    conv => arg 2; whnf
    dsimp only
    go_wp2_with fail
    go_meet
    case rel => exact F.out
set_option maxRecDepth 1000000 in
set_option maxHeartbeats 8000000 in
theorem loop2 { s0 s1 s2 s4 s6 s8 s9 s11 s12 s13 s14 s15 s16 s17 s18 s19 s20 s21 s22 s23 s24 s25 s26 s27 s28 s29 s30 s31 s32 s33 s34 s35 s36 s37 s38 s39 s40 s41 s42 s43 s44 s45 s46 s47 s48 s49 s50 s51 s52 s53 s54 s55 s56 s57 s58 s59 s60 s61 s62 s63 s64 s65 s66 s67 s68 s69 s70 s71 s72 s73 s74 s75 s76 s77 s78 s79 s80 s81 s82 s83 s84 s85 s86 s87 s88 s89 s90 s91 s92 s93 s94 s95 s96 s97 s98 s99 s100 s101 s102 s103 s104 s105 s106 s107 s108 s109 s110 s111 s112 s113 s114 s115 s116 s117 s118 s119 s120 s121 : Value}
    (hJX : ∀ a' w', PXF W s0 s1 s2 (.pointer (some ⟨cb, 0, none⟩)) (.pointer (some ⟨t, 0, none⟩)) s6 (.pointer (some ⟨ob, 0, none⟩)) s8 s9 s14 s20 s21 s22 s23 s24 s25 s26 s27 s28 s29 s30 s31 s32 s33 s34 s35 s36 s37 s38 s39 s40 s41 s42 s43 s44 s45 s46 s47 s48 s49 s50 s51 s52 s53 s54 s55 s56 s57 s121 a' w' → JX a' w') (hKX : ∀ a' w', Met JX a' w' → KX a' w')
    (h : Z3 W t cb ob ib C v O 0 wA) (hO : OrdF O 40) (hC : C ≤ 18446744073709551615) :
    Code.wp Try.prog cL2 (Exit.then KX Q) ⟨#[s0, s1, s2, .pointer (some ⟨cb, 0, none⟩), s4, .pointer (some ⟨t, 0, none⟩), s6, .pointer (some ⟨ob, 0, none⟩), s8, s9, .pointer (some ⟨ib, 0, none⟩), s11, s12, s13, s14, s15, s16, s17, s18, s19, s20, s21, s22, s23, s24, s25, s26, s27, s28, s29, s30, s31, s32, s33, s34, s35, s36, s37, s38, s39, s40, s41, s42, s43, s44, s45, s46, s47, s48, s49, s50, s51, s52, s53, s54, s55, s56, s57, s58, s59, s60, s61, s62, s63, s64, s65, s66, s67, s68, s69, s70, s71, s72, s73, s74, s75, s76, s77, s78, s79, s80, s81, s82, s83, s84, s85, s86, s87, s88, s89, s90, s91, s92, s93, s94, s95, s96, s97, s98, s99, s100, s101, s102, s103, s104, s105, s106, s107, s108, s109, s110, s111, s112, s113, s114, s115, s116, s117, s118, s119, s120, s121], []⟩ wA := by
  conv => arg 2; whnf
  dsimp only
  go_wp2_with fail
  go_loopg [10] O.length (fun m pv wr => ∃ i ib : Nat, m + i = O.length ∧ pv = .pointer (some ⟨ib, 0, none⟩) ∧ Z3 W t cb ob ib C v O i wr)
  case atStart => exact ⟨0, ib, rfl, rfl, h⟩
  case round =>
    rename_i J1 K4 hJ4 hK4
    obtain ⟨i, ib2, hgk, rfl, h2⟩ := hrel
    exact round2 hJ4 hK4 hJX hKX hgk h2 hO hC
end
end Go.Proofs.Ytndpifkpgoeogaa.judgeFirst
