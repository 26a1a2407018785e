/- JudgeFirst: the keys are read (a loop); what is wanted (a loop); the two levels (a loop); conditions: what the parts before it have laid. -/
import Derived.Test.YtndpifkpgoeogaaJfA
namespace Go.Proofs.Ytndpifkpgoeogaa.judgeFirst
open Go.ChangeShapes Go.WideShapes Go.ChangeAt Go.RowKit
set_option linter.unusedVariables false
noncomputable def cOrd : Code := (Try.f3.body.bind (blockIn 0)).getD .skip
noncomputable def cWant : Code := (Try.f3.body.bind (blockIn 4)).getD .skip
noncomputable def cLv : Code := (Try.f3.body.bind (blockIn 6)).getD .skip
def RO (W : World) (t ob : Nat) (wx : World) : Prop := ∃ S O v, O15 W wx t S (setF O) ob v O ∧ OrdF O 40
set_option maxRecDepth 1000000 in
/-- Behind the reads. -/
def PO (W : World) (t ob : Nat) (s0 s1 s2 s3 s5 s7 s10 s11 s12 s13 s14 s15 s16 s17 s18 s19 s20 s21 s22 s58 s59 s60 s61 s62 s63 s64 s65 s66 s67 s68 s69 s70 s71 s72 s73 s74 s75 s76 s77 s78 s79 s80 s81 s82 s83 s84 s85 s86 s87 s88 s89 s90 s91 s92 s93 s94 s95 s96 s97 s98 s99 s100 s101 s102 s103 s104 s105 s106 s107 s108 s109 s110 s111 s112 s113 s114 s115 s116 s117 s118 s119 s120 s121 : Value) (a' : Act) (w' : World) : Prop :=
  ∃ u4 u6 u8 u9 u23 u24 u25 u26 u27 u28 u29 u30 u31 u32 u33 u34 u35 u36 u37 u38 u39 u40 u41 u42 u43 u44 u45 u46 u47 u48 u49 u50 u51 u52 u53 u54 u55 u56 u57 : Value, RO W t ob w' ∧ a' = ⟨#[s0, s1, s2, s3, u4, s5, u6, s7, u8, u9, s10, s11, s12, s13, s14, s15, s16, s17, s18, s19, s20, s21, s22, u23, u24, u25, u26, u27, u28, u29, u30, u31, u32, u33, u34, u35, u36, u37, u38, u39, u40, u41, u42, u43, u44, u45, u46, u47, u48, u49, u50, u51, u52, u53, u54, u55, u56, u57, s58, s59, s60, s61, s62, s63, s64, s65, s66, s67, s68, s69, s70, s71, s72, s73, s74, s75, s76, s77, s78, s79, s80, s81, s82, s83, s84, s85, s86, s87, s88, s89, s90, s91, s92, s93, s94, s95, s96, s97, s98, s99, s100, s101, s102, s103, s104, s105, s106, s107, s108, s109, s110, s111, s112, s113, s114, s115, s116, s117, s118, s119, s120, s121], []⟩
def OrdR (W : World) (t ob n : Nat) (sv iv : Value) (wr : World) : Prop := ∃ (i M : Nat) (S : Nat → Prop) (O : List Int) (v : Value), i ≤ n ∧ i ≤ 40 ∧ iv = .int .i64 i ∧ sv = .int .u64 M ∧ O15 W wr t S (setF O) ob v O ∧ OrdF O i ∧ SeenF M O
set_option maxRecDepth 1000000 in
/-- Behind the search of what is wanted. -/
def PWt (x : Int) (wA : World) (s0 s1 s2 s3 s4 s5 s6 s7 s8 s9 s10 s11 s14 s15 s16 s17 s18 s19 s20 s21 s22 s23 s24 s25 s26 s27 s28 s29 s30 s31 s32 s33 s34 s35 s36 s37 s38 s39 s40 s41 s42 s43 s44 s45 s46 s47 s48 s49 s50 s51 s52 s53 s54 s55 s56 s57 s58 s59 s60 s61 s62 s63 s64 s65 s66 s67 s85 s86 s87 s88 s89 s90 s91 s92 s93 s94 s95 s96 s97 s98 s99 s100 s101 s102 s103 s104 s105 s106 s107 s108 s109 s110 s111 s112 s113 s114 s115 s116 s117 s118 s119 s120 s121 : Value) (a' : Act) (w' : World) : Prop :=
  ∃ u12 u13 u68 u69 u70 u71 u72 u73 u74 u75 u76 u77 u78 u79 u80 u81 u82 u83 u84 : Value, (u12 = .int .i64 x ∧ ∃ d : Nat, w' = wA.drewN d) ∧ a' = ⟨#[s0, s1, s2, s3, s4, s5, s6, s7, s8, s9, s10, s11, u12, u13, s14, s15, s16, s17, s18, s19, s20, s21, s22, s23, s24, s25, s26, s27, s28, s29, s30, s31, s32, s33, s34, s35, s36, s37, s38, s39, s40, s41, s42, s43, s44, s45, s46, s47, s48, s49, s50, s51, s52, s53, s54, s55, s56, s57, s58, s59, s60, s61, s62, s63, s64, s65, s66, s67, u68, u69, u70, u71, u72, u73, u74, u75, u76, u77, u78, u79, u80, u81, u82, u83, u84, s85, s86, s87, s88, s89, s90, s91, s92, s93, s94, s95, s96, s97, s98, s99, s100, s101, s102, s103, s104, s105, s106, s107, s108, s109, s110, s111, s112, s113, s114, s115, s116, s117, s118, s119, s120, s121], []⟩
def WantR (C : Nat) (O : List Int) (i : Nat) (wA : World) (wv jv : Value) (wr : World) : Prop := ∃ p d : Nat, i ≤ p ∧ p ≤ O.length ∧ jv = .int .i64 ((p : Int) - 1) ∧ wv = .int .i64 (wantF C (O.drop p)) ∧ wr = wA.drewN d
/-- The set, the order, and what the closure finds. -/
def Z2 (W : World) (t cb ob ib C : Nat) (v : Value) (O : List Int) (i : Nat) (w : World) : Prop := ∃ S, O15 W w t S (setF O) ob v O ∧ QF cb ob ib C v O i w S
set_option maxRecDepth 1000000 in
/-- Behind the two levels. -/
def PLv (W : World) (t cb ob ib C : Nat) (v : Value) (O : List Int) (i : Nat) (s0 s1 s2 s3 s5 s6 s7 s8 s9 s10 s11 s12 s13 s14 s18 s19 s20 s21 s22 s23 s24 s25 s26 s27 s28 s29 s30 s31 s32 s33 s34 s35 s36 s37 s38 s39 s40 s41 s42 s43 s44 s45 s46 s47 s48 s49 s50 s51 s52 s53 s54 s55 s56 s57 s58 s59 s60 s61 s62 s63 s64 s65 s66 s67 s68 s69 s70 s71 s72 s73 s74 s75 s76 s77 s78 s79 s80 s81 s82 s83 s84 s85 s86 s108 s109 s110 s111 s112 s113 s114 s115 s116 s117 s118 s119 s120 s121 : Value) (a' : Act) (w' : World) : Prop :=
  ∃ u4 u15 u16 u17 u87 u88 u89 u90 u91 u92 u93 u94 u95 u96 u97 u98 u99 u100 u101 u102 u103 u104 u105 u106 u107 : Value, Z2 W t cb ob ib C v O i w' ∧ a' = ⟨#[s0, s1, s2, s3, u4, s5, s6, s7, s8, s9, s10, s11, s12, s13, s14, u15, u16, u17, s18, s19, s20, s21, s22, s23, s24, s25, s26, s27, s28, s29, s30, s31, s32, s33, s34, s35, s36, s37, s38, s39, s40, s41, s42, s43, s44, s45, s46, s47, s48, s49, s50, s51, s52, s53, s54, s55, s56, s57, s58, s59, s60, s61, s62, s63, s64, s65, s66, s67, s68, s69, s70, s71, s72, s73, s74, s75, s76, s77, s78, s79, s80, s81, s82, s83, s84, s85, s86, u87, u88, u89, u90, u91, u92, u93, u94, u95, u96, u97, u98, u99, u100, u101, u102, u103, u104, u105, u106, u107, s108, s109, s110, s111, s112, s113, s114, s115, s116, s117, s118, s119, s120, s121], []⟩
def LvR (W : World) (t cb ob ib C : Nat) (v : Value) (O : List Int) (i rb : Nat) (jv : Value) (wr : World) : Prop :=
  ∃ (j : Nat) (S : Nat → Prop), j ≤ 2 ∧ jv = .int .i64 j ∧ O15 W wr t S (setF O) ob v O ∧ QF cb ob ib C v O i wr S ∧ wr.cell? ⟨rb, 0, none⟩ = some (.int .i64 2) ∧ wr.cell? ⟨rb, 1, none⟩ = some (.int .i64 3) ∧ ¬ S rb
section
variable {w0 W wA : World} {t ob cb ib C i : Nat} {S : Nat → Prop} {v : Value} {O z : List Int} {a1 : Option Addr} {len1 cap1 : Nat} {Q : Exit → Act → World → Prop} {J K : Act → World → Prop}
set_option maxRecDepth 1000000 in
set_option maxHeartbeats 8000000 in
theorem ordLoop { s1 s2 s3 s4 s9 s10 s11 s12 s13 s14 s15 s16 s17 s18 s19 s20 s21 s22 s23 s24 s25 s26 s27 s28 s29 s30 s31 s32 s33 s34 s35 s36 s37 s38 s39 s40 s41 s42 s43 s44 s45 s46 s47 s48 s49 s50 s51 s52 s53 s54 s55 s56 s57 s58 s59 s60 s61 s62 s63 s64 s65 s66 s67 s68 s69 s70 s71 s72 s73 s74 s75 s76 s77 s78 s79 s80 s81 s82 s83 s84 s85 s86 s87 s88 s89 s90 s91 s92 s93 s94 s95 s96 s97 s98 s99 s100 s101 s102 s103 s104 s105 s106 s107 s108 s109 s110 s111 s112 s113 s114 s115 s116 s117 s118 s119 s120 s121 : Value}
    (hJ : ∀ a' w', PO W t ob (.slice a1 len1 cap1) s1 s2 s3 (.pointer (some ⟨t, 0, none⟩)) (.pointer (some ⟨ob, 0, none⟩)) s10 s11 s12 s13 s14 s15 s16 s17 s18 s19 s20 s21 s22 s58 s59 s60 s61 s62 s63 s64 s65 s66 s67 s68 s69 s70 s71 s72 s73 s74 s75 s76 s77 s78 s79 s80 s81 s82 s83 s84 s85 s86 s87 s88 s89 s90 s91 s92 s93 s94 s95 s96 s97 s98 s99 s100 s101 s102 s103 s104 s105 s106 s107 s108 s109 s110 s111 s112 s113 s114 s115 s116 s117 s118 s119 s120 s121 a' w' → J a' w') (hK : ∀ a' w', Met J a' w' → K a' w')
    (w1 : IsRow .i64 W a1 len1 cap1 z) (A : O15 W wA t S (setF []) ob (.slice none 0 0) []) :
    Code.wp Try.prog cOrd (Exit.then K Q) ⟨#[.slice a1 len1 cap1, s1, s2, s3, s4, .pointer (some ⟨t, 0, none⟩), .int .u64 0, .pointer (some ⟨ob, 0, none⟩), .int .i64 0, s9, s10, s11, s12, s13, s14, s15, s16, s17, s18, s19, s20, s21, s22, s23, s24, s25, s26, s27, s28, s29, s30, s31, s32, s33, s34, s35, s36, s37, s38, s39, s40, s41, s42, s43, s44, s45, s46, s47, s48, s49, s50, s51, s52, s53, s54, s55, s56, s57, s58, s59, s60, s61, s62, s63, s64, s65, s66, s67, s68, s69, s70, s71, s72, s73, s74, s75, s76, s77, s78, s79, s80, s81, s82, s83, s84, s85, s86, s87, s88, s89, s90, s91, s92, s93, s94, s95, s96, s97, s98, s99, s100, s101, s102, s103, s104, s105, s106, s107, s108, s109, s110, s111, s112, s113, s114, s115, s116, s117, s118, s119, s120, s121], []⟩ wA := by
  have l1 := w1.len
  have l2 := w1.cap
  have l3 := w1.max
  conv => arg 2; whnf
  dsimp only
  go_wp2
  go_loopw [6, 8] (fun sv iv wr => OrdR W t ob len1 sv iv wr) (fun _ iv _ => len1 - (intOf iv).toNat)
  case atStart => exact ⟨0, 0, S, [], _, Nat.zero_le _, by omega, rfl, rfl, A, ⟨by simp, by simp, Nat.le_refl _⟩, by omega, fun k hk => by simp⟩
  case round =>
    clear A
    obtain ⟨i, M, S, O, v, hi, h40, rfl, rfl, A, hO, hM⟩ := hrel
    by_cases hlt : i < len1
    · by_cases h39 : i < 40
      · obtain ⟨b, off, rfl, hb, hc⟩ := w1.cell (by omega)
        have c0 := (A.r.b.cell (p := ⟨b, off + i, none⟩) hb).trans (hc i hlt)
        obtain ⟨x, ex⟩ : ∃ x, z.getD i 0 = x := ⟨_, rfl⟩
        rw [ex] at c0
        obtain ⟨k, ek⟩ : ∃ n : Nat, x % 64 = (n : Int) := ⟨(x % 64).toNat, by omega⟩
        have mk : bits .and .i64 x 63 = (k : Int) := (i64_mask x 6 (by decide)).trans ek
        have k64 : k < 64 := by omega
        have wi : IntKind.i64.wrap ((i : Int) + 1) = (i : Int) + 1 := IntWalk.i64_in _ (by omega)
        have wk : IntKind.u64.wrap (k : Int) = (k : Int) := IntWalk.u64_in _ (by omega)
        have w5 : IntKind.u64.wrap ((k : Int) + 5) = (k : Int) + 5 := IntWalk.u64_in _ (by omega)
        have sN := Lib.hid (seenF_next hM k64)
        have oN := Lib.hid (hO.next (k := (k : Int)) (by omega) (by omega))
        have hs := setF_add (O := O) (k := (k : Int)) (by omega) (by omega)
        have hb2 := hM.2 k k64
        have lM := hM.1
        obtain ⟨P, eP⟩ : ∃ P : Nat, 2 ^ k = P := ⟨_, rfl⟩
        have lP : P ≤ 9223372036854775808 := by
          rw [← eP]
          have : 2 ^ k ≤ 2 ^ 63 := Nat.pow_le_pow_right (by decide) (by omega)
          omega
        have iP : (2 : Int) ^ k = (P : Int) := by rw [← eP]; simp
        have sP : IntKind.u64.wrap ((2 : Int) ^ k) = (P : Int) := by rw [iP]; exact IntWalk.u64_in _ (by omega)
        have orM := u64_or_nat M P (by omega) (by omega)
        obtain ⟨M2, eM⟩ : ∃ M2, M ||| P = M2 := ⟨_, rfl⟩
        rw [eP, eM] at sN
        rw [eM] at orM
        have OL := Lib.hid hO.ln
        clear hc ex ek eP eM lP iP hM hO
        by_cases hm : (k : Int) ∈ O
        · rw [if_pos hm] at sN oN hs
          rw [decide_eq_true hm] at hb2
          have ba := bit_true lM hb2
          clear hb2 hm
          go_wp2_with fail
          refine (rd_add A.r (k : Int) ((k : Int) + 5) ⟨by omega, by omega⟩ _ _ hs).mono ?_
          rintro e y3 ⟨rfl, S3, C3, k3⟩
          have A3 := Lib.hid (A.step C3 k3)
          clear C3 k3 A hs c0
          go_wp2
          first | exact ⟨⟨i + 1, M2, S3, O, v, by omega, by omega, by go_num, rfl, A3.out, oN.out, sN.out⟩, by simp [intOf]; omega⟩ | (refine ⟨?rel2, ?meas2⟩; (case meas2 => (simp [intOf]; omega)); (case rel2 => ((repeat apply Exists.intro); exact ⟨⟨i + 1, M2, S3, O, v, by omega, by omega, by go_num, rfl, A3.out, oN.out, sN.out⟩, rfl⟩)))
        · rw [if_neg hm] at sN oN hs
          rw [decide_eq_false hm] at hb2
          have ba := bit_false lM hb2
          have cO := A.c
          have fO := A.f
          clear hb2 hm
          go_wp2_with (with_reducible refine wp_stop 46 rfl ?_)
          intro _
          refine wp_pushN rfl (.tmp 43) (.tmp 45) rfl W.heap.size A.r.b.size v O rfl A.o (k : Int) rfl (by have := OL.out; omega) ?_
          intro g c y2 o2 k2 hg
          have B := A.push o2 k2 hg
          have nb : ¬ v.ownBlock = some ob := fun e => (A.dv ob e).2 rfl
          have cO2 := k2.cell cO nb
          have fO2 : y2.frozen? ⟨ob, 0, none⟩ = false := (k2.frozen (a := ⟨ob, 0, none⟩) A.lt nb).trans fO
          obtain ⟨n1, en⟩ : ∃ n1, O.length + 1 = n1 := ⟨_, rfl⟩
          rw [en] at B ⊢
          obtain ⟨yB, eB⟩ : ∃ yB, y2.setCell ⟨ob, 0, none⟩ (.slice (some ⟨g, 0, none⟩) n1 c) = yB := ⟨_, rfl⟩
          rw [eB] at B
          clear o2 k2 hg A c0 cO fO en
          go_wp2_with fail
          refine (rd_add B.r (k : Int) ((k : Int) + 5) ⟨by omega, by omega⟩ _ _ hs).mono ?_
          rintro e y3 ⟨rfl, S3, C3, k3⟩
          have A3 := Lib.hid (B.step C3 k3)
          clear C3 k3 B hs
          go_wp2
          first | exact ⟨⟨i + 1, M2, S3, O ++ [(k : Int)], _, by omega, by omega, by go_num, rfl, A3.out, oN.out, sN.out⟩, by simp [intOf]; omega⟩ | (refine ⟨?rel2, ?meas2⟩; (case meas2 => (simp [intOf]; omega)); (case rel2 => ((repeat apply Exists.intro); exact ⟨⟨i + 1, M2, S3, O ++ [(k : Int)], _, by omega, by omega, by go_num, rfl, A3.out, oN.out, sN.out⟩, rfl⟩)))
      · obtain rfl : i = 40 := by omega
        have F := Lib.hid (show RO W t ob wr from ⟨S, O, v, A, hO⟩)
        clear A hO hM w1
        go_wp2_with fail
        go_meet
        case rel => exact F.out
    · obtain rfl : i = len1 := by omega
      have F := Lib.hid (show RO W t ob wr from ⟨S, O, v, A, hO.hb, hO.nd, Nat.le_trans hO.ln h40⟩)
      clear A hO hM w1
      go_wp2_with fail
      go_meet
      case rel => exact F.out
set_option maxRecDepth 1000000 in
set_option maxHeartbeats 8000000 in
theorem wantLoop { s0 s1 s2 s4 s5 s6 s8 s9 s11 s14 s15 s16 s17 s18 s19 s20 s21 s22 s23 s24 s25 s26 s27 s28 s29 s30 s31 s32 s33 s34 s35 s36 s37 s38 s39 s40 s41 s42 s43 s44 s45 s46 s47 s48 s49 s50 s51 s52 s53 s54 s55 s56 s57 s58 s59 s60 s61 s62 s63 s64 s65 s66 s67 s68 s69 s70 s71 s72 s73 s74 s75 s76 s77 s78 s79 s80 s81 s82 s83 s84 s85 s86 s87 s88 s89 s90 s91 s92 s93 s94 s95 s96 s97 s98 s99 s100 s101 s102 s103 s104 s105 s106 s107 s108 s109 s110 s111 s112 s113 s114 s115 s116 s117 s118 s119 s120 s121 : Value}
    (hJ : ∀ a' w', PWt (wantF C (O.drop i)) wA s0 s1 s2 (.pointer (some ⟨cb, 0, none⟩)) s4 s5 s6 (.pointer (some ⟨ob, 0, none⟩)) s8 s9 (.pointer (some ⟨ib, 0, none⟩)) s11 s14 s15 s16 s17 s18 s19 s20 s21 s22 s23 s24 s25 s26 s27 s28 s29 s30 s31 s32 s33 s34 s35 s36 s37 s38 s39 s40 s41 s42 s43 s44 s45 s46 s47 s48 s49 s50 s51 s52 s53 s54 s55 s56 s57 s58 s59 s60 s61 s62 s63 s64 s65 s66 s67 s85 s86 s87 s88 s89 s90 s91 s92 s93 s94 s95 s96 s97 s98 s99 s100 s101 s102 s103 s104 s105 s106 s107 s108 s109 s110 s111 s112 s113 s114 s115 s116 s117 s118 s119 s120 s121 a' w' → J a' w') (hK : ∀ a' w', Met J a' w' → K a' w')
    (q : QF cb ob ib C v O i wA S) (hi : i ≤ O.length) (ol : O.length ≤ 40) (hb : ∀ k ∈ O, 0 ≤ k ∧ k ≤ 63) (hC : C ≤ 18446744073709551615) :
    Code.wp Try.prog cWant (Exit.then K Q) ⟨#[s0, s1, s2, .pointer (some ⟨cb, 0, none⟩), s4, s5, s6, .pointer (some ⟨ob, 0, none⟩), s8, s9, .pointer (some ⟨ib, 0, none⟩), s11, .int .i64 (-1), .int .i64 ((O.length : Int) - 1), s14, s15, s16, s17, s18, s19, s20, s21, s22, s23, s24, s25, s26, s27, s28, s29, s30, s31, s32, s33, s34, s35, s36, s37, s38, s39, s40, s41, s42, s43, s44, s45, s46, s47, s48, s49, s50, s51, s52, s53, s54, s55, s56, s57, s58, s59, s60, s61, s62, s63, s64, s65, s66, s67, s68, s69, s70, s71, s72, s73, s74, s75, s76, s77, s78, s79, s80, s81, s82, s83, s84, s85, s86, s87, s88, s89, s90, s91, s92, s93, s94, s95, s96, s97, s98, s99, s100, s101, s102, s103, s104, s105, s106, s107, s108, s109, s110, s111, s112, s113, s114, s115, s116, s117, s118, s119, s120, s121], []⟩ wA := by
  have cC := q.cC
  have cO := q.cO
  have cI := q.cI
  obtain ⟨A, c, rfl, hA0, hA1⟩ := OwnN.shapeN q.o
  have o := q.o
  clear q
  conv => arg 2; whnf
  dsimp only
  go_wp2
  go_loopw [12, 13] (fun wv jv wr => WantR C O i wA wv jv wr) (fun _ jv _ => (intOf jv + 1).toNat)
  case atStart => exact ⟨O.length, 0, hi, Nat.le_refl _, rfl, by rw [List.drop_length]; rfl, rfl⟩
  case round =>
    obtain ⟨p, d, hp, hpl, rfl, rfl, rfl⟩ := hrel
    by_cases hlt : i < p
    · obtain ⟨j, rfl⟩ : ∃ j, p = j + 1 := ⟨p - 1, by omega⟩
      have hj : ((j + 1 : Nat) : Int) - 1 = (j : Int) := by omega
      rw [hj]
      have hij : ¬ (j : Int) < (i : Int) := by omega
      have wj : IntKind.i64.wrap ((j : Int) - 1) = (j : Int) - 1 := IntWalk.i64_in _ (by omega)
      cases A with
      | none => rw [hA0 rfl] at hpl; simp at hpl
      | some ad =>
        obtain ⟨g, rfl⟩ := hA1 _ rfl
        have cj := OwnN.cell o j (by omega)
        obtain ⟨y, ey⟩ : ∃ y, O.getD j 0 = y := ⟨_, rfl⟩
        have hy : O[j]? = some y := by rw [List.getElem?_eq_getElem (by omega), ← ey, List.getD_eq_getElem?_getD, List.getElem?_eq_getElem (by omega)]; rfl
        rw [ey] at cj
        have by' := hb y (List.mem_of_getElem? hy)
        obtain ⟨k, rfl⟩ : ∃ k : Nat, y = k := ⟨y.toNat, by omega⟩
        have ws := want_step (C := C) hy
        rw [Int.toNat_natCast] at ws
        cases hbt : C.testBit k with
        | true =>
          rw [hbt, if_pos rfl] at ws
          have ba := bit_true hC hbt
          have WS := Lib.hid ws
          clear hbt ws ey hy o hA0 hA1 hj
          go_wp2_with fail
          go_quiet (fail)
          go_wp2
          first | exact ⟨⟨j, _, by omega, by omega, rfl, by rw [WS.out], rfl⟩, by simp [intOf]⟩ | (refine ⟨?rel2, ?meas2⟩; (case meas2 => (simp [intOf])); (case rel2 => ((repeat apply Exists.intro); exact ⟨⟨j, _, by omega, by omega, rfl, by rw [WS.out], rfl⟩, rfl⟩)))
        | false =>
          rw [hbt, if_neg (by simp)] at ws
          have ba := bit_false hC hbt
          have WS := Lib.hid ws
          clear hbt ws ey hy o hA0 hA1 hj
          go_wp2_with fail
          go_quiet (fail)
          go_wp2
          first | exact ⟨⟨j, _, by omega, by omega, rfl, by rw [WS.out], rfl⟩, by simp [intOf]⟩ | (refine ⟨?rel2, ?meas2⟩; (case meas2 => (simp [intOf])); (case rel2 => ((repeat apply Exists.intro); exact ⟨⟨j, _, by omega, by omega, rfl, by rw [WS.out], rfl⟩, rfl⟩)))
    · obtain rfl : p = i := by omega
      have e1 : decide ((p : Int) ≤ (p : Int) - 1) = false := decide_eq_false (by omega)
      have e2 : (p : Int) - 1 < (p : Int) := by omega
      clear o hA0 hA1
      go_wp2_with fail
      go_meet
      case rel => exact ⟨rfl, d, rfl⟩
set_option maxRecDepth 1000000 in
set_option maxHeartbeats 8000000 in
theorem lvLoop {rb : Nat} { s0 s1 s2 s3 s4 s6 s7 s8 s9 s10 s13 s14 s15 s16 s17 s18 s19 s20 s21 s22 s23 s24 s25 s26 s27 s28 s29 s30 s31 s32 s33 s34 s35 s36 s37 s38 s39 s40 s41 s42 s43 s44 s45 s46 s47 s48 s49 s50 s51 s52 s53 s54 s55 s56 s57 s58 s59 s60 s61 s62 s63 s64 s65 s66 s67 s68 s69 s70 s71 s72 s73 s74 s75 s76 s77 s78 s79 s80 s81 s82 s83 s84 s88 s89 s90 s91 s92 s93 s94 s95 s96 s97 s98 s99 s100 s101 s102 s103 s104 s105 s106 s107 s108 s109 s110 s111 s112 s113 s114 s115 s116 s117 s118 s119 s120 s121 : Value}
    (hJ : ∀ a' w', PLv W t cb ob ib C v O i s0 s1 s2 s3 (.pointer (some ⟨t, 0, none⟩)) s6 s7 s8 s9 s10 (.func (.func 11) #[] #[.pointer (some ⟨ib, 0, none⟩), .pointer (some ⟨ob, 0, none⟩), .pointer (some ⟨cb, 0, none⟩)]) (.int .i64 (wantF C (O.drop i))) s13 s14 s18 s19 s20 s21 s22 s23 s24 s25 s26 s27 s28 s29 s30 s31 s32 s33 s34 s35 s36 s37 s38 s39 s40 s41 s42 s43 s44 s45 s46 s47 s48 s49 s50 s51 s52 s53 s54 s55 s56 s57 s58 s59 s60 s61 s62 s63 s64 s65 s66 s67 s68 s69 s70 s71 s72 s73 s74 s75 s76 s77 s78 s79 s80 s81 s82 s83 s84 (.slice (some ⟨rb, 0, none⟩) 2 2) (.int .i64 2) s108 s109 s110 s111 s112 s113 s114 s115 s116 s117 s118 s119 s120 s121 a' w' → J a' w') (hK : ∀ a' w', Met J a' w' → K a' w')
    (A : O15 W wA t S (setF O) ob v O) (q : QF cb ob ib C v O i wA S) (hi : i ≤ O.length) (hO : OrdF O 40) (hC : C ≤ 18446744073709551615) (r0 : wA.cell? ⟨rb, 0, none⟩ = some (.int .i64 2)) (r1 : wA.cell? ⟨rb, 1, none⟩ = some (.int .i64 3)) (nr : ¬ S rb) :
    Code.wp Try.prog cLv (Exit.then K Q) ⟨#[s0, s1, s2, s3, s4, .pointer (some ⟨t, 0, none⟩), s6, s7, s8, s9, s10, (.func (.func 11) #[] #[.pointer (some ⟨ib, 0, none⟩), .pointer (some ⟨ob, 0, none⟩), .pointer (some ⟨cb, 0, none⟩)]), .int .i64 (wantF C (O.drop i)), s13, s14, s15, s16, s17, s18, s19, s20, s21, s22, s23, s24, s25, s26, s27, s28, s29, s30, s31, s32, s33, s34, s35, s36, s37, s38, s39, s40, s41, s42, s43, s44, s45, s46, s47, s48, s49, s50, s51, s52, s53, s54, s55, s56, s57, s58, s59, s60, s61, s62, s63, s64, s65, s66, s67, s68, s69, s70, s71, s72, s73, s74, s75, s76, s77, s78, s79, s80, s81, s82, s83, s84, .slice (some ⟨rb, 0, none⟩) 2 2, .int .i64 2, .int .i64 0, s88, s89, s90, s91, s92, s93, s94, s95, s96, s97, s98, s99, s100, s101, s102, s103, s104, s105, s106, s107, s108, s109, s110, s111, s112, s113, s114, s115, s116, s117, s118, s119, s120, s121], []⟩ wA := by
  have gw := wantF_ge C (O.drop i) (fun k hk => (hO.hb k (List.mem_of_mem_drop hk)).1)
  have a2 := all_first (lv := 2) (C := C) (i := i) (.inl rfl) hO.hb hO.nd (fun _ _ => [])
  have a3 := all_first (lv := 3) (C := C) (i := i) (.inr rfl) hO.hb hO.nd (fun _ _ => [])
  obtain ⟨x, ex⟩ : ∃ x, wantF C (O.drop i) = x := ⟨_, rfl⟩
  rw [ex] at a2 a3 gw hJ ⊢
  have HO := Lib.hid hO
  clear ex hO
  conv => arg 2; whnf
  dsimp only
  go_wp2
  go_loopw [87] (fun jv wr => LvR W t cb ob ib C v O i rb jv wr) (fun jv _ => 2 - (intOf jv).toNat)
  case atStart => exact ⟨0, S, by omega, rfl, A, q, r0, r1, nr⟩
  case round =>
    clear A q r0 r1 nr
    obtain ⟨j, S, j2, rfl, A, q, r0, r1, nr⟩ := hrel
    have lr := lt_of_cell (a := ⟨rb, 0, none⟩) r0
    have st : ∀ w' S', VKeep S S' wr w' → w'.cell? ⟨rb, 0, none⟩ = some (.int .i64 2) ∧ w'.cell? ⟨rb, 1, none⟩ = some (.int .i64 3) ∧ ¬ S' rb := fun w' S' k => ⟨k.1.cell r0 nr, k.1.cell r1 nr, fun e => by rcases k.2 _ e with y | y; exact nr y; simp at lr; omega⟩
    have ST := Lib.hid st
    have hN := isNow (W := W) (t := t) (s := setF O) (cb := cb) (ob := ob) (ib := ib) (v := v) hi HO.out.ln hC
    rcases (by omega : j = 0 ∨ j = 1 ∨ j = 2) with rfl | rfl | rfl
    · go_wp2_with fail; refine (jall_any A.r q QF.stay hN spn_nil 2 _ _ a2).mono ?_; rintro e y3 ⟨rfl, S3, C3, k3⟩; have A3 := Lib.hid (A.step C3 k3); have q3 := Lib.hid (q.turn k3); have R3 := Lib.hid (ST.out y3 S3 k3); clear C3 k3 A q r0 r1 st; rcases gw with rfl | gw; (go_wp2; first | exact ⟨⟨1, S3, by omega, by go_num, A3.out, q3.out, R3.out.1, R3.out.2.1, R3.out.2.2⟩, by simp [intOf]⟩ | (refine ⟨?rel2, ?meas2⟩; (case meas2 => (simp [intOf])); (case rel2 => ((repeat apply Exists.intro); exact ⟨⟨1, S3, by omega, by go_num, A3.out, q3.out, R3.out.1, R3.out.2.1, R3.out.2.2⟩, rfl⟩)))); (have g1 : decide (x < 0) = false := decide_eq_false (by omega); have g2 : ¬ x < 0 := (by omega); go_wp2; first | exact ⟨⟨1, S3, by omega, by go_num, A3.out, q3.out, R3.out.1, R3.out.2.1, R3.out.2.2⟩, by simp [intOf]⟩ | (refine ⟨?rel2, ?meas2⟩; (case meas2 => (simp [intOf])); (case rel2 => ((repeat apply Exists.intro); exact ⟨⟨1, S3, by omega, by go_num, A3.out, q3.out, R3.out.1, R3.out.2.1, R3.out.2.2⟩, rfl⟩))))
    · go_wp2_with fail; refine (jall_any A.r q QF.stay hN spn_nil 3 _ _ a3).mono ?_; rintro e y3 ⟨rfl, S3, C3, k3⟩; have A3 := Lib.hid (A.step C3 k3); have q3 := Lib.hid (q.turn k3); have R3 := Lib.hid (ST.out y3 S3 k3); clear C3 k3 A q r0 r1 st; rcases gw with rfl | gw; (go_wp2; first | exact ⟨⟨2, S3, by omega, by go_num, A3.out, q3.out, R3.out.1, R3.out.2.1, R3.out.2.2⟩, by simp [intOf]⟩ | (refine ⟨?rel2, ?meas2⟩; (case meas2 => (simp [intOf])); (case rel2 => ((repeat apply Exists.intro); exact ⟨⟨2, S3, by omega, by go_num, A3.out, q3.out, R3.out.1, R3.out.2.1, R3.out.2.2⟩, rfl⟩)))); (have g1 : decide (x < 0) = false := decide_eq_false (by omega); have g2 : ¬ x < 0 := (by omega); go_wp2; first | exact ⟨⟨2, S3, by omega, by go_num, A3.out, q3.out, R3.out.1, R3.out.2.1, R3.out.2.2⟩, by simp [intOf]⟩ | (refine ⟨?rel2, ?meas2⟩; (case meas2 => (simp [intOf])); (case rel2 => ((repeat apply Exists.intro); exact ⟨⟨2, S3, by omega, by go_num, A3.out, q3.out, R3.out.1, R3.out.2.1, R3.out.2.2⟩, rfl⟩))))
    · have F := Lib.hid (show Z2 W t cb ob ib C v O i wr from ⟨S, A, q⟩)
      clear A q hN st
      go_wp2_with fail
      go_meet
      case rel => exact F.out
end
end Go.Proofs.Ytndpifkpgoeogaa.judgeFirst
