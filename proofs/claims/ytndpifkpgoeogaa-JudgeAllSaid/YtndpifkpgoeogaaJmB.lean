/- Layer 15's made: a set of reads out of what came in, and the lists of its keys and ranges; no condition beyond the argument's own reading. -/
import Derived.Test.YtndpifkpgoeogaaJmA
import Derived.OwnWalk
namespace Go.Proofs.Ytndpifkpgoeogaa.made15
open Go.ChangeShapes Go.WideShapes Go.ChangeAt Go.RowKit
set_option linter.unusedVariables false
noncomputable def cIn : Code := (Try.f24.body.bind (blockIn 2)).getD .skip
noncomputable def cSel : Code := (Try.f24.body.bind (afterR 12)).getD .skip
noncomputable def cBody : Code := (Try.f24.body.bind (blockIn 1)).getD .skip
noncomputable def cLoop : Code := (Try.f24.body.bind (blockIn 0)).getD .skip
noncomputable def cRound : Code := (Try.f24.body.bind loopIn).getD .skip
def hasLo (ks : List OpI) (lo : Int) : Bool := ks.any fun y => y.lo == lo
theorem hasLo_yes {ks : List OpI} {lo : Int} (h : hasLo ks lo = true) : ∃ y ∈ ks, y.lo = lo := by
  obtain ⟨y, hy, e⟩ := List.any_eq_true.1 h
  exact ⟨y, hy, by simpa using e⟩
theorem hasLo_no {ks : List OpI} {lo : Int} (h : hasLo ks lo = false) : ∀ y ∈ ks, y.lo ≠ lo := fun y hy e => by
  have := List.any_eq_false.1 h y hy
  simp [e] at this
theorem hasLo_next {ks : List OpI} {lo : Int} {j : Nat} {y : OpI} (h : ks[j]? = some y) : hasLo (ks.take (j + 1)) lo = (hasLo (ks.take j) lo || (y.lo == lo)) := by
  unfold hasLo
  rw [List.take_add_one, h, List.any_append]
  simp
/-- At a round's end. -/
def Mid (W : World) (t k : Nat) (v1 v2 : Value) (wx : World) : Prop := ∃ S s ks ss, A15 W wx t S s v1 ks v2 ss ∧ I15 W s ks ss (k + 1)
def Rel (W : World) (len t k : Nat) (v1 v2 i : Value) (wr : World) : Prop := ∃ S s ks ss, k ≤ len ∧ k ≤ 40 ∧ i = .int .i64 k ∧ A15 W wr t S s v1 ks v2 ss ∧ I15 W s ks ss k
def RX (W : World) (t : Nat) (v1 v2 : Value) (wx : World) : Prop := ∃ S s ks ss, A15 W wx t S s v1 ks v2 ss ∧ I15 W s ks ss 40
set_option maxRecDepth 1000000 in
/-- Behind the search for the key. -/
def PI (b : Bool) (wA : World) (s0 s1 s2 s3 s4 s5 s6 s7 s8 s9 s12 s13 s14 s15 s16 s17 s18 s19 s20 s21 s22 s23 s24 s25 s26 s27 s28 s29 s30 s31 s32 s33 s34 s35 s36 s37 s38 s39 s40 s41 s42 s43 s44 s45 s46 s47 s48 s49 s50 s51 s52 s53 s54 s55 s56 s57 s58 s59 s60 s61 s62 s63 s64 s65 s66 s67 s68 s69 s70 s71 s72 s73 s91 s92 s93 s94 s95 s96 s97 s98 s99 s100 s101 s102 s103 s104 s105 : Value) (a' : Act) (w' : World) : Prop :=
  ∃ u10 u11 u74 u75 u76 u77 u78 u79 u80 u81 u82 u83 u84 u85 u86 u87 u88 u89 u90 : Value, (u10 = .bool b ∧ ∃ d : Nat, w' = wA.drewN d) ∧ a' = ⟨#[s0, s1, s2, s3, s4, s5, s6, s7, s8, s9, u10, u11, s12, s13, s14, s15, s16, s17, s18, s19, s20, s21, s22, s23, s24, s25, s26, s27, s28, s29, s30, s31, s32, s33, s34, s35, s36, s37, s38, s39, s40, s41, s42, s43, s44, s45, s46, s47, s48, s49, s50, s51, s52, s53, s54, s55, s56, s57, s58, s59, s60, s61, s62, s63, s64, s65, s66, s67, s68, s69, s70, s71, s72, s73, u74, u75, u76, u77, u78, u79, u80, u81, u82, u83, u84, u85, u86, u87, u88, u89, u90, s91, s92, s93, s94, s95, s96, s97, s98, s99, s100, s101, s102, s103, s104, s105], []⟩
set_option maxRecDepth 1000000 in
def PE (W : World) (t k : Nat) (s0 s1 s2 s3 s4 s8 s12 s13 s14 s15 s16 s17 s18 s19 s20 s21 s22 s23 s24 s103 s104 s105 : Value) (a' : Act) (w' : World) : Prop :=
  ∃ u6 u7 u9 u10 u11 u25 u26 u27 u28 u29 u30 u31 u32 u33 u34 u35 u36 u37 u38 u39 u40 u41 u42 u43 u44 u45 u46 u47 u48 u49 u50 u51 u52 u53 u54 u55 u56 u57 u58 u59 u60 u61 u62 u63 u64 u65 u66 u67 u68 u69 u70 u71 u72 u73 u74 u75 u76 u77 u78 u79 u80 u81 u82 u83 u84 u85 u86 u87 u88 u89 u90 u91 u92 u93 u94 u95 u96 u97 u98 u99 u100 u101 u102 : Value, Mid W t k u6 u7 w' ∧ a' = ⟨#[s0, s1, s2, s3, s4, .pointer (some ⟨t, 0, none⟩), u6, u7, s8, u9, u10, u11, s12, s13, s14, s15, s16, s17, s18, s19, s20, s21, s22, s23, s24, u25, u26, u27, u28, u29, u30, u31, u32, u33, u34, u35, u36, u37, u38, u39, u40, u41, u42, u43, u44, u45, u46, u47, u48, u49, u50, u51, u52, u53, u54, u55, u56, u57, u58, u59, u60, u61, u62, u63, u64, u65, u66, u67, u68, u69, u70, u71, u72, u73, u74, u75, u76, u77, u78, u79, u80, u81, u82, u83, u84, u85, u86, u87, u88, u89, u90, u91, u92, u93, u94, u95, u96, u97, u98, u99, u100, u101, u102, s103, s104, s105], []⟩
set_option maxRecDepth 1000000 in
def PX (W : World) (t : Nat) (s0 s1 s2 s3 s4 s12 s13 s14 s103 s104 s105 : Value) (a' : Act) (w' : World) : Prop :=
  ∃ u6 u7 u8 u9 u10 u11 u15 u16 u17 u18 u19 u20 u21 u22 u23 u24 u25 u26 u27 u28 u29 u30 u31 u32 u33 u34 u35 u36 u37 u38 u39 u40 u41 u42 u43 u44 u45 u46 u47 u48 u49 u50 u51 u52 u53 u54 u55 u56 u57 u58 u59 u60 u61 u62 u63 u64 u65 u66 u67 u68 u69 u70 u71 u72 u73 u74 u75 u76 u77 u78 u79 u80 u81 u82 u83 u84 u85 u86 u87 u88 u89 u90 u91 u92 u93 u94 u95 u96 u97 u98 u99 u100 u101 u102 : Value, RX W t u6 u7 w' ∧ a' = ⟨#[s0, s1, s2, s3, s4, .pointer (some ⟨t, 0, none⟩), u6, u7, u8, u9, u10, u11, s12, s13, s14, u15, u16, u17, u18, u19, u20, u21, u22, u23, u24, u25, u26, u27, u28, u29, u30, u31, u32, u33, u34, u35, u36, u37, u38, u39, u40, u41, u42, u43, u44, u45, u46, u47, u48, u49, u50, u51, u52, u53, u54, u55, u56, u57, u58, u59, u60, u61, u62, u63, u64, u65, u66, u67, u68, u69, u70, u71, u72, u73, u74, u75, u76, u77, u78, u79, u80, u81, u82, u83, u84, u85, u86, u87, u88, u89, u90, u91, u92, u93, u94, u95, u96, u97, u98, u99, u100, u101, u102, s103, s104, s105], []⟩
set_option maxRecDepth 1000000 in
def PR (W : World) (len1 t : Nat) (s0 s1 s2 s3 s4 s12 s13 s14 s103 s104 s105 : Value) (m : Nat) (a' : Act) (w' : World) : Prop :=
  ∃ u6 u7 u8 u9 u10 u11 u15 u16 u17 u18 u19 u20 u21 u22 u23 u24 u25 u26 u27 u28 u29 u30 u31 u32 u33 u34 u35 u36 u37 u38 u39 u40 u41 u42 u43 u44 u45 u46 u47 u48 u49 u50 u51 u52 u53 u54 u55 u56 u57 u58 u59 u60 u61 u62 u63 u64 u65 u66 u67 u68 u69 u70 u71 u72 u73 u74 u75 u76 u77 u78 u79 u80 u81 u82 u83 u84 u85 u86 u87 u88 u89 u90 u91 u92 u93 u94 u95 u96 u97 u98 u99 u100 u101 u102 : Value, (∃ k : Nat, m + k = len1 ∧ Rel W len1 t k u6 u7 u8 w') ∧ a' = ⟨#[s0, s1, s2, s3, s4, .pointer (some ⟨t, 0, none⟩), u6, u7, u8, u9, u10, u11, s12, s13, s14, u15, u16, u17, u18, u19, u20, u21, u22, u23, u24, u25, u26, u27, u28, u29, u30, u31, u32, u33, u34, u35, u36, u37, u38, u39, u40, u41, u42, u43, u44, u45, u46, u47, u48, u49, u50, u51, u52, u53, u54, u55, u56, u57, u58, u59, u60, u61, u62, u63, u64, u65, u66, u67, u68, u69, u70, u71, u72, u73, u74, u75, u76, u77, u78, u79, u80, u81, u82, u83, u84, u85, u86, u87, u88, u89, u90, u91, u92, u93, u94, u95, u96, u97, u98, u99, u100, u101, u102, s103, s104, s105], []⟩
def InR (ks : List OpI) (lo : Int) (wA : World) (ov jv : Value) (wr : World) : Prop := ∃ j d : Nat, j ≤ ks.length ∧ jv = .int .i64 j ∧ ov = .bool (hasLo (ks.take j) lo) ∧ wr = wA.drewN d
section
variable {W wA : World} {t k xb len1 cap1 b off gk B : Nat} {S : Nat → Prop} {s : RdS} {v v1 v2 : Value} {ks ss : List OpI} {lo hi link : Int} {sp : Bool} {z : List Int} {a1 : Option Addr} {f : Nat → OpI} {x : OpI} {Q : Exit → Act → World → Prop} {J : Nat → Act → World → Prop} {J1 K JE KE JX KX : Act → World → Prop}
set_option maxRecDepth 1000000 in
set_option maxHeartbeats 8000000 in
theorem inLoop { s0 s1 s2 s3 s4 s5 s7 s8 s12 s13 s14 s15 s16 s17 s18 s19 s20 s21 s22 s23 s24 s25 s26 s27 s28 s29 s30 s31 s32 s33 s34 s35 s36 s37 s38 s39 s40 s41 s42 s43 s44 s45 s46 s47 s48 s49 s50 s51 s52 s53 s54 s55 s56 s57 s58 s59 s60 s61 s62 s63 s64 s65 s66 s67 s68 s69 s70 s71 s72 s73 s74 s75 s76 s77 s78 s79 s80 s81 s82 s83 s84 s85 s86 s87 s88 s89 s90 s91 s92 s93 s94 s95 s96 s97 s98 s99 s100 s101 s102 s103 s104 s105 : Value}
    (hJ : ∀ a' w', PI (hasLo ks lo) wA s0 s1 s2 s3 s4 s5 v1 s7 s8 (.pointer (some ⟨xb, 0, none⟩)) s12 s13 s14 s15 s16 s17 s18 s19 s20 s21 s22 s23 s24 s25 s26 s27 s28 s29 s30 s31 s32 s33 s34 s35 s36 s37 s38 s39 s40 s41 s42 s43 s44 s45 s46 s47 s48 s49 s50 s51 s52 s53 s54 s55 s56 s57 s58 s59 s60 s61 s62 s63 s64 s65 s66 s67 s68 s69 s70 s71 s72 s73 s91 s92 s93 s94 s95 s96 s97 s98 s99 s100 s101 s102 s103 s104 s105 a' w' → J1 a' w') (hK : ∀ a' w', Met J1 a' w' → K a' w')
    (o1 : OwnR B wA v1 ks) (kl : ks.length ≤ 40) (x1 : wA.cell? ⟨xb, 1, none⟩ = some (.int .i64 lo)) :
    Code.wp Try.prog cIn (Exit.then K Q) ⟨#[s0, s1, s2, s3, s4, s5, v1, s7, s8, .pointer (some ⟨xb, 0, none⟩), .bool false, .int .i64 0, s12, s13, s14, s15, s16, s17, s18, s19, s20, s21, s22, s23, s24, s25, s26, s27, s28, s29, s30, s31, s32, s33, s34, s35, s36, s37, s38, s39, s40, s41, s42, s43, s44, s45, s46, s47, s48, s49, s50, s51, s52, s53, s54, s55, s56, s57, s58, s59, s60, s61, s62, s63, s64, s65, s66, s67, s68, s69, s70, s71, s72, s73, s74, s75, s76, s77, s78, s79, s80, s81, s82, s83, s84, s85, s86, s87, s88, s89, s90, s91, s92, s93, s94, s95, s96, s97, s98, s99, s100, s101, s102, s103, s104, s105], []⟩ wA := by
  obtain ⟨A, c, rfl, hA0, hA1⟩ := OwnR.shape o1
  conv => arg 2; whnf
  dsimp only
  go_wp2
  go_loopw [10, 11] (fun ov jv wr => InR ks lo wA ov jv wr) (fun _ jv _ => ks.length - (intOf jv).toNat)
  case atStart => exact ⟨0, 0, Nat.zero_le _, rfl, by simp [hasLo], rfl⟩
  case round =>
    obtain ⟨j, d, hj, rfl, rfl, rfl⟩ := hrel
    by_cases hlt : j < ks.length
    · have wk : IntKind.i64.wrap ((j : Int) + 1) = (j : Int) + 1 := IntWalk.i64_in _ (by omega)
      cases A with
      | none => rw [hA0 rfl] at hlt; simp at hlt
      | some ad =>
        obtain ⟨g, rfl⟩ := hA1 _ rfl
        obtain ⟨y, hy⟩ : ∃ y, ks[j]? = some y := ⟨_, List.getElem?_eq_getElem hlt⟩
        have cj := (OwnR.cells o1 j y hy).2.1
        have tm := hasLo_next (lo := lo) hy
        obtain ⟨q, eq⟩ : ∃ q, y.lo = q := ⟨_, rfl⟩
        rw [eq] at cj tm
        cases hb : hasLo (ks.take j) lo with
        | true =>
          rw [hb, Bool.true_or] at tm
          have TM := Lib.hid tm
          clear hb eq o1 hA0 hA1 tm hy
          go_wp2_with fail
          go_quiet (fail)
          go_wp2
          first | exact ⟨⟨j + 1, _, by omega, by go_num, by rw [TM.out], rfl⟩, by simp [intOf]; omega⟩ | (refine ⟨?rel2, ?meas2⟩; (case meas2 => (simp [intOf]; omega)); (case rel2 => ((repeat apply Exists.intro); exact ⟨⟨j + 1, _, by omega, by go_num, by rw [TM.out], rfl⟩, rfl⟩)))
        | false =>
          rw [hb, Bool.false_or] at tm
          by_cases e : q = lo
          · subst e
            have TM := Lib.hid (tm.trans (show (q == q) = true by simp))
            clear hb eq o1 hA0 hA1 tm hy
            go_wp2_with fail
            go_quiet (fail)
            go_wp2
            first | exact ⟨⟨j + 1, _, by omega, by go_num, by rw [TM.out], rfl⟩, by simp [intOf]; omega⟩ | (refine ⟨?rel2, ?meas2⟩; (case meas2 => (simp [intOf]; omega)); (case rel2 => ((repeat apply Exists.intro); exact ⟨⟨j + 1, _, by omega, by go_num, by rw [TM.out], rfl⟩, rfl⟩)))
          · have q0 : (q == lo) = false := by simpa using e
            have TM := Lib.hid (tm.trans q0)
            clear hb eq o1 hA0 hA1 tm hy e
            go_wp2_with fail
            go_quiet (fail)
            go_wp2
            first | exact ⟨⟨j + 1, _, by omega, by go_num, by rw [TM.out], rfl⟩, by simp [intOf]; omega⟩ | (refine ⟨?rel2, ?meas2⟩; (case meas2 => (simp [intOf]; omega)); (case rel2 => ((repeat apply Exists.intro); exact ⟨⟨j + 1, _, by omega, by go_num, by rw [TM.out], rfl⟩, rfl⟩)))
    · obtain rfl : j = ks.length := by omega
      have e0 : hasLo (ks.take ks.length) lo = hasLo ks lo := by rw [List.take_length]
      clear o1 hA0 hA1
      go_wp2_with fail
      go_meet
      case rel => exact ⟨by rw [e0], d, rfl⟩
/-- The box of a read that is put in order. -/
def BoxR (w : World) (S : Nat → Prop) (v1 v2 : Value) (xb : Nat) (x : OpI) : Prop :=
  (∀ i u, (rC x)[i]? = some u → w.cell? ⟨xb, i, none⟩ = some u) ∧ ¬ S xb ∧ v1.ownBlock ≠ some xb ∧ v2.ownBlock ≠ some xb ∧ xb < w.heap.size
theorem BoxR.step {w w' : World} {S S' : Nat → Prop} (h : BoxR w S v1 v2 xb x) (k : VKeep S S' w w') : BoxR w' S' v1 v2 xb x :=
  ⟨fun i u hu => k.1.cell (h.1 i u hu) h.2.1, fun e => by rcases k.2 _ e with y | y; exact h.2.1 y; have := h.2.2.2.2; omega, h.2.2.1, h.2.2.2.1, Nat.lt_of_lt_of_le h.2.2.2.2 k.1.size⟩
theorem BoxR.quiet {w w' : World} {S : Nat → Prop} (h : BoxR w S v1 v2 xb x) (k : Keep (fun _ => False) w w') : BoxR w' S v1 v2 xb x :=
  ⟨fun i u hu => k.cell (h.1 i u hu) id, h.2.1, h.2.2.1, h.2.2.2.1, Nat.lt_of_lt_of_le h.2.2.2.2 k.size⟩
set_option maxRecDepth 1000000 in
set_option maxHeartbeats 8000000 in
theorem sel { s0 s1 s2 s3 s4 s8 s10 s11 s12 s13 s14 s15 s16 s17 s18 s19 s20 s21 s22 s23 s24 s25 s26 s27 s28 s29 s30 s31 s32 s33 s34 s35 s36 s37 s38 s39 s40 s41 s42 s43 s44 s45 s46 s47 s48 s49 s50 s51 s52 s53 s54 s55 s56 s57 s58 s59 s60 s61 s62 s63 s64 s65 s66 s67 s68 s69 s70 s71 s72 s73 s74 s75 s76 s77 s78 s79 s80 s81 s82 s83 s84 s85 s86 s87 s88 s89 s90 s91 s92 s93 s94 s95 s96 s97 s98 s99 s100 s101 s102 s103 s104 s105 : Value}
    (hJE : ∀ a' w', PE W t k s0 s1 s2 s3 s4 s8 s12 s13 s14 s15 s16 s17 s18 s19 s20 s21 s22 s23 s24 s103 s104 s105 a' w' → JE a' w') (hKE : ∀ a' w', Met JE a' w' → KE a' w')
    (A : A15 W wA t S s v1 ks v2 ss) (I : I15 W s ks ss k) (k40 : k < 40) (X : BoxR wA S v1 v2 xb x) (hb : 0 ≤ x.lo ∧ x.lo ≤ x.hi ∧ x.hi ≤ 63 ∧ x.z.length ≤ 5 ∧ Lies W x.v x.z) (hk : 0 ≤ x.link ∧ x.link ≤ 3) :
    Code.wp Try.prog cSel (Exit.inBlock 1 (Exit.then KE Q)) ⟨#[s0, s1, s2, s3, s4, .pointer (some ⟨t, 0, none⟩), v1, v2, s8, .pointer (some ⟨xb, 0, none⟩), s10, s11, s12, s13, s14, s15, s16, s17, s18, s19, s20, s21, s22, s23, s24, s25, s26, s27, s28, s29, s30, s31, s32, s33, s34, s35, s36, s37, s38, s39, s40, s41, s42, s43, s44, s45, s46, s47, s48, s49, s50, s51, s52, s53, s54, s55, s56, s57, s58, s59, s60, s61, s62, s63, s64, s65, s66, s67, s68, s69, s70, s71, s72, s73, s74, s75, s76, s77, s78, s79, s80, s81, s82, s83, s84, s85, s86, s87, s88, s89, s90, s91, s92, s93, s94, s95, s96, s97, s98, s99, s100, s101, s102, s103, s104, s105], []⟩ wA := by
  obtain ⟨sp, lo, hi, link, xv, xz⟩ := x
  have x0 := X.1 0 _ rfl
  have x1 := X.1 1 _ rfl
  have x2 := X.1 2 _ rfl
  have x3 := X.1 3 _ rfl
  have x4 := X.1 4 _ rfl
  simp only at x0 x1 x2 x3 x4 hb hk
  obtain ⟨Ax, cx, ev, _⟩ := id hb.2.2.2.2
  have ln := I.ln
  conv => arg 2; whnf
  dsimp only
  cases sp with
  | true =>
    have hs := I.room (z := xz) hb.1 hb.2.1 hb.2.2.1 (show k < 64 by omega)
    have HI := Lib.hid (I.span (x := ⟨true, lo, hi, link, xv, xz⟩) hb)
    have lx := Lies.below A.r.b hb.2.2.2.2
    subst ev
    have X := Lib.hid X
    go_wp2_with fail
    refine (rd_span A.r lo hi _ xz lx (by omega) _ _ hs).mono ?_
    rintro e w1 ⟨rfl, S1, C1, k1⟩
    have A1 := A.step C1 k1
    have X1 := X.out.step k1
    have y0 := X1.1 0 _ rfl
    have y1 := X1.1 1 _ rfl
    have y2 := X1.1 2 _ rfl
    have y3 := X1.1 3 _ rfl
    have y4 := X1.1 4 _ rfl
    simp only at y0 y1 y2 y3 y4
    clear C1 k1 x0 x1 x2 x3 x4 hs lx A X X1
    go_wp2_with (with_reducible refine wp_stop 73 rfl ?_)
    intro _
    refine wp_pushRd rfl (.tmp 70) (.tmp 72) rfl W.heap.size A1.r.b.size v2 ss rfl A1.a2 ⟨true, lo, hi, link, .slice Ax xz.length cx, xz⟩ rfl rfl (by omega) ?_
    intro g2 c2 q3 o3 k3 hg3
    have B := Lib.hid (show Mid W t k v1 (.slice (some ⟨g2, 0, none⟩) (ss.length + 1) c2) q3 from ⟨S1, _, ks, _, A1.push2 o3 k3 hg3, HI.out⟩)
    clear o3 k3 hg3 y0 y1 y2 y3 y4 A1
    go_wp2_with fail
    go_meet
    case rel => exact B.out
  | false =>
    go_upto_block 2 with fail
    rename_i K5 hK5
    go_cut [10] from 74 to 90 (fun ov wx => ov = .bool (hasLo ks lo) ∧ ∃ d : Nat, wx = wA.drewN d)
    case first =>
      rename_i J6 K6 hJ6 hK6
      exact inLoop hJ6 hK6 A.a1 (by omega) x1
    case rest =>
    obtain ⟨rfl, d, rfl⟩ := hcut
    refine hK5 _ _ ?_
    have kd := drewN_keep (fun _ => False) wA d
    have A := A.quiet kd
    have X := X.quiet kd
    obtain ⟨wB, eB⟩ : ∃ w, wA.drewN d = w := ⟨_, rfl⟩
    rw [eB] at A X ⊢
    clear hK5 kd eB x0 x1 x2 x3 x4
    have x1 := X.1 1 _ rfl
    have x3 := X.1 3 _ rfl
    simp only at x1 x3
    have XX := Lib.hid X
    clear X
    cases hm : hasLo ks lo with
    | true =>
      have hs := I.old (link := link) hb.1 (by omega) (hasLo_yes hm)
      have HI := Lib.hid (I.up (m := k + 1) (by omega))
      go_wp2_with fail
      refine (rd_add A.r lo link ⟨hk.1, by omega⟩ _ _ hs).mono ?_
      rintro e w1 ⟨rfl, S1, C1, k1⟩
      have B := Lib.hid (show Mid W t k v1 v2 w1 from ⟨S1, _, ks, ss, A.step C1 k1, HI.out⟩)
      clear C1 k1 hs A x1 x3
      go_wp2_with fail
      go_meet
      case rel => exact B.out
    | false =>
      have hs := I.new (link := link) hb.1 (by omega) (hasLo_no hm)
      have HI := Lib.hid (I.key (x := ⟨false, lo, hi, link, xv, xz⟩) ⟨hb.1, by show lo ≤ 63; omega, hk⟩ (hasLo_no hm))
      subst ev
      go_wp2_with fail
      refine (rd_add A.r lo link ⟨hk.1, by omega⟩ _ _ hs).mono ?_
      rintro e w1 ⟨rfl, S1, C1, k1⟩
      have A1 := A.step C1 k1
      have X1 := XX.out.step k1
      have y0 := X1.1 0 _ rfl
      have y1 := X1.1 1 _ rfl
      have y2 := X1.1 2 _ rfl
      have y3 := X1.1 3 _ rfl
      have y4 := X1.1 4 _ rfl
      simp only at y0 y1 y2 y3 y4
      clear C1 k1 hs A x1 x3 X1
      go_wp2_with (with_reducible refine wp_stop 102 rfl ?_)
      intro _
      refine wp_pushRd rfl (.tmp 99) (.tmp 101) rfl W.heap.size A1.r.b.size v1 ks rfl A1.a1 ⟨false, lo, hi, link, .slice Ax xz.length cx, xz⟩ rfl rfl (by omega) ?_
      intro g2 c2 q3 o3 k3 hg3
      have B := Lib.hid (show Mid W t k (.slice (some ⟨g2, 0, none⟩) (ks.length + 1) c2) v2 q3 from ⟨S1, _, _, ss, A1.push1 o3 k3 hg3, HI.out⟩)
      clear o3 k3 hg3 y0 y1 y2 y3 y4 A1
      go_wp2_with fail
      go_meet
      case rel => exact B.out
theorem mk_box {w : World} (A : A15 W w t S s v1 ks v2 ss) (x : OpI) : A15 W (w.alloc (.cells #[.bool x.sp, .int .i64 x.lo, .int .i64 x.hi, .int .u64 x.link, x.v] 48)) t S s v1 ks v2 ss ∧ BoxR (w.alloc (.cells #[.bool x.sp, .int .i64 x.lo, .int .i64 x.hi, .int .u64 x.link, x.v] 48)) S v1 v2 w.heap.size x := by
  refine ⟨A.quiet ((Keep.refl _ _).alloc _), fun i u hu => ?_, fun e => by have := A.r.lt _ e; omega, fun e => by have := (OwnR.lt A.a1 e).2; omega, fun e => by have := (OwnR.lt A.a2 e).2; omega, by simp⟩
  match i, hu with
  | 0, hu => simp [rC] at hu; subst hu; simp
  | 1, hu => simp [rC] at hu; subst hu; simp
  | 2, hu => simp [rC] at hu; subst hu; simp
  | 3, hu => simp [rC] at hu; subst hu; simp
  | 4, hu => simp [rC] at hu; subst hu; simp
theorem lies_take {w : World} {A : Option Addr} {c : Nat} {z : List Int} (h : Lies w (.slice A z.length c) z) (hz : 5 < z.length) : Lies w (.slice A 5 c) (z.take 5) := by
  obtain ⟨A', c', e, hc, hf⟩ := h
  cases e
  have el : (z.take 5).length = 5 := by rw [List.length_take]; omega
  refine ⟨A, c, by rw [el], by omega, fun _ => ?_⟩
  obtain ⟨b, off, hA, hb, he⟩ := hf (by omega)
  refine ⟨b, off, hA, hb, fun j hj => ?_⟩
  rw [he j (by omega)]
  congr 2
  rw [List.getD_eq_getElem?_getD, List.getD_eq_getElem?_getD, List.getElem?_take_of_lt (by omega)]
set_option maxRecDepth 1000000 in
set_option maxHeartbeats 8000000 in
theorem body { s1 s2 s3 s4 s9 s10 s11 s12 s13 s14 s15 s16 s17 s18 s19 s20 s21 s22 s23 s24 s25 s26 s27 s28 s29 s30 s31 s32 s33 s34 s35 s36 s37 s38 s39 s40 s41 s42 s43 s44 s45 s46 s47 s48 s49 s50 s51 s52 s53 s54 s55 s56 s57 s58 s59 s60 s61 s62 s63 s64 s65 s66 s67 s68 s69 s70 s71 s72 s73 s74 s75 s76 s77 s78 s79 s80 s81 s82 s83 s84 s85 s86 s87 s88 s89 s90 s91 s92 s93 s94 s95 s96 s97 s98 s99 s100 s101 s102 s103 s104 s105 : Value}
    (hJE : ∀ a' w', PE W t k (.slice (some ⟨b, off, none⟩) len1 cap1) s1 s2 s3 s4 (.int .i64 k) s12 s13 s14 s15 s16 s17 s18 s19 s20 s21 s22 s23 s24 s103 s104 s105 a' w' → JE a' w') (hKE : ∀ a' w', Met JE a' w' → KE a' w')
    (hl : k < len1) (hlc : len1 ≤ cap1 ∧ cap1 ≤ 9223372036854775807) (k40 : k < 40) {Ax : Option Addr} {cx : Nat}
    (d0 : wA.cell? ⟨b, off + k * 5, none⟩ = some (.bool sp)) (d1 : wA.cell? ⟨b, off + k * 5 + 1, none⟩ = some (.int .i64 lo)) (d2 : wA.cell? ⟨b, off + k * 5 + 2, none⟩ = some (.int .i64 hi)) (d3 : wA.cell? ⟨b, off + k * 5 + 3, none⟩ = some (.int .u64 link)) (d4 : wA.cell? ⟨b, off + k * 5 + 4, none⟩ = some (.slice Ax z.length cx))
    (ul : U64 link) (hz : Lies W (.slice Ax z.length cx) z) (A : A15 W wA t S s v1 ks v2 ss) (I : I15 W s ks ss k) :
    Code.wp Try.prog cBody (Exit.then KE Q) ⟨#[.slice (some ⟨b, off, none⟩) len1 cap1, s1, s2, s3, s4, .pointer (some ⟨t, 0, none⟩), v1, v2, .int .i64 k, s9, s10, s11, s12, s13, s14, s15, s16, s17, s18, s19, s20, s21, s22, s23, s24, s25, s26, s27, s28, s29, s30, s31, s32, s33, s34, s35, s36, s37, s38, s39, s40, s41, s42, s43, s44, s45, s46, s47, s48, s49, s50, s51, s52, s53, s54, s55, s56, s57, s58, s59, s60, s61, s62, s63, s64, s65, s66, s67, s68, s69, s70, s71, s72, s73, s74, s75, s76, s77, s78, s79, s80, s81, s82, s83, s84, s85, s86, s87, s88, s89, s90, s91, s92, s93, s94, s95, s96, s97, s98, s99, s100, s101, s102, s103, s104, s105], []⟩ wA := by
  obtain ⟨L, eL⟩ : ∃ L, lo % 64 = L := ⟨_, rfl⟩
  obtain ⟨H, eH⟩ : ∃ H, hi % 64 = H := ⟨_, rfl⟩
  obtain ⟨M, eM⟩ : ∃ M, link % 4 = M := ⟨_, rfl⟩
  have m1 : bits .and .i64 lo 63 = L := (i64_mask lo 6 (by decide)).trans eL
  have m2 : bits .and .i64 hi 63 = H := (i64_mask hi 6 (by decide)).trans eH
  have m3 : bits .and .u64 link 3 = M := (u64_maskP 2 (by decide) link ul.1 ul.2).trans eM
  have bL : 0 ≤ L ∧ L ≤ 63 := by omega
  have bH : 0 ≤ H ∧ H ≤ 63 := by omega
  have bM : 0 ≤ M ∧ M ≤ 3 := by omega
  have hcx : z.length ≤ cx := by obtain ⟨_, _, e, h, _⟩ := hz; cases e; exact h
  clear eL eH eM
  have AA := Lib.hid A
  have II := Lib.hid I
  clear A I
  conv => arg 2; whnf
  dsimp only
  by_cases h5 : 5 < z.length
  · have q5 : decide ((5 : Int) < (z.length : Int)) = true := decide_eq_true (by omega)
    have lz := lies_take hz h5
    have l5 : (z.take 5).length ≤ 5 := by rw [List.length_take]; omega
    go_upto_region 12 with fail
    rename_i Ko hKo K5 hK5
    have HK := Lib.hid hKo
    clear hKo d0 d1 d2 d3 d4
    by_cases hs : H < L
    · go_wp2_with fail
      obtain ⟨B, X⟩ := mk_box AA.out ⟨sp, H, L, M, .slice Ax 5 cx, z.take 5⟩
      exact HK.out _ _ (sel hJE hKE B II.out k40 X ⟨bH.1, by show H ≤ L; omega, bL.2, l5, lz⟩ bM)
    · go_wp2_with fail
      obtain ⟨B, X⟩ := mk_box AA.out ⟨sp, L, H, M, .slice Ax 5 cx, z.take 5⟩
      exact HK.out _ _ (sel hJE hKE B II.out k40 X ⟨bL.1, by show L ≤ H; omega, bH.2, l5, lz⟩ bM)
  · have q5 : decide ((5 : Int) < (z.length : Int)) = false := decide_eq_false (by omega)
    have l5 : z.length ≤ 5 := by omega
    go_upto_region 12 with fail
    rename_i Ko hKo K5 hK5
    have HK := Lib.hid hKo
    clear hKo d0 d1 d2 d3 d4
    by_cases hs : H < L
    · go_wp2_with fail
      obtain ⟨B, X⟩ := mk_box AA.out ⟨sp, H, L, M, .slice Ax z.length cx, z⟩
      exact HK.out _ _ (sel hJE hKE B II.out k40 X ⟨bH.1, by show H ≤ L; omega, bL.2, l5, hz⟩ bM)
    · go_wp2_with fail
      obtain ⟨B, X⟩ := mk_box AA.out ⟨sp, L, H, M, .slice Ax z.length cx, z⟩
      exact HK.out _ _ (sel hJE hKE B II.out k40 X ⟨bL.1, by show L ≤ H; omega, bH.2, l5, hz⟩ bM)
set_option maxRecDepth 1000000 in
set_option maxHeartbeats 8000000 in
theorem oneRound { s1 s2 s3 s4 s9 s10 s11 s12 s13 s14 s15 s16 s17 s18 s19 s20 s21 s22 s23 s24 s25 s26 s27 s28 s29 s30 s31 s32 s33 s34 s35 s36 s37 s38 s39 s40 s41 s42 s43 s44 s45 s46 s47 s48 s49 s50 s51 s52 s53 s54 s55 s56 s57 s58 s59 s60 s61 s62 s63 s64 s65 s66 s67 s68 s69 s70 s71 s72 s73 s74 s75 s76 s77 s78 s79 s80 s81 s82 s83 s84 s85 s86 s87 s88 s89 s90 s91 s92 s93 s94 s95 s96 s97 s98 s99 s100 s101 s102 s103 s104 s105 : Value}
    (hJ : ∀ n' a' w', PR W len1 t (.slice a1 len1 cap1) s1 s2 s3 s4 s12 s13 s14 s103 s104 s105 n' a' w' → J n' a' w') (hK : ∀ a' w', Handed J gk a' w' → K a' w')
    (hJX : ∀ a' w', PX W t (.slice a1 len1 cap1) s1 s2 s3 s4 s12 s13 s14 s103 s104 s105 a' w' → JX a' w') (hKX : ∀ a' w', Met JX a' w' → KX a' w')
    (hgk : gk + k = len1) (w1 : IsOps W a1 len1 cap1 f) (kl : k ≤ len1) (k40 : k ≤ 40) (A : A15 W wA t S s v1 ks v2 ss) (I : I15 W s ks ss k) :
    Code.wp Try.prog cRound (Exit.then K (Exit.inBlock 0 (Exit.then KX Q))) ⟨#[.slice a1 len1 cap1, s1, s2, s3, s4, .pointer (some ⟨t, 0, none⟩), v1, v2, .int .i64 k, s9, s10, s11, s12, s13, s14, s15, s16, s17, s18, s19, s20, s21, s22, s23, s24, s25, s26, s27, s28, s29, s30, s31, s32, s33, s34, s35, s36, s37, s38, s39, s40, s41, s42, s43, s44, s45, s46, s47, s48, s49, s50, s51, s52, s53, s54, s55, s56, s57, s58, s59, s60, s61, s62, s63, s64, s65, s66, s67, s68, s69, s70, s71, s72, s73, s74, s75, s76, s77, s78, s79, s80, s81, s82, s83, s84, s85, s86, s87, s88, s89, s90, s91, s92, s93, s94, s95, s96, s97, s98, s99, s100, s101, s102, s103, s104, s105], []⟩ wA := by
  have l2 := w1.cap
  have l3 := w1.max
  by_cases hlt : k < len1 ∧ k < 40
  · obtain ⟨hl, h40⟩ := hlt
    obtain ⟨b, off, ea, hb, hc⟩ := w1.cell (by omega)
    subst ea
    have ho := w1.ok k hl
    have hll := w1.lies k hl
    obtain ⟨c0, c1, c2, c3, c4⟩ := hc k hl
    obtain ⟨Ax, cx, ev, _⟩ := id hll
    rw [ev] at c4 hll
    have d0 := (A.r.b.cell (p := ⟨b, off + k * 5, none⟩) hb).trans c0
    have d1 := (A.r.b.cell (p := ⟨b, off + k * 5 + 1, none⟩) hb).trans c1
    have d2 := (A.r.b.cell (p := ⟨b, off + k * 5 + 2, none⟩) hb).trans c2
    have d3 := (A.r.b.cell (p := ⟨b, off + k * 5 + 3, none⟩) hb).trans c3
    have d4 := (A.r.b.cell (p := ⟨b, off + k * 5 + 4, none⟩) hb).trans c4
    clear c0 c1 c2 c3 c4 hc ev
    conv => arg 2; whnf
    dsimp only
    go_upto_block 1 with fail
    rename_i K5 hK5
    have HK := Lib.hid hK5
    clear hK5
    go_cut [6, 7] from 25 to 102 (fun v1 v2 wx => Mid W t k v1 v2 wx)
    case first =>
      rename_i JE KE hJE hKE
      exact body hJE hKE hl ⟨l2, l3⟩ h40 d0 d1 d2 d3 d4 ⟨ho.b3.1, ho.b3.2⟩ hll A I
    case rest =>
      obtain ⟨S2, s2, y1, y2, A2, I2⟩ := hcut
      have hK5 := HK.out
      have wk : IntKind.i64.wrap ((k : Int) + 1) = (k : Int) + 1 := IntWalk.i64_in _ (by omega)
      clear HK d0 d1 d2 d3 d4 A I hll ho
      go_wp2_with fail
      go_roundg (len1 - (k + 1))
      case measure => omega
      case rel => exact ⟨k + 1, by omega, S2, s2, y1, y2, by omega, by omega, by go_num, A2, I2⟩
  · have F := Lib.hid (show RX W t v1 v2 wA from ⟨S, s, ks, ss, A, I.up k40⟩)
    clear A I w1
    conv => arg 2; whnf
    dsimp only
    rcases (by omega : (k = 40 ∧ k < len1) ∨ k = len1) with ⟨rfl, hl⟩ | rfl
    all_goals
      clear hlt
      go_wp2_with fail
      go_meet
      case rel => exact F.out
set_option maxRecDepth 1000000 in
set_option maxHeartbeats 8000000 in
theorem theLoop { s1 s2 s3 s4 s9 s10 s11 s12 s13 s14 s15 s16 s17 s18 s19 s20 s21 s22 s23 s24 s25 s26 s27 s28 s29 s30 s31 s32 s33 s34 s35 s36 s37 s38 s39 s40 s41 s42 s43 s44 s45 s46 s47 s48 s49 s50 s51 s52 s53 s54 s55 s56 s57 s58 s59 s60 s61 s62 s63 s64 s65 s66 s67 s68 s69 s70 s71 s72 s73 s74 s75 s76 s77 s78 s79 s80 s81 s82 s83 s84 s85 s86 s87 s88 s89 s90 s91 s92 s93 s94 s95 s96 s97 s98 s99 s100 s101 s102 s103 s104 s105 : Value}
    (hJX : ∀ a' w', PX W t (.slice a1 len1 cap1) s1 s2 s3 s4 s12 s13 s14 s103 s104 s105 a' w' → JX a' w') (hKX : ∀ a' w', Met JX a' w' → KX a' w')
    (w1 : IsOps W a1 len1 cap1 f) (A : A15 W wA t S RdS.new (.slice none 0 0) [] (.slice none 0 0) []) :
    Code.wp Try.prog cLoop (Exit.then KX Q) ⟨#[.slice a1 len1 cap1, s1, s2, s3, s4, .pointer (some ⟨t, 0, none⟩), .slice none 0 0, .slice none 0 0, .int .i64 0, s9, s10, s11, s12, s13, s14, s15, s16, s17, s18, s19, s20, s21, s22, s23, s24, s25, s26, s27, s28, s29, s30, s31, s32, s33, s34, s35, s36, s37, s38, s39, s40, s41, s42, s43, s44, s45, s46, s47, s48, s49, s50, s51, s52, s53, s54, s55, s56, s57, s58, s59, s60, s61, s62, s63, s64, s65, s66, s67, s68, s69, s70, s71, s72, s73, s74, s75, s76, s77, s78, s79, s80, s81, s82, s83, s84, s85, s86, s87, s88, s89, s90, s91, s92, s93, s94, s95, s96, s97, s98, s99, s100, s101, s102, s103, s104, s105], []⟩ wA := by
  conv => arg 2; whnf
  dsimp only
  go_wp2_with fail
  go_loopg [6, 7, 8] len1 (fun m v1 v2 i wr => ∃ k : Nat, m + k = len1 ∧ Rel W len1 t k v1 v2 i wr)
  case atStart => exact ⟨0, rfl, S, RdS.new, [], [], Nat.zero_le _, by omega, rfl, A, I15.start W⟩
  case round =>
    rename_i J1 K4 hJ4 hK4
    obtain ⟨k, hgk, S', s', ks', ss', kl, k40, rfl, A', I'⟩ := hrel
    exact oneRound hJ4 hK4 hJX hKX hgk w1 kl k40 A' I'
/-- A set of reads out of what came in, and its keys and ranges. -/
theorem made_any {w : World} (w1 : IsOps W a1 len1 cap1 f) (hb : Below W.heap.size W w) : Calls Try.prog 24 #[.slice a1 len1 cap1] w fun e w' => ∃ t v1 v2 S s ks ss, e = .returned (.tuple #[.pointer (some ⟨t, 0, none⟩), v1, v2]) ∧ A15 W w' t S s v1 ks v2 ss ∧ I15 W s ks ss 40 := by
  go_enter Try.func24, Try.ntmps24
  go_wp2_with fail
  refine (rd_made hb).mono ?_
  rintro e y1 ⟨t, S1, rfl, h1, _, _⟩
  have A := A15.start h1
  clear h1
  go_upto_block 0 with fail
  rename_i K5 hK5
  go_cut [6, 7] from 15 to 102 (fun v1 v2 wx => RX W t v1 v2 wx)
  case first =>
    rename_i JX KX hJX hKX
    exact theLoop hJX hKX w1 A
  case rest =>
    have F := Lib.hid hcut
    refine hK5 _ _ ?_
    clear hK5 hcut A
    go_wp2
    go_ret3
    obtain ⟨S, s, ks, ss, A, I⟩ := F.out
    exact ⟨t, _, _, S, s, ks, ss, rfl, A, I⟩
end
end Go.Proofs.Ytndpifkpgoeogaa.made15
