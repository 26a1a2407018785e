/- Proved here: vinculumlaw10.HashDrops returns true and leaves its arguments as they were, for any four ints; no further condition. -/
import Derived.Test.YtmfpjnlplimkeaaGreatHsD
import Derived.Test.YtmfpjnlplimkeaaGreatMask
import Derived.ChangeOld
import Derived.Deep.CutRange
import Derived.Deep.CutBlock
import Derived.Deep.LoopGhost
namespace Go.Proofs.YtmfpjnlplimkeaaGreat.hashDrops
open Go.ChangeShapes Go.WideShapes Go.ChangeAt Go.RowKit
set_option linter.unusedVariables false

/-- Both keys are there, with these links; the first k slots are taken. -/
structure Two10 (h : HS) (a b m : Nat) (la lb : List Int) (s : RS) : Prop where
  ha : h.ch a = some la
  hb : h.ch b = some lb
  ho : ∀ c, c ≠ a → c ≠ b → h.ch c = none
  ba : ∀ x ∈ la, 1 ≤ x ∧ x ≤ m
  bb : ∀ x ∈ lb, 1 ≤ x ∧ x ≤ m
  f : Fill s 40 m
theorem Two10.same {h : HS} {a b m : Nat} {la lb : List Int} {s s' : RS} (t : Two10 h a b m la lb s) (e : s'.s = s.s) : Two10 h a b m la lb s' := ⟨t.ha, t.hb, t.ho, t.ba, t.bb, t.f.same e⟩
theorem Two10.none {h : HS} {a b m : Nat} {la lb : List Int} {s : RS} (t : Two10 h a b m la lb s) {y : Int} (h1 : y ∉ la) (h2 : y ∉ lb) : ∀ k l, h.ch k = some l → y ∉ l := fun k l hk => by
  by_cases e : k = a
  · subst e
    rw [t.ha] at hk
    cases hk
    exact h1
  · by_cases e2 : k = b
    · subst e2
      rw [t.hb] at hk
      cases hk
      exact h2
    · rw [t.ho k e e2] at hk
      cases hk
theorem Two10.setA {h : HS} {a b m : Nat} {la lb : List Int} {s : RS} (t : Two10 h a b m la lb s) (hab : b ≠ a) {l' : List Int} {m' : Nat} {s' : RS} (hl : ∀ x ∈ l', 1 ≤ x ∧ x ≤ m') (hm : m ≤ m') (f : Fill s' 40 m') : Two10 (h.set a l') a b m' l' lb s' :=
  ⟨HS.set_at, by rw [HS.set_ne hab]; exact t.hb, fun c h1 h2 => by rw [HS.set_ne h1]; exact t.ho c h1 h2, hl, fun x hx => by have := t.bb x hx; omega, f⟩
theorem Two10.setB {h : HS} {a b m : Nat} {la lb : List Int} {s : RS} (t : Two10 h a b m la lb s) (hab : b ≠ a) {l' : List Int} {m' : Nat} {s' : RS} (hl : ∀ x ∈ l', 1 ≤ x ∧ x ≤ m') (hm : m ≤ m') (f : Fill s' 40 m') : Two10 (h.set b l') a b m' la l' s' :=
  ⟨by rw [HS.set_ne (Ne.symm hab)]; exact t.ha, HS.set_at, fun c h1 h2 => by rw [HS.set_ne h2]; exact t.ho c h1 h2, fun x hx => by have := t.ba x hx; omega, hl, f⟩
theorem keys_two {h : HS} {a b : Nat} (ha : (h.ch a).isSome = true) (hb : (h.ch b).isSome = true) (hab : b ≠ a) (ho : ∀ c, c ≠ a → c ≠ b → h.ch c = none) : ∀ m, (h.keys m).length = (if a < m then 1 else 0) + (if b < m then 1 else 0)
  | 0 => by simp [HS.keys]
  | m + 1 => by
    have ih := keys_two ha hb hab ho m
    unfold HS.keys
    by_cases e : m = a
    · subst e
      rw [if_pos ha, List.length_append, ih, List.length_singleton, if_neg (Nat.lt_irrefl _), if_pos (Nat.lt_succ_self _)]
      by_cases hl : b < m
      · rw [if_pos hl, if_pos (by omega)] <;> omega
      · rw [if_neg hl, if_neg (by omega)] <;> omega
    · by_cases e2 : m = b
      · subst e2
        rw [if_pos hb, List.length_append, ih, List.length_singleton, if_neg (Nat.lt_irrefl m), if_pos (Nat.lt_succ_self m)]
        by_cases hl : a < m
        · rw [if_pos hl, if_pos (by omega)]
        · rw [if_neg hl, if_neg (by omega)]
      · rw [ho m e e2, if_neg (by simp), ih]
        have e3 : (a < m + 1) = (a < m) := propext ⟨fun _ => by omega, fun _ => by omega⟩
        have e4 : (b < m + 1) = (b < m) := propext ⟨fun _ => by omega, fun _ => by omega⟩
        simp only [e3, e4]
def R1 (w : World) (x p B a b n c d j : Nat) (i : Value) (wr : World) : Prop :=
  ∃ S s h D la lb, j ≤ n ∧ i = .int .i64 j ∧ Hsh w wr x p B S s h D (9000 + 5000 * j) ∧ D c a ∧ D d b ∧ Two10 h a b (2 * j) la lb s ∧ la.length = j ∧ lb.length = j
def R2 (w : World) (x p B a b n c d j : Nat) (i : Value) (wr : World) : Prop :=
  ∃ S s h D la lb, j ≤ n ∧ i = .int .i64 j ∧ Hsh w wr x p B S s h D (100000 + 5000 * j) ∧ D c a ∧ D d b ∧ Two10 h a b (2 * n) la lb s ∧ la.length + j = n ∧ lb.length = n
set_option maxRecDepth 100000 in
set_option maxHeartbeats 8000000 in
theorem walk (a0 a1 a2 a3 : Int) (w : World) (w0 : (Lit.int .i64 a0).wf = true) (w1 : (Lit.int .i64 a1).wf = true) (w2 : (Lit.int .i64 a2).wf = true) (w3 : (Lit.int .i64 a3).wf = true) :
    Calls Tryz.prog 3 #[.int .i64 a0, .int .i64 a1, .int .i64 a2, .int .i64 a3] w fun e w' => e = .returned (.bool true) ∧ Below w.heap.size w w' := by
  obtain ⟨a, ea⟩ : ∃ n : Nat, a0 % 64 = (n : Int) := ⟨(a0 % 64).toNat, by omega⟩
  obtain ⟨b1, eb⟩ : ∃ n : Nat, a1 % 64 = (n : Int) := ⟨(a1 % 64).toNat, by omega⟩
  obtain ⟨B, eB⟩ : ∃ n : Nat, a2 % 64 + 1 = (n : Int) := ⟨(a2 % 64 + 1).toNat, by omega⟩
  obtain ⟨q3, eq3⟩ : ∃ q, a3 % 256 = q := ⟨_, rfl⟩
  obtain ⟨n, en⟩ : ∃ n : Nat, q3 % 10 + 1 = (n : Int) := ⟨(q3 % 10 + 1).toNat, by omega⟩
  have ab : a < 64 := by omega
  have bb : b1 < 64 := by omega
  have Bb : 1 ≤ B ∧ B ≤ 64 := by omega
  have nb : 1 ≤ n ∧ n ≤ 10 := by omega
  have h0 : bits .and .i64 a0 63 = (a : Int) := (i64_mask a0 6 (by decide)).trans ea
  have h1 : bits .and .i64 a1 63 = (b1 : Int) := (i64_mask a1 6 (by decide)).trans eb
  have h2 : bits .and .i64 a2 63 = (B : Int) - 1 := (i64_mask a2 6 (by decide)).trans (by omega)
  have h3 := i64_mask8 a3
  rw [eq3] at h3
  have e3 : q3.tmod 10 = q3 % 10 := Int.tmod_eq_emod_of_nonneg (by omega)
  have wq : IntKind.i64.wrap (q3 % 10) = q3 % 10 := IntWalk.i64_in _ (by omega)
  have wq2 : IntKind.i64.wrap (q3 % 10 + 1) = (n : Int) := by rw [IntWalk.i64_in _ (by omega)]; exact en
  have wB : IntKind.i64.wrap ((B : Int) - 1 + 1) = (B : Int) := by rw [IntWalk.i64_in _ (by omega)]; omega
  have wa : IntKind.i64.wrap ((a : Int) + 1) = (a : Int) + 1 := IntWalk.i64_in _ (by omega)
  obtain ⟨a', ea'⟩ : ∃ n : Nat, ((a : Int) + 1) % 64 = (n : Int) := ⟨(((a : Int) + 1) % 64).toNat, by omega⟩
  have h4 : bits .and .i64 ((a : Int) + 1) 63 = (a' : Int) := (i64_mask _ 6 (by decide)).trans ea'
  have a'b : a' < 64 ∧ a' ≠ a := by omega
  clear ea eb eB eq3 w0 w1 w2 w3
  go_enter Tryz.func3, Tryz.ntmps3
  go_upto_if 42 with fail
  go_cut [1] from 43 to 209 (fun s wx => (∃ b : Nat, s = .int .i64 b ∧ b < 64 ∧ b ≠ a) ∧ w = wx)
  case first =>
    by_cases e : a = b1
    · subst e
      go_wp2_with fail
      go_meet
      case rel => exact ⟨⟨a', rfl, a'b.1, a'b.2⟩, rfl⟩
    · have q0 : ((a : Int) == (b1 : Int)) = false := by rw [beq_eq_false_iff_ne]; omega
      go_wp2_with fail
      go_meet
      case rel => exact ⟨⟨b1, rfl, bb, fun x => e x.symm⟩, rfl⟩
  case rest =>
  obtain ⟨⟨b, rfl, bl, bne⟩, rfl⟩ := hcut
  clear h4 a'b h0 h1 h2 h3 wa wB wq wq2 e3
  go_wp2_with fail
  refine (v_new 40 _ (by omega) (by omega)).mono ?_
  rintro e y1 ⟨p, S1, rfl, C1⟩
  go_wp2_with fail
  refine (x_new C1 B Bb.1 Bb.2).mono ?_
  rintro e y2 ⟨x, S2, s2, rfl, e2, C2, _⟩
  clear C1
  go_wp2_with fail
  refine (x_put_new C2 (by omega) a ab rfl).mono ?_
  rintro e y3 ⟨c, S3, s3, rfl, e3, C3, _⟩
  clear C2
  go_wp2_with fail
  refine (x_put_new C3 (by omega) b bl (by rw [HS.add_ne bne]; rfl)).mono ?_
  rintro e y4 ⟨d, S4, s4, rfl, e4, C4, _⟩
  clear C3
  have T4 : Two10 ((HS.new.add a).add b) a b 0 [] [] s4 := ⟨by rw [HS.add_ne (Ne.symm bne), HS.add_at], HS.add_at, fun c ha hb => by rw [HS.add_ne hb, HS.add_ne ha]; rfl, by simp, by simp, (((fill_new 40).same e2).same e3).same e4⟩
  have dc : also (also noD c a) d b c a := .inl (.inr ⟨rfl, rfl⟩)
  have dd : also (also noD c a) d b d b := .inr ⟨rfl, rfl⟩
  obtain ⟨D, eD⟩ : ∃ D, also (also noD c a) d b = D := ⟨_, rfl⟩
  obtain ⟨h, eh⟩ : ∃ h, (HS.new.add a).add b = h := ⟨_, rfl⟩
  rw [eD] at C4 dc dd
  rw [eh] at C4 T4
  clear eD eh e2 e3 e4
  go_wp2
  go_loopw [17] (fun i wr => ∃ j : Nat, R1 w x p B a b n c d j i wr) (fun i _ => n - (intOf i).toNat)
  case atStart => exact ⟨0, S4, s4, h, D, [], [], Nat.zero_le _, rfl, C4.up (by omega), dc, dd, T4, rfl, rfl⟩
  case round =>
    obtain ⟨j, S, s, h, D, la, lb, jl, rfl, C, dc, dd, T, na, nbb⟩ := hrel
    clear C4 T4
    have wk : IntKind.i64.wrap ((j : Int) + 1) = (j : Int) + 1 := IntWalk.i64_in _ (by omega)
    by_cases hlt : j < n
    · obtain ⟨s1, hmk1, F1, _, _⟩ := T.f.make C.ok (by omega) a j 1 2 (by omega) (by omega) (by omega) (by omega)
      have hx1 : ((2 * j : Nat) : Int) + 1 = 2 * (j : Int) + 1 := by omega
      rw [hx1] at hmk1
      have na1 : (2 * (j : Int) + 1) ∉ la := fun hm => by have := T.ba _ hm; omega
      have na2 : (2 * (j : Int) + 1) ∉ lb := fun hm => by have := T.bb _ hm; omega
      have nb1 : (2 * (j : Int) + 2) ∉ la := fun hm => by have := T.ba _ hm; omega
      have nb2 : (2 * (j : Int) + 2) ∉ lb := fun hm => by have := T.bb _ hm; omega
      go_wp2_with fail
      refine (x_make C (by omega) _ _ 1 2 ⟨by omega, by omega⟩ ⟨by omega, by omega⟩ _ _ _ hmk1).mono ?_
      rintro e y5 ⟨rfl, S5, C5, _⟩
      obtain ⟨s2', hmk2, F2, _, _⟩ := F1.make C5.ok (by omega) b j 1 2 (by omega) (by omega) (by omega) (by omega)
      have hx2 : ((2 * j + 1 : Nat) : Int) + 1 = 2 * (j : Int) + 2 := by omega
      rw [hx2] at hmk2
      clear C hmk1
      go_wp2_with fail
      refine (x_make C5 (by omega) _ _ 1 2 ⟨by omega, by omega⟩ ⟨by omega, by omega⟩ _ _ _ hmk2).mono ?_
      rintro e y6 ⟨rfl, S6, C6, _⟩
      clear C5 hmk2
      have T6 : Two10 h a b (2 * j + 2) la lb s2' := ⟨T.ha, T.hb, T.ho, fun x hx => by have := T.ba x hx; omega, fun x hx => by have := T.bb x hx; omega, F2⟩
      have v1 : s2'.s.live (2 * (j : Int) + 1) = true := by
        have := F2.live C6.ok (2 * j) (by omega) (by omega)
        rwa [hx1] at this
      have hps : pushI s2'.s la (2 * (j : Int) + 1) = (true, (2 * (j : Int) + 1) :: la) := by unfold pushI; rw [if_pos ⟨v1, na1⟩]
      clear F1
      go_wp2_with fail
      refine (x_push C6 (by omega) a dc la T6.ha (by omega) _ ⟨by omega, by omega⟩ _ _ hps (fun _ => T6.none na1 na2)).mono ?_
      rintro e y7 ⟨rfl, S7, s7, e7, C7, _⟩
      have F7 := F2.same e7
      have T7 : Two10 (h.set a ((2 * (j : Int) + 1) :: la)) a b (2 * j + 2) ((2 * (j : Int) + 1) :: la) lb s7 := T6.setA bne (fun x hx => by
        rcases List.mem_cons.1 hx with rfl | hx
        · omega
        · have := T6.ba x hx; omega) (Nat.le_refl _) F7
      have v2 : s7.s.live (2 * (j : Int) + 2) = true := by
        have := F7.live C7.ok (2 * j + 1) (by omega) (by omega)
        rwa [hx2] at this
      have nb3 : (2 * (j : Int) + 2) ∉ (2 * (j : Int) + 1) :: la := by
        rw [List.mem_cons]
        rintro (h | h)
        · omega
        · exact nb1 h
      have hps2 : pushI s7.s lb (2 * (j : Int) + 2) = (true, (2 * (j : Int) + 2) :: lb) := by unfold pushI; rw [if_pos ⟨v2, nb2⟩]
      clear C6 hps T6
      go_wp2_with fail
      refine (x_push C7 (by omega) b dd lb T7.hb (by omega) _ ⟨by omega, by omega⟩ _ _ hps2 (fun _ => T7.none nb3 nb2)).mono ?_
      rintro e y8 ⟨rfl, S8, s8, e8, C8, _⟩
      have T8 := T7.setB bne (l' := (2 * (j : Int) + 2) :: lb) (m' := 2 * (j + 1)) (fun x hx => by
        rcases List.mem_cons.1 hx with rfl | hx
        · omega
        · have := T7.bb x hx; omega) (by omega) (F7.same e8)
      clear C7 hps2 T7
      go_wp2
      go_roundw
      case rel => exact ⟨j + 1, S8, s8, _, D, _, _, by omega, by go_num, C8.up (by omega), dc, dd, T8, by simp; omega, by simp; omega⟩
      case measure => simp [intOf]; omega
    · obtain rfl : j = n := by omega
      clear hlt jl
      go_wp2
      go_loopw [22] (fun i wr => ∃ m : Nat, R2 w x p B a b j c d m i wr) (fun i _ => j - (intOf i).toNat)
      case atStart => exact ⟨0, S, s, h, D, la, lb, Nat.zero_le _, rfl, C.up (by omega), dc, dd, T, by omega, nbb⟩
      case round =>
        clear C T dc dd na nbb
        obtain ⟨m, S, s, h, D, la, lb, ml, rfl, C, dc, dd, T, na, nbb⟩ := hrel
        have wk : IntKind.i64.wrap ((m : Int) + 1) = (m : Int) + 1 := IntWalk.i64_in _ (by omega)
        have ta : (a : Int).toNat = a := by omega
        by_cases hlt : m < j
        · obtain ⟨y, l, rfl⟩ : ∃ y l, la = y :: l := by
            cases la with
            | nil => simp at na; omega
            | cons y l => exact ⟨y, l, rfl⟩
          have yb := T.ba y (by simp)
          have hcu : cutI (y :: l) y = (true, l) := by unfold cutI; rw [if_pos (by simp)]; simp
          go_wp2_with fail
          refine (x_drop_no C (by omega) a (.inr (.inr (.inr ⟨y, l, by rw [ta]; exact T.ha⟩))) (fun l' h => by rw [ta, T.ha] at h; cases h; omega)).mono ?_
          rintro e z1 ⟨S1, s1, rfl, e1, C1, _⟩
          have T := T.same e1
          clear C
          go_wp2_with fail
          refine (x_head C1 (by omega) a dc (y :: l) T.ha y rfl).mono ?_
          rintro e z2 ⟨rfl, S2, s2, e2, C2, _⟩
          have T := T.same e2
          clear C1
          go_wp2_with fail
          refine (x_cut C2 (by omega) a dc (y :: l) T.ha (by omega) y ⟨by omega, by omega⟩ _ _ hcu).mono ?_
          rintro e z3 ⟨rfl, S3, s3, e3, C3, _⟩
          have T := T.setA bne (l' := l) (fun x hx => T.ba x (by simp [hx])) (Nat.le_refl _) (T.f.same e3)
          clear C2 hcu
          go_wp2
          go_roundw
          case rel => exact ⟨m + 1, S3, s3, _, D, l, lb, by omega, by go_num, C3.up (by omega), dc, dd, T, by simp at na; omega, nbb⟩
          case measure => simp [intOf]; omega
        · obtain rfl : m = j := by omega
          obtain rfl : la = [] := List.length_eq_zero_iff.1 (by omega)
          go_wp2_with fail
          refine (x_drop_yes C (by omega) a T.ha).mono ?_
          rintro e z1 ⟨S1, s1, rfl, e1, C1, _⟩
          clear C
          go_wp2_with fail
          refine (x_drop_no C1 (by omega) a (.inr (.inr (.inl (by rw [ta]; exact HS.drop_at)))) (fun l' h => by rw [ta, HS.drop_at] at h; cases h)).mono ?_
          rintro e z2 ⟨S2, s2, rfl, e2, C2, _⟩
          clear C1
          go_wp2_with fail
          refine (x_find_no C2 (by omega) a (.inr (.inr (by rw [ta]; exact HS.drop_at)))).mono ?_
          rintro e z3 ⟨S3, s3, rfl, e3, C3, _⟩
          clear C2
          have hb : (h.drop a).ch b = some lb := by rw [HS.drop_ne bne]; exact T.hb
          go_wp2_with fail
          refine (x_find_yes C3 (by omega) b lb hb).mono ?_
          rintro e z4 ⟨q4, S4, s4, rfl, e4, C4, _⟩
          clear C3
          go_wp2_with fail
          refine (x_len C4 (by omega) b (.inr ⟨rfl, rfl⟩) lb hb (by omega) (m : Int) (by omega)).mono ?_
          rintro e z5 ⟨rfl, S5, s5, e5, C5, _⟩
          clear C4
          go_wp2_with fail
          refine (x_put_new C5 (by omega) a ab HS.drop_at).mono ?_
          rintro e z6 ⟨q6, S6, s6, rfl, e6, C6, _⟩
          clear C5
          go_wp2_with fail
          refine (x_len C6 (by omega) a (.inr ⟨rfl, rfl⟩) [] HS.add_at (by simp) 0 rfl).mono ?_
          rintro e z7 ⟨rfl, S7, s7, e7, C7, _⟩
          clear C6
          have kl := keys_two (h := (h.drop a).add a) (a := a) (b := b) (by rw [HS.add_at]; rfl) (by rw [HS.add_ne bne, hb]; rfl) bne (fun c h1 h2 => by rw [HS.add_ne h1, HS.drop_ne h1]; exact T.ho c h1 h2) 64
          rw [if_pos ab, if_pos bl] at kl
          go_wp2_with fail
          refine (x_keys C7 (by omega)).mono ?_
          rintro e z8 ⟨v8, S8, s8, rfl, o8, d8, e8, C8, _⟩
          clear C7
          obtain ⟨A8, c8, rfl, _, _⟩ := OwnN.out o8
          rw [kl]
          go_wp2_with fail
          refine (awake10_any _).mono ?_
          rintro e z9 ⟨rfl, b9⟩
          go_wp2
          go_ret
          exact ⟨rfl, C8.b.trans (b9.mono C8.b.size)⟩
theorem own : ownKnob Tryz.prog.godebug = none := by kernel_rfl
theorem laidOut : laidOutB Tryz.prog = true := by kernel_rfl
set_option maxRecDepth 100000 in
theorem lifted (os : Os) (started : os.Started) (H : Type) (enc : TypeId × Value → H) :
    ReturnsInHanded {} Tryz.checked os 3 .any (Rows.hashDropsSpec.pre6 enc Tryz.prog Tryz.f3 Rows.hashDropsRow.domain false) (Rows.hashDropsSpec.post enc Tryz.prog Tryz.f3 false true false false) := by
  refine returnsInHanded_of_change (C := Tryz.checked) own started (by kernel_rfl) Tryz.func3
    (ChangeSpec.witness6 (enc := enc) (C := Tryz.checked) false ⟨#[], #[.int .i64 0, .int .i64 0, .int .i64 0, .int .i64 0], []⟩ 8 (by kernel_rfl) (by kernel_rfl) (by kernel_rfl) (by kernel_rfl)) ?_
  intro W base args ds gs before hval0 hW hcnd _
  have hval : ∀ (j : Nat) t v, Tryz.f3.params[j]? = some t → args[j]? = some v → Value.okWide Tryz.prog W .any base t v := hval0
  have hW' := hW
  obtain ⟨p, q, hA0, hV, rfl, hfz, hnd⟩ := hW
  have hA : DataW.TrodAll enc Tryz.prog W 0 (fun _ => true) true Tryz.f3.params.toList args.toList ds p := hA0
  rw [Tryz.params3] at hA hval
  obtain ⟨v0, vs0, d0, ds0, p0, q0, hargs, rfl, rfl, h0, r0⟩ := trodAll_cons hA
  obtain ⟨v1, vs1, d1, ds1, p1, q1, rfl, rfl, rfl, h1, r1⟩ := trodAll_cons r0
  obtain ⟨v2, vs2, d2, ds2, p2, q2, rfl, rfl, rfl, h2, r2⟩ := trodAll_cons r1
  obtain ⟨v3, vs3, d3, ds3, p3, q3, rfl, rfl, rfl, h3, r3⟩ := trodAll_cons r2
  obtain ⟨rfl, rfl, rfl⟩ := trodAll_nil r3
  obtain rfl : args = #[v0, v1, v2, v3] := by cases args; simp_all
  obtain ⟨rfl, rfl⟩ := trodVars_none hV
  obtain ⟨a0, rfl, rfl, rfl, w0⟩ := open_int Tryz.underlying3 (hval 0 3 v0 rfl rfl) h0
  obtain ⟨a1, rfl, rfl, rfl, w1⟩ := open_int Tryz.underlying3 (hval 1 3 v1 rfl rfl) h1
  obtain ⟨a2, rfl, rfl, rfl, w2⟩ := open_int Tryz.underlying3 (hval 2 3 v2 rfl rfl) h2
  obtain ⟨a3, rfl, rfl, rfl, w3⟩ := open_int Tryz.underlying3 (hval 3 3 v3 rfl rfl) h3
  clear hA0 hval0
  refine (walk a0 a1 a2 a3 W w0 w1 w2 w3).mono fun e W' ⟨he, bel⟩ => ?_
  subst he
  exact ⟨_, rfl, _, _, _, [], _, [], hW', trodAll_mk1 (shut_bool Tryz.underlying4 _), (trodAll_cons_mk (shut_int Tryz.underlying3 w0) (trodAll_cons_mk (shut_int Tryz.underlying3 w1) (trodAll_cons_mk (shut_int Tryz.underlying3 w2) (trodAll_cons_mk (shut_int Tryz.underlying3 w3) trodAll_mk0)))), rfl, bel.frame _, fun h => by cases h⟩
theorem over : Rows.hashDropsRow.holds Tryz.pinned (OpenSpec.ofChange Rows.hashDropsSpec) :=
  OpenClaim.holds_of_wide 3 Tryz.f3 rfl rfl rfl rfl rfl rfl rfl ⟨rfl, rfl, rfl, rfl, rfl⟩ rfl rfl rfl rfl rfl (by kernel_rfl) Tryz.func3 (by kernel_rfl)
    (of_decide_eq_true (by kernel_rfl)) (by unfold Func.isWrapper; first | (rw [if_pos (by decide +kernel)]; kernel_rfl) | (rw [if_neg (by decide +kernel)]; exact ⟨rfl, rfl⟩))
    (fun os started H enc _ => lifted os started H enc)
theorem proved : Rows.HashDropsSaid := over
#print axioms proved
end Go.Proofs.YtmfpjnlplimkeaaGreat.hashDrops
