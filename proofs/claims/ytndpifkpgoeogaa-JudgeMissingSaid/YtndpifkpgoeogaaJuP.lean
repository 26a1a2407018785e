/- Contracts of package judge as landed: isLevel, bindsKey, bindsSpan, Key, Span, Needs. Conditions: those of the set. -/
import Derived.Test.YtndpifkpgoeogaaJuC
import Derived.Test.YtndpifkpgoeogaaRefJ
import Derived.Test.YtndpifkpgoeogaaApp
import Derived.Deep.QuietTactic
import Derived.BigQuiet
namespace Go.Proofs.Ytndpifkpgoeogaa.judgeP
open Go.ChangeShapes Go.WideShapes Go.ChangeAt Go.RowKit
set_option linter.unusedVariables false
/-- What a level asks that a key's version is still the one that was read. -/
def bK (lv link : Int) : Bool := decide (lv = 3) || (decide (lv = 2) && decide (link ≠ 0))
def isL (lv : Int) : Bool := decide (1 ≤ lv) && decide (lv ≤ 3)
theorem level_p (lv : Int) (w : World) : Calls Try.prog 35 #[.int .i64 lv] w fun e w' => e = .returned (.bool (isL lv)) ∧ w = w' := by
  unfold isL
  by_cases h1 : 1 ≤ lv
  · have d1 : decide (1 ≤ lv) = true := decide_eq_true h1
    rw [d1]
    obtain ⟨b, eb⟩ : ∃ b, decide (lv ≤ 3) = b := ⟨_, rfl⟩
    rw [eb]
    go_enter Try.func35, Try.ntmps35
    go_wp2
    go_ret
    exact ⟨rfl, rfl⟩
  · have d1 : decide (1 ≤ lv) = false := decide_eq_false h1
    rw [d1]
    go_enter Try.func35, Try.ntmps35
    go_wp2
    go_ret
    exact ⟨rfl, rfl⟩
theorem bkey_p (lv link : Int) (w : World) : Calls Try.prog 41 #[.int .i64 lv, .int .u64 link] w fun e w' => e = .returned (.bool (bK lv link)) ∧ w = w' := by
  unfold bK
  by_cases h3 : lv = 3
  · subst h3
    go_enter Try.func41, Try.ntmps41
    go_wp2
    go_ret
    exact ⟨rfl, rfl⟩
  · have d3 : (lv == 3) = false := by simpa using h3
    rw [decide_eq_false h3, Bool.false_or]
    by_cases h2 : lv = 2
    · subst h2
      have d0 : (link != 0) = decide (link ≠ 0) := by
        by_cases h : link = 0
        · subst h; rfl
        · rw [decide_eq_true h]; simpa using h
      obtain ⟨b, eb⟩ : ∃ b, decide (link ≠ 0) = b := ⟨_, rfl⟩
      rw [eb] at d0 ⊢
      clear eb h3
      go_enter Try.func41, Try.ntmps41
      go_wp2
      go_ret
      exact ⟨by simp, rfl⟩
    · have d2 : (lv == 2) = false := by simpa using h2
      rw [decide_eq_false h2, Bool.false_and]
      clear h3 h2
      go_enter Try.func41, Try.ntmps41
      go_wp2
      go_ret
      exact ⟨rfl, rfl⟩
theorem bspan_p (lv : Int) (w : World) : Calls Try.prog 42 #[.int .i64 lv] w fun e w' => e = .returned (.bool (decide (lv = 3))) ∧ w = w' := by
  have d : (lv == 3) = decide (lv = 3) := by
    by_cases h : lv = 3
    · subst h; rfl
    · rw [decide_eq_false h]; simpa using h
  obtain ⟨b, eb⟩ : ∃ b, decide (lv = 3) = b := ⟨_, rfl⟩
  rw [eb] at d ⊢
  clear eb
  go_enter Try.func42, Try.ntmps42
  go_wp2
  go_ret
  exact ⟨rfl, rfl⟩
theorem keyJ_eq (lv link now : Int) : keyJ lv link now = (isL lv && (decide (now = link) || !(bK lv link))) := by
  have nl : decide (now = link) = decide (link = now) := by
    by_cases h : link = now
    · subst h; rfl
    · rw [decide_eq_false h, decide_eq_false (fun e => h e.symm)]
  rw [nl]
  unfold keyJ isL bK
  by_cases h1 : lv = 1
  · subst h1; simp
  · rw [if_neg h1]
    by_cases h2 : lv = 2
    · subst h2; simp [Bool.or_comm]
    · rw [if_neg h2]
      by_cases h3 : lv = 3
      · subst h3; simp
      · rw [if_neg h3]
        have : (decide (1 ≤ lv) && decide (lv ≤ 3)) = false := by simp; omega
        rw [this, Bool.false_and]
theorem spanJ_eq (lv : Int) (was now : List Int) : spanJ lv was now = (isL lv && (!(decide (lv = 3)) || decide (was = now))) := by
  unfold spanJ isL
  by_cases h12 : lv = 1 ∨ lv = 2
  · rw [if_pos h12]
    rcases h12 with rfl | rfl <;> simp
  · rw [if_neg h12]
    by_cases h3 : lv = 3
    · subst h3; simp
    · rw [if_neg h3]
      have : (decide (1 ≤ lv) && decide (lv ≤ 3)) = false := by simp; omega
      rw [this, Bool.false_and]
theorem jkey_p (lv link now : Int) (r : Bool) (hs : keyJ lv link now = r) (w : World) : Calls Try.prog 20 #[.int .i64 lv, .int .u64 link, .int .u64 now] w fun e w' => e = .returned (.bool r) ∧ w = w' := by
  rw [keyJ_eq] at hs
  subst hs
  have nl : (now == link) = decide (now = link) := by
    by_cases h : now = link
    · subst h; simp
    · rw [decide_eq_false h]; simpa using h
  have hL := level_p lv w
  have hB := bkey_p lv link w
  obtain ⟨b1, e1⟩ : ∃ b, isL lv = b := ⟨_, rfl⟩
  obtain ⟨b2, e2⟩ : ∃ b, decide (now = link) = b := ⟨_, rfl⟩
  obtain ⟨b3, e3⟩ : ∃ b, bK lv link = b := ⟨_, rfl⟩
  rw [e1] at hL ⊢
  rw [e2] at nl ⊢
  rw [e3] at hB ⊢
  clear e1 e2 e3
  go_enter Try.func20, Try.ntmps20
  go_wp2_with fail
  refine hL.mono ?_
  rintro e w1 ⟨rfl, rfl⟩
  clear hL
  cases b1
  · go_wp2
    go_ret
    exact ⟨rfl, rfl⟩
  · cases b2
    · go_wp2_with fail
      refine hB.mono ?_
      rintro e w1 ⟨rfl, rfl⟩
      clear hB
      go_wp2
      go_ret
      exact ⟨by simp, rfl⟩
    · go_wp2
      go_ret
      exact ⟨rfl, rfl⟩
theorem equal_any (u v : Value) (xs ys : List Int) (hx : xs.length ≤ 100000) (hy : ys.length ≤ 100000) (r : Bool) (hs : decide (xs = ys) = r) (w : World) (h1 : Lies w u xs) (h2 : Lies w v ys) : Calls Try.prog 43 #[u, v] w fun e w' => e = .returned (.bool r) ∧ ∃ d, w' = w.drewN d := by
  have ER := Lib.hid hs
  clear hs
  obtain ⟨A1, c1, rfl, _, f1⟩ := h1
  obtain ⟨A2, c2, rfl, _, f2⟩ := h2
  by_cases hl : xs.length = ys.length
  · have dl : ((xs.length : Int) != (ys.length : Int)) = false := by simp [hl]
    have DL := Lib.hid hl
    have LE : ys.length = xs.length := hl.symm
    rw [LE] at f2 hy ⊢
    have LE := Lib.hid LE
    clear hl dl
    go_enter Try.func43, Try.ntmps43
    go_wp2
    go_loopw [13] (fun i wr => ∃ k d : Nat, k ≤ xs.length ∧ i = .int .i64 k ∧ wr = w.drewN d ∧ xs.take k = ys.take k) (fun i _ => xs.length - (intOf i).toNat)
    case atStart => exact ⟨0, 0, Nat.zero_le _, rfl, rfl, rfl⟩
    case round =>
      obtain ⟨k, d, hk, rfl, rfl, ht⟩ := hrel
      by_cases hlt : k < xs.length
      · obtain ⟨b1, o1, rfl, _, g1⟩ := f1 (by omega)
        obtain ⟨b2, o2, rfl, _, g2⟩ := f2 (by omega)
        have e1 := g1 k hlt
        have e2 := g2 k hlt
        obtain ⟨x, ex⟩ : ∃ x, xs.getD k 0 = x := ⟨_, rfl⟩
        obtain ⟨y, ey⟩ : ∃ y, ys.getD k 0 = y := ⟨_, rfl⟩
        rw [ex] at e1
        rw [ey] at e2
        by_cases hxy : x = y
        · have d1 : (x != y) = false := by simpa using hxy
          have HT := Lib.hid (take_eq_succ hlt (by rw [LE.out]; exact hlt) ht (ex.trans (hxy.trans ey.symm)))
          clear f1 f2 g1 g2 ex ey hxy ht
          go_wp2_with fail
          go_quiet (fail)
          go_wp2
          go_roundw
          case rel => exact ⟨k + 1, _, by omega, by go_num, rfl, HT.out⟩
          case measure => simp [intOf]; omega
        · have d1 : (x != y) = true := by simpa using hxy
          have hne : decide (xs = ys) = false := decide_eq_false (fun e => hxy (by rw [← ex, ← ey, e]))
          obtain rfl : r = false := ER.out.symm.trans hne
          clear f1 f2 g1 g2 ex ey hxy ht hne
          go_wp2_with fail
          go_quiet (fail)
          go_wp2
          go_ret
          exact ⟨rfl, _, World.drewN_drewN _ _ _⟩
      · obtain rfl : k = xs.length := by omega
        have hne : decide (xs = ys) = true := decide_eq_true (by
          rw [List.take_length] at ht
          rw [ht, ← LE.out, List.take_length])
        obtain rfl : r = true := ER.out.symm.trans hne
        clear f1 f2 hne ht
        go_wp2
        go_ret
        exact ⟨rfl, _, rfl⟩
  · have dl : ((xs.length : Int) != (ys.length : Int)) = true := by simp; omega
    have hne : decide (xs = ys) = false := decide_eq_false (fun e => hl (by rw [e]))
    obtain rfl : r = false := ER.out.symm.trans hne
    clear hne f1 f2 hl
    go_enter Try.func43, Try.ntmps43
    go_wp2
    go_ret
    exact ⟨rfl, 0, rfl⟩
theorem jspan_p (lv : Int) (u v : Value) (xs ys : List Int) (hx : xs.length ≤ 100000) (hy : ys.length ≤ 100000) (r : Bool) (hs : spanJ lv xs ys = r) (w : World) (h1 : Lies w u xs) (h2 : Lies w v ys) : Calls Try.prog 22 #[.int .i64 lv, u, v] w fun e w' => e = .returned (.bool r) ∧ Keep (fun _ => False) w w' := by
  rw [spanJ_eq] at hs
  subst hs
  have hL := level_p lv w
  have hB := bspan_p lv w
  have hS := equal_any u v xs ys hx hy _ rfl w h1 h2
  obtain ⟨b1, e1⟩ : ∃ b, isL lv = b := ⟨_, rfl⟩
  obtain ⟨b2, e2⟩ : ∃ b, decide (lv = 3) = b := ⟨_, rfl⟩
  obtain ⟨b3, e3⟩ : ∃ b, decide (xs = ys) = b := ⟨_, rfl⟩
  rw [e1] at hL ⊢
  rw [e2] at hB ⊢
  rw [e3] at hS ⊢
  clear e1 e2 e3 h1 h2
  go_enter Try.func22, Try.ntmps22
  go_wp2_with fail
  refine hL.mono ?_
  rintro e w1 ⟨rfl, rfl⟩
  clear hL
  cases b1
  · go_wp2
    go_ret
    exact ⟨rfl, Keep.refl _ _⟩
  · go_wp2_with fail
    refine hB.mono ?_
    rintro e w1 ⟨rfl, rfl⟩
    clear hB
    cases b2
    · go_wp2
      go_ret
      exact ⟨rfl, Keep.refl _ _⟩
    · go_wp2_with fail
      refine hS.mono ?_
      rintro e w1 ⟨rfl, d, rfl⟩
      clear hS
      go_wp2
      go_ret
      exact ⟨by simp, drewN_keep _ _ _⟩
section
variable {W w w' : World} {t : Nat} {S S' T : Nat → Prop} {s s' : RdS} {v0 nv : Value} {B1 : Nat} {l : List Int}
theorem vk_trans {S'' : Nat → Prop} {w'' : World} (h : VKeep S S' w w') (k : VKeep S' S'' w' w'') : VKeep S S'' w w'' :=
  ⟨⟨k.1.os.trans h.1.os, k.1.tape.trans h.1.tape, k.1.output.trans h.1.output, Nat.le_trans h.1.size k.1.size, fun j hj hn => (k.1.block j (Nat.lt_of_lt_of_le hj h.1.size) (fun e => by rcases h.2 j e with y | y; exact hn y; omega)).trans (h.1.block j hj hn)⟩, fun j hj => by
    rcases k.2 j hj with y | y
    · exact h.2 j y
    · exact .inr (Nat.le_trans h.1.size y)⟩
theorem rd_keyb (h : Rd W w t S s) : s.keys.length ≤ 64 ∧ ∀ k ∈ s.keys, 0 ≤ k ∧ k ≤ 63 := by
  obtain ⟨es, ps, vr, vs, Z, a, h1, h2, h3, f⟩ := h.a
  rw [h1]
  refine ⟨by rw [List.length_map]; exact a.short, fun k hk => ?_⟩
  obtain ⟨x, hx, rfl⟩ := List.mem_map.1 hk
  have := a.kb x hx
  exact ⟨this.1, this.2.1⟩
theorem ownN_lower {B B' : Nat} (o : OwnN B' w nv l) (hB : B ≤ B') : OwnN B w nv l := by
  obtain ⟨h1, h2⟩ := o
  refine ⟨h1, ?_⟩
  rcases h2 with h2 | ⟨g, c, cur, hv, hg, r⟩
  · exact .inl h2
  · exact .inr ⟨g, c, cur, hv, Nat.le_trans hB hg, r⟩
theorem sc_lower {B B' : Nat} {cs : List ScI} (o : OwnSc B' w nv cs T) (hB : B ≤ B') : OwnSc B w nv cs T := by
  obtain ⟨⟨A, c, hv, hc, hf⟩, t0, t1⟩ := o
  refine ⟨⟨A, c, hv, hc, fun h0 => ?_⟩, fun j hj => Nat.le_trans hB (t0 j hj), t1⟩
  obtain ⟨g, hA, hg, hz, he⟩ := hf h0
  refine ⟨g, hA, hg, hz, fun i x hx => ?_⟩
  obtain ⟨c0, c1, u, c2, ou, hb⟩ := he i x hx
  exact ⟨c0, c1, u, c2, OwnU.lower ou hB, hb⟩
theorem sc_nil (B : Nat) (w : World) : OwnSc B w (.slice none 0 0) [] (fun _ => False) := ⟨⟨none, 0, rfl, Nat.le_refl _, fun h => absurd h (Nat.lt_irrefl _)⟩, fun _ h => h.elim, fun _ h => h.elim⟩
/-- While what is needed is gathered. -/
structure NdR (W w : World) (t : Nat) (S : Nat → Prop) (s : RdS) (v0 : Value) (B1 : Nat) (l : List Int) (wr : World) (S' : Nat → Prop) (nv : Value) : Prop where
  r : Rd W wr t S' s
  k : VKeep S S' w wr
  o0 : OwnN w.heap.size wr v0 s.keys
  d0 : ∀ g, v0.ownBlock = some g → ¬ S' g ∧ g < B1
  o : OwnN B1 wr nv l
  d : ∀ g, nv.ownBlock = some g → ¬ S' g
  hB : w.heap.size ≤ B1
  hB1 : B1 ≤ wr.heap.size
theorem NdR.step {wr wr' : World} {S'' : Nat → Prop} (h : NdR W w t S s v0 B1 l wr S' nv) (hr : Rd W wr' t S'' s) (k : VKeep S' S'' wr wr') : NdR W w t S s v0 B1 l wr' S'' nv :=
  ⟨hr, vk_trans h.k k, OwnN.keep h.o0 k.1 (fun g hg => (h.d0 g hg).1), fun g hg => ⟨fun x => by rcases k.2 g x with y | y; exact (h.d0 g hg).1 y; have := (OwnN.lt h.o0 hg).2; omega, (h.d0 g hg).2⟩, OwnN.keep h.o k.1 h.d, fun g hg x => by rcases k.2 g x with y | y; exact h.d g hg y; have := (OwnN.lt h.o hg).2; omega, h.hB, Nat.le_trans h.hB1 k.1.size⟩
theorem NdR.push {wr y : World} {g c : Nat} {x : Int} (h : NdR W w t S s v0 B1 l wr S' nv) (o : OwnN B1 y (.slice (some ⟨g, 0, none⟩) (l.length + 1) c) (l ++ [x])) (k : Keep (fun j => nv.ownBlock = some j) wr y) (hg : nv.ownBlock = some g ∨ wr.heap.size ≤ g) (hW : W.heap.size ≤ w.heap.size) :
    NdR W w t S s v0 B1 (l ++ [x]) y S' (.slice (some ⟨g, 0, none⟩) (l.length + 1) c) := by
  have far : ∀ j, nv.ownBlock = some j → B1 ≤ j := fun j hj => (OwnN.lt h.o hj).1
  refine ⟨h.r.own k (fun j hj => ⟨h.d j hj, by have := far j hj; have := h.hB; omega⟩), ⟨⟨k.os.trans h.k.1.os, k.tape.trans h.k.1.tape, k.output.trans h.k.1.output, Nat.le_trans h.k.1.size k.size, fun j hj hn => (k.block j (Nat.lt_of_lt_of_le hj h.k.1.size) (fun e => by have := far j e; have := h.hB; omega)).trans (h.k.1.block j hj hn)⟩, h.k.2⟩, OwnN.keep h.o0 k (fun j hj e => by have := far j e; have := (h.d0 j hj).2; omega), h.d0, o, fun j hj => ?_, h.hB, Nat.le_trans h.hB1 k.size⟩
  have : g = j := by simpa [Value.ownBlock] using hj
  subst this
  rcases hg with z | z
  · exact h.d _ z
  · intro e; have := h.r.lt _ e; omega
theorem needK_eq (lv : Int) (s : RdS) : needK lv s = s.keys.filter (fun k => bK lv (s.link k).1) := by
  unfold needK
  by_cases h3 : lv = 3
  · subst h3
    rw [if_pos rfl, List.filter_eq_self.2 (fun k _ => by simp [bK])]
  · rw [if_neg h3]
    by_cases h2 : lv = 2
    · subst h2
      rw [if_pos rfl]
      refine List.filter_congr (fun k _ => ?_)
      simp [bK]
    · rw [if_neg h2, List.filter_eq_nil_iff.2 (fun k _ => by simp [bK, h3, h2])]
def NeedsR (W w : World) (t : Nat) (S : Nat → Prop) (s : RdS) (v0 : Value) (B1 : Nat) (lv : Int) (nv jv : Value) (wr : World) : Prop :=
  ∃ (j : Nat) (S' : Nat → Prop), j ≤ s.keys.length ∧ jv = .int .i64 j ∧ NdR W w t S s v0 B1 ((s.keys.take j).filter (fun k => bK lv (s.link k).1)) wr S' nv
set_option maxRecDepth 100000 in
set_option maxHeartbeats 4000000 in
theorem jneeds_p (h : Rd W w t S s) (lv : Int) :
    Calls Try.prog 19 #[.int .i64 lv, .pointer (some ⟨t, 0, none⟩)] w fun e w' => ∃ v1 v2 S' T, e = .returned (.tuple #[v1, v2]) ∧ OwnN w.heap.size w' v1 (needK lv s) ∧ (∀ g, v1.ownBlock = some g → ¬ S' g ∧ ¬ T g) ∧ OwnSc w.heap.size w' v2 (needS lv s) T ∧ (∀ g, T g → ¬ S' g) ∧ Rd W w' t S' s ∧ VKeep S S' w w' := by
  rw [needK_eq]
  have kb := rd_keyb h
  have hW := h.b.size
  go_enter Try.func19, Try.ntmps19
  go_wp2_with fail
  refine (rd_keys h).mono ?_
  rintro e w1 ⟨v0, S1, rfl, o0, d0, h1, k1⟩
  have N0 : NdR W w t S s v0 w1.heap.size [] w1 S1 (.slice none 0 0) := ⟨h1, k1, o0, fun g hg => ⟨d0 g hg, (OwnN.lt o0 hg).2⟩, World.ownsRow_nil _ _ _ _, by simp [Value.ownBlock], k1.1.size, Nat.le_refl _⟩
  obtain ⟨A, c, rfl, hA0, hA1⟩ := OwnN.shapeN o0
  obtain ⟨B1, eB⟩ : ∃ B1, w1.heap.size = B1 := ⟨_, rfl⟩
  rw [eB] at N0
  clear eB o0 d0 h1 k1 h
  go_wp2
  go_loopw [4, 15] (fun nv jv wr => NeedsR W w t S s (.slice A s.keys.length c) B1 lv nv jv wr) (fun _ jv _ => s.keys.length - (intOf jv).toNat)
  case atStart => exact ⟨0, S1, Nat.zero_le _, rfl, N0⟩
  case round =>
    clear N0
    obtain ⟨j, S', hj, rfl, D⟩ := hrel
    by_cases hlt : j < s.keys.length
    · have wj : IntKind.i64.wrap ((j : Int) + 1) = (j : Int) + 1 := IntWalk.i64_in _ (by omega)
      cases A with
      | none => rw [hA0 rfl] at hlt; simp at hlt
      | some ad =>
        obtain ⟨g, rfl⟩ := hA1 _ rfl
        have cj := OwnN.cell D.o0 j hlt
        obtain ⟨x, ex⟩ : ∃ x, s.keys.getD j 0 = x := ⟨_, rfl⟩
        have hx : s.keys[j]? = some x := by rw [List.getElem?_eq_getElem hlt, ← ex, List.getD_eq_getElem?_getD, List.getElem?_eq_getElem hlt]; rfl
        rw [ex] at cj
        have nx : (s.keys.take (j + 1)).filter (fun k => bK lv (s.link k).1) = (s.keys.take j).filter (fun k => bK lv (s.link k).1) ++ (if bK lv (s.link x).1 = true then [x] else []) := by
          rw [List.take_add_one, hx, List.filter_append]
          by_cases c : bK lv (s.link x).1 = true <;> simp [c]
        have ln : ((s.keys.take j).filter (fun k => bK lv (s.link k).1)).length ≤ 64 := by
          refine Nat.le_trans (List.length_filter_le _ _) ?_
          rw [List.length_take]; have := kb.1; omega
        obtain ⟨L, eL⟩ : ∃ L, (s.keys.take j).filter (fun k => bK lv (s.link k).1) = L := ⟨_, rfl⟩
        rw [eL] at nx ln D
        obtain ⟨lk, b, elk⟩ : ∃ lk b, s.link x = (lk, b) := ⟨_, _, rfl⟩
        rw [elk] at nx
        clear ex hx eL
        go_wp2_with fail
        refine (rd_link D.r x lk b elk).mono ?_
        rintro e w2 ⟨rfl, S2, C2, k2⟩
        have D2 := D.step C2 k2
        clear C2 k2 D cj
        have hB := bkey_p lv lk w2
        obtain ⟨b3, e3⟩ : ∃ b, bK lv lk = b := ⟨_, rfl⟩
        have NX := Lib.hid nx
        clear nx
        go_wp2_with fail
        refine hB.mono ?_
        rintro e w3 ⟨rfl, rfl⟩
        clear hB
        rw [e3] at NX ⊢
        clear e3
        cases b3
        · have nx := NX.out
          rw [if_neg (by simp), List.append_nil] at nx
          have F := Lib.hid (nx ▸ D2)
          clear D2 NX nx
          go_wp2
          first | exact ⟨⟨j + 1, S2, by omega, by go_num, F.out⟩, by simp [intOf]; omega⟩ | (refine ⟨?rel2, ?meas2⟩; (case meas2 => (simp [intOf]; omega)); (case rel2 => ((repeat apply Exists.intro); exact ⟨⟨j + 1, S2, by omega, by go_num, F.out⟩, rfl⟩)))
        · go_wp2_with (with_reducible refine wp_stop 31 rfl ?_)
          intro _
          refine wp_pushN rfl (.tmp 28) (.tmp 30) rfl B1 D2.hB1 u4 L rfl D2.o x rfl (by omega) ?_
          intro g2 c2 y2 o2 k2 hg
          have D3 := D2.push o2 k2 hg hW
          have nx : (s.keys.take (j + 1)).filter (fun k => bK lv (s.link k).1) = L ++ [x] := NX.out.trans (by simp)
          rw [← nx] at D3
          have F := Lib.hid D3
          clear D3 D2 o2 k2 hg nx
          go_wp2
          first | exact ⟨⟨j + 1, S2, by omega, by go_num, F.out⟩, by simp [intOf]; omega⟩ | (refine ⟨?rel2, ?meas2⟩; (case meas2 => (simp [intOf]; omega)); (case rel2 => ((repeat apply Exists.intro); exact ⟨⟨j + 1, S2, by omega, by go_num, F.out⟩, rfl⟩)))
    · obtain rfl : j = s.keys.length := by omega
      rw [List.take_length] at D
      have hB := bspan_p lv wr
      clear hA0 hA1 kb
      have D := Lib.hid D
      go_wp2_with fail
      refine hB.mono ?_
      rintro e w3 ⟨rfl, rfl⟩
      clear hB
      by_cases h3 : lv = 3
      · rw [decide_eq_true h3]
        go_wp2_with fail
        refine (rd_spans D.out.r).mono ?_
        rintro e w2 ⟨v3, S2, T, rfl, o3, d3, h2', k2⟩
        go_wp2
        go_ret2
        have D := D.out
        refine ⟨_, _, S2, T, rfl, ownN_lower (OwnN.keep D.o k2.1 D.d) D.hB, fun g hg => ⟨fun x => ?_, fun x => ?_⟩, ?_, d3, h2', vk_trans D.k k2⟩
        · rcases k2.2 g x with y | y
          · exact D.d g hg y
          · have := (OwnN.lt D.o hg).2; omega
        · have := o3.t0 g x; have := (OwnN.lt D.o hg).2; omega
        · unfold needS
          rw [if_pos h3]
          exact sc_lower o3 (Nat.le_trans D.hB D.hB1)
      · rw [decide_eq_false h3]
        go_wp2
        go_ret2
        have D := D.out
        refine ⟨_, _, S', fun _ => False, rfl, ownN_lower D.o D.hB, fun g hg => ⟨D.d g hg, id⟩, ?_, fun _ h => h.elim, D.r, D.k⟩
        unfold needS
        rw [if_neg h3]
        exact sc_nil _ _
end
end Go.Proofs.Ytndpifkpgoeogaa.judgeP
