/- Proved here: vinculumlaw12.CursorPlays returns true and leaves its arguments as they were, for any word, two ints and every script; no further condition. -/
import Derived.Test.YtopnhkogapidhaaCuP
import Derived.Test.YtopnhkogapidhaaOps12
import Derived.Test.YtopnhkogapidhaaSameN
import Derived.Test.YtopnhkogapidhaaMask
import Derived.ChangeOld
import Derived.Deep.LoopGhost
import Derived.Deep.CutRange
import Derived.Deep.CutBlock
import Derived.Deep.QuietTactic
import Derived.BigQuiet
import Derived.BigRegion
import Derived.Deep.RegionHeld3
namespace Go.Proofs.Ytopnhkogapidhaa.cursorPlays
open Go.ChangeShapes Go.WideShapes Go.ChangeAt Go.RowKit
set_option linter.unusedVariables false

def low (M : Nat) (k : Nat) : Nat → Nat := fun j => if j < k ∧ M.testBit j = true then j % 4 + 1 else 0
theorem low_start (M : Nat) : low M 0 = fun _ => 0 := funext fun j => by unfold low; rw [if_neg (by omega)]
theorem low_put {M k : Nat} (hk : k < 64) (hb : M.testBit k = true) : putT (low M k) (k : Int) (((k % 4 : Nat) : Int) + 1) = (true, 0, low M (k + 1)) := by
  unfold putT
  rw [if_neg (by omega), show (k : Int).toNat = k by omega, if_neg (by unfold low; rw [if_neg (by omega)]; exact Nat.lt_irrefl 0)]
  have : (fun j => if j = k then (((k % 4 : Nat) : Int) + 1).toNat else low M k j) = low M (k + 1) := funext fun j => by
    unfold low
    by_cases e : j = k
    · subst e; rw [if_pos rfl, if_pos ⟨by omega, hb⟩]; omega
    · rw [if_neg e]
      have e2 : (j < k + 1) = (j < k) := propext ⟨fun _ => by omega, fun _ => by omega⟩
      simp only [e2]
  rw [this]
theorem low_skip {M k : Nat} (hb : M.testBit k = false) : low M k = low M (k + 1) := funext fun j => by
  unfold low
  by_cases e : j = k
  · subst e; rw [if_neg (by omega), if_neg (by simp [hb])]
  · have e2 : (j < k + 1) = (j < k) := propext ⟨fun _ => by omega, fun _ => by omega⟩
    simp only [e2]
theorem drop_in (th : Nat → Nat) {j : Nat} (hj : j < 64) : ∃ r, dropT th j = (r, fun i => if i = j then 0 else th i) := by
  unfold dropT
  have e : hgtT th j = (th j : Int) := by unfold hgtT; rw [if_neg (by omega), show (j : Int).toNat = j by omega]
  rw [e, show (j : Int).toNat = j by omega]
  by_cases h : 0 < th j
  · exact ⟨true, by rw [if_pos (by omega)]⟩
  · refine ⟨false, ?_⟩
    rw [if_neg (by omega)]
    have : th = fun i => if i = j then 0 else th i := funext fun i => by
      by_cases e2 : i = j
      · subst e2; rw [if_pos rfl]; omega
      · rw [if_neg e2]
    exact congrArg (Prod.mk false) this
def R1 (w : World) (t b M : Nat) (i : Value) (wr : World) : Prop := ∃ (k : Nat) (S : Nat → Prop), k ≤ 64 ∧ i = .int .i64 k ∧ CP w wr t S (low M k) (fun _ => none) b (low M k) 0 []
theorem next_done {th : Nat → Nat} {x : CS} (d : x.done = true) : nextC th x = (0, false, x) := by
  unfold nextC
  rw [if_pos d]
  obtain ⟨l, h, a, b⟩ := x
  obtain rfl : b = true := d
  rfl
/-- Where the Cursor is, as the law's own reckoning has it. -/
structure Is (x : CS) (lo hi a fr : Int) (dn : Bool) : Prop where
  lo : x.lo = lo
  hi : x.hi = hi
  a : x.at' = a
  d : x.done = dn
  f : x.from' = fr
def R2 (w : World) (t b q k : Nat) (lo hi : Int) (av fv dv iv : Value) (wr : World) : Prop := ∃ (S : Nat → Prop) (th : Nat → Nat) (m : Nat → Option CS) (x : CS) (a fr : Int) (dn : Bool) (ob : Nat),
  k ≤ 100 ∧ iv = .int .i64 k ∧ av = .int .i64 a ∧ fv = .int .i64 fr ∧ dv = .bool dn ∧ m q = some x ∧ Is x lo hi a fr dn ∧ CP w wr t S th m b th ob []
set_option maxRecDepth 100000 in
set_option maxHeartbeats 8000000 in
theorem walk (a0 lo hi : Int) (a3 : Option Addr) (len0 cap0 : Nat) (f : Nat → OpI) (w : World) (w0 : (Lit.int .u64 a0).wf = true) (w1 : (Lit.int .i64 lo).wf = true) (w2 : (Lit.int .i64 hi).wf = true) (w3 : IsOps w a3 len0 cap0 f) :
    Calls Try.prog 5 #[.int .u64 a0, .int .i64 lo, .int .i64 hi, .slice a3 len0 cap0] w fun e w' => e = .returned (.bool true) ∧ Below w.heap.size w w' := by
  obtain ⟨l1, l2, lc, ok2⟩ := w3
  obtain ⟨M, rfl⟩ : ∃ n : Nat, a0 = (n : Int) := ⟨a0.toNat, by have := bounds_u64 w0; omega⟩
  have hM : M ≤ 18446744073709551615 := by have := bounds_u64 w0; omega
  clear w0 w1 w2
  go_enter Try.func5, Try.ntmps5
  go_wp2_with fail
  refine (k_tnew _).mono ?_
  rintro e y0 ⟨t, S0, rfl, C0⟩
  obtain ⟨b, eb⟩ : ∃ b, y0.heap.size = b := ⟨_, rfl⟩
  have bn := ints_new y0 42
  have kA := Keep.alloc (Keep.refl (fun _ => False) y0) (.cells (Array.replicate 64 (.int .i64 0)) 42)
  rw [eb] at bn
  go_upto_region 3 with fail
  generalize hW : y0.alloc (.cells _ _) = y1
  have hW' : y0.alloc (.cells (Array.replicate 64 (.int .i64 0)) 42) = y1 := hW
  clear hW
  rw [hW'] at bn kA
  have D0 : CP w y1 t S0 (fun _ => 0) (fun _ => none) b (fun _ => 0) 0 [] := ⟨C0.quiet kA, ⟨bn, fun j => Nat.zero_le _⟩, fun h => by have := C0.lt _ h; omega, by have := C0.b.size; omega, fun i u hu => by simp at hu, .inl rfl⟩
  clear C0 bn kA hW' eb
  go_cut [31] from 23 to 31 (fun v wx => v = .bool false ∧ CP w wx t S0 (fun _ => 0) (fun _ => none) b (fun _ => 0) 0 [])
  case first =>
    go_wp2_with fail
    refine (awake12_any _).mono ?_
    rintro e y2 ⟨rfl, b2⟩
    go_wp2_with fail
    go_meet
    case rel => exact ⟨rfl, D0.quiet (Keep.of_below b2 (fun _ => False))⟩
  case rest =>
  clear D0
  obtain ⟨rfl, D0⟩ := hcut
  rw [← low_start M] at D0
  go_wp2
  go_loopw [11] (fun i wr => R1 w t b M i wr) (fun i _ => 64 - (intOf i).toNat)
  case atStart => exact ⟨0, S0, Nat.zero_le _, rfl, D0⟩
  case round =>
    clear D0
    obtain ⟨k, S, k64, rfl, D⟩ := hrel
    have wk : IntKind.i64.wrap ((k : Int) + 1) = (k : Int) + 1 := IntWalk.i64_in _ (by omega)
    by_cases hlt : k < 64
    · cases hbt : M.testBit k with
      | true =>
        have ba := bit_true hM hbt
        have hp := low_put hlt hbt
        have k1 : bits .and .i64 (k : Int) 3 = ((k % 4 : Nat) : Int) := (i64_mask2 (k : Int)).trans (by omega)
        obtain ⟨v, ev⟩ : ∃ v, k % 4 = v := ⟨_, rfl⟩
        rw [ev] at hp k1
        have w1 : IntKind.i64.wrap ((v : Int) + 1) = (v : Int) + 1 := IntWalk.i64_in _ (by omega)
        clear ev
        go_wp2_with fail
        refine (k_put D.r _ _ _ _ _ hp).mono ?_
        rintro e y3 ⟨rfl, S3, C3, k3⟩
        have D := D.tstep C3 k3
        go_wp2_with fail
        refine (rt_put D.q _ _ _ _ _ hp).mono ?_
        rintro e1 y4 ⟨rfl, C4, k4⟩
        have D := D.qstep C4 k4
        go_wp2_with fail
        go_roundw
        case rel => exact ⟨k + 1, S3, by omega, by go_num, D⟩
        case measure => simp [intOf]; omega
      | false =>
        have ba := bit_false hM hbt
        rw [low_skip hbt] at D
        go_wp2_with fail
        go_roundw
        case rel => exact ⟨k + 1, S, by omega, by go_num, D⟩
        case measure => simp [intOf]; omega
    · obtain rfl : k = 64 := by omega
      clear hlt k64 wk
      rcases (by omega : (0 ≤ lo ∧ hi ≤ 63 ∧ lo ≤ hi) ∨ ¬ 0 ≤ lo ∨ (0 ≤ lo ∧ ¬ hi ≤ 63) ∨ (0 ≤ lo ∧ hi ≤ 63 ∧ ¬ lo ≤ hi)) with ⟨g1, g2, g3⟩ | g1 | ⟨g1, g2⟩ | ⟨g1, g2, g3⟩
      · go_wp2_with fail
        refine (k_new D.r lo hi ⟨g1, g2, g3⟩).mono ?_
        rintro e y3 ⟨q, S3, rfl, _, C3, k3⟩
        have D := D.tstep C3 k3
        clear C3 k3
        have f1 : decide (0 ≤ lo) = true := decide_eq_true g1
        have f2 : decide (hi ≤ 63) = true := decide_eq_true g2
        have f3 : decide (lo ≤ hi) = true := decide_eq_true g3
        go_wp2_with fail
        go_loopw [15, 16, 17, 18] (fun av fv dv iv wr => ∃ k : Nat, R2 w t b q k lo hi av fv dv iv wr) (fun _ _ _ iv _ => 100 - (intOf iv).toNat)
        case atStart => exact ⟨0, S3, _, _, _, -1, lo, false, _, by omega, rfl, rfl, rfl, rfl, updC_at, ⟨rfl, rfl, rfl, rfl, rfl⟩, D⟩
        case round =>
          clear D
          obtain ⟨k, S, th, m, x, a, fr, dn, ob0, k100, rfl, rfl, rfl, rfl, hm, I, D⟩ := hrel
          by_cases hlt : k < len0 ∧ k < 100
          · obtain ⟨hl, h100⟩ := hlt
            obtain ⟨bo, off, rfl, hb, hc⟩ := lc (by omega)
            obtain ⟨d0, d1⟩ := hc k hl
            have ⟨s0, t0⟩ := ok2 k hl
            obtain ⟨o, eo⟩ : ∃ o, f k = o := ⟨_, rfl⟩
            rw [eo] at d0 d1 s0 t0
            obtain ⟨kd, key⟩ := o
            dsimp only at d0 d1 s0 t0
            have d0 := (D.r.b.cell (p := ⟨bo, off + k * 2, none⟩) hb).trans d0
            have d1 := (D.r.b.cell (p := ⟨bo, off + k * 2 + 1, none⟩) hb).trans d1
            clear eo hc lc ok2
            have wk : IntKind.i64.wrap ((k : Int) + 1) = (k : Int) + 1 := IntWalk.i64_in _ (by omega)
            have eK : ∀ (w' : World), wr.alloc (.cells #[.int .i64 kd, .int .i64 key] 46) = w' → CP w w' t S th m b th wr.heap.size [.int .i64 kd, .int .i64 key] := fun w' e => by
              subst e
              refine D.op (Keep.alloc (Keep.refl (fun _ => False) wr) _) (Nat.le_refl _) (by simp) (fun i u hu => ?_)
              match i, hu with
              | 0, hu => simp at hu; subst hu; simp
              | 1, hu => simp at hu; subst hu; simp
            obtain ⟨wB, eB⟩ : ∃ w', wr.alloc (.cells #[.int .i64 kd, .int .i64 key] 46) = w' := ⟨_, rfl⟩
            have D := eK wB eB
            obtain ⟨ob, eo⟩ : ∃ c, wr.heap.size = c := ⟨_, rfl⟩
            rw [eo] at D
            clear eK
            have x0 := D.co 0 _ rfl
            have x1 := D.co 1 _ rfl
            go_upto_block 4 with fail
            clear d0 d1 eB eo
            go_cut [15, 16, 17] from 92 to 195 (fun av fv dv wx => ∃ (S : Nat → Prop) (th : Nat → Nat) (m : Nat → Option CS) (x : CS) (a fr : Int) (dn : Bool), av = .int .i64 a ∧ fv = .int .i64 fr ∧ dv = .bool dn ∧ m q = some x ∧ Is x lo hi a fr dn ∧ CP w wx t S th m b th ob [.int .i64 kd, .int .i64 key])
            case first =>
              rcases (by omega : kd = 1 ∨ kd = 2 ∨ ¬ (kd = 1 ∨ kd = 2)) with rfl | rfl | hkd
              · as_aux_lemma =>
                obtain ⟨⟨r, e, th'⟩, ep⟩ : ∃ z, putT th key 2 = z := ⟨_, rfl⟩
                go_wp2_with fail
                refine (k_put D.r _ _ _ _ _ ep).mono ?_
                rintro e1 y4 ⟨rfl, S4, C4, k4⟩
                have D := D.tstep C4 k4
                have x1 := D.co 1 _ rfl
                go_wp2_with fail
                refine (rt_put D.q _ _ _ _ _ ep).mono ?_
                rintro e1 y5 ⟨rfl, C5, k5⟩
                have D := D.qstep C5 k5
                clear x0 x1
                go_wp2_with fail
                go_meet
                case rel => exact ⟨S4, th', m, x, a, fr, dn, rfl, rfl, rfl, hm, I, D⟩
              · as_aux_lemma =>
                by_cases hin : 0 ≤ key ∧ key ≤ 63
                · obtain ⟨j, rfl⟩ : ∃ j : Nat, key = j := ⟨key.toNat, by omega⟩
                  have j64 : j < 64 := by omega
                  have q3 : (j : Int).toNat = j := by omega
                  have q5 : (0 : Int) ≤ (j : Int) := by omega
                  have q6 : (j : Int) < 64 := by omega
                  have q7 : decide ((j : Int) ≤ 63) = true := decide_eq_true (by omega)
                  obtain ⟨r, ep⟩ := drop_in th j64
                  go_wp2_with fail
                  refine (k_drop D.r _ _ _ ep).mono ?_
                  rintro e1 y4 ⟨rfl, S4, C4, k4⟩
                  have D := D.tstep C4 k4
                  have x1 := D.co 1 _ rfl
                  clear x0
                  go_wp2_with fail
                  have D := D.quiet (Keep.refl (fun _ => False) _).drew
                  have x1 := D.co 1 _ rfl
                  have Q := D.q.set j j64 0 (by omega)
                  have HOB : ¬ ob = b := by (rcases D.no with e | e; simp at e; exact e.2.1)
                  have zj := D.q.t.free j
                  have cj := D.q.t.cell j j64
                  refine wp_region_held_drew (S := (fun w' => w'.cell? ⟨ob, 1, none⟩ = some (.int .i64 (j : Int)))) (by kernel_rfl) x1 (fun hHeld => ?_)
                  refine wpAnyH_take (i := 0) (v := ?qvst0) rfl (by kernel_rfl) (by kernel_rfl) (by kernel_rfl) (fun _ _ _ h => h) (Or.inl ⟨by rfl, ?qyst0⟩) (by assumption) ?qrst0; case qyst0 => ((intro w hSw; (try dsimp only at hSw); go_simp); try (with_reducible rfl))
                  ((try simp only [List.getElem_toArray]); (try simp only [List.getElem_cons_succ]); (try simp only [List.getElem_cons_zero]); (try simp only [Act.put]); (try simp only [List.setIfInBounds_toArray]); (try simp only [List.set_cons_succ]); (try simp only [List.set_cons_zero]))
                  refine wpAnyH_take (i := 1) (v := ?qvst1) rfl (by kernel_rfl) (by kernel_rfl) (by kernel_rfl) (fun _ _ _ h => h) (Or.inl ⟨by rfl, ?qyst1⟩) (by assumption) ?qrst1; case qyst1 => ((intro w hSw; (try dsimp only at hSw); go_simp); try (with_reducible rfl))
                  ((try simp only [List.getElem_toArray]); (try simp only [List.getElem_cons_succ]); (try simp only [List.getElem_cons_zero]); (try simp only [Act.put]); (try simp only [List.setIfInBounds_toArray]); (try simp only [List.set_cons_succ]); (try simp only [List.set_cons_zero]))
                  refine wpAnyH_take (i := 2) (v := ?qvst2) rfl (by kernel_rfl) (by kernel_rfl) (by kernel_rfl) (fun _ _ _ h => h) (Or.inl ⟨by rfl, ?qyst2⟩) (by assumption) ?qrst2; case qyst2 => ((intro w hSw; (try dsimp only at hSw); go_simp); try (with_reducible rfl))
                  ((try simp only [List.getElem_toArray]); (try simp only [List.getElem_cons_succ]); (try simp only [List.getElem_cons_zero]); (try simp only [Act.put]); (try simp only [List.setIfInBounds_toArray]); (try simp only [List.set_cons_succ]); (try simp only [List.set_cons_zero]))
                  refine wpAnyH_take (i := 3) (v := ?qvst3) rfl (by kernel_rfl) (by kernel_rfl) (by kernel_rfl) (fun _ _ _ h => h) (Or.inl ⟨by rfl, ?qyst3⟩) (by assumption) ?qrst3; case qyst3 => ((intro w hSw; (try dsimp only at hSw); go_simp); try (with_reducible rfl))
                  ((try simp only [List.getElem_toArray]); (try simp only [List.getElem_cons_succ]); (try simp only [List.getElem_cons_zero]); (try simp only [Act.put]); (try simp only [List.setIfInBounds_toArray]); (try simp only [List.set_cons_succ]); (try simp only [List.set_cons_zero]))
                  refine wpAnyH_take (i := 4) (v := ?qvst4) rfl (by kernel_rfl) (by kernel_rfl) (by kernel_rfl) (fun _ _ _ h => h) (Or.inl ⟨by rfl, ?qyst4⟩) (by assumption) ?qrst4; case qyst4 => ((intro w hSw; (try dsimp only at hSw); go_simp); try (with_reducible rfl))
                  ((try simp only [List.getElem_toArray]); (try simp only [List.getElem_cons_succ]); (try simp only [List.getElem_cons_zero]); (try simp only [Act.put]); (try simp only [List.setIfInBounds_toArray]); (try simp only [List.set_cons_succ]); (try simp only [List.set_cons_zero]))
                  refine wpAnyH_take (i := 5) (v := ?qvst5) rfl (by kernel_rfl) (by kernel_rfl) (by kernel_rfl) (fun _ _ _ h => h) (Or.inl ⟨by rfl, ?qyst5⟩) (by assumption) ?qrst5; case qyst5 => ((intro w hSw; (try dsimp only at hSw); go_simp); try (with_reducible rfl))
                  ((try simp only [List.getElem_toArray]); (try simp only [List.getElem_cons_succ]); (try simp only [List.getElem_cons_zero]); (try simp only [Act.put]); (try simp only [List.setIfInBounds_toArray]); (try simp only [List.set_cons_succ]); (try simp only [List.set_cons_zero]))
                  refine wpAnyH_ready (rs := [6]) (by kernel_rfl) (by simp) ?_
                  refine AllReadyH.cons rfl (fun K hK => ?_) AllReadyH.nil
                  go_simp
                  refine hK.out _ _ (((keep_one y4 ⟨b, j, none⟩ (.int .i64 0)).drew).cell x1 HOB) (fun hHeld => ?_)
                  clear hK K
                  ((try simp only [List.getElem_toArray]); (try simp only [List.getElem_cons_succ]); (try simp only [List.getElem_cons_zero]); (try simp only [Act.put]); (try simp only [List.setIfInBounds_toArray]); (try simp only [List.set_cons_succ]); (try simp only [List.set_cons_zero]))
                  refine wpAnyH_done (by kernel_rfl) ?_ _
                  have D := D.qstep Q (keep_one _ ⟨b, j, none⟩ _)
                  go_wp2_with fail
                  go_meet
                  case rel => exact ⟨S4, _, m, x, a, fr, dn, rfl, rfl, rfl, hm, I, D⟩
                · obtain ⟨⟨r, th'⟩, ep⟩ : ∃ z, dropT th key = z := ⟨_, rfl⟩
                  have eh0 : hgtT th key = 0 := by unfold hgtT; rw [if_pos (by omega)]
                  obtain rfl : th' = th := by unfold dropT at ep; rw [eh0, if_neg (by omega)] at ep; cases ep; rfl
                  clear eh0
                  go_wp2_with fail
                  refine (k_drop D.r _ _ _ ep).mono ?_
                  rintro e1 y4 ⟨rfl, S4, C4, k4⟩
                  have D := D.tstep C4 k4
                  have x1 := D.co 1 _ rfl
                  clear x0
                  rcases (by omega : key < 0 ∨ (0 ≤ key ∧ 63 < key)) with h1 | ⟨h1, h2⟩
                  · have n1 : decide (0 ≤ key) = false := decide_eq_false (by omega)
                    go_wp2_with fail
                    go_meet
                    case rel => exact ⟨S4, th', m, x, a, fr, dn, rfl, rfl, rfl, hm, I, D⟩
                  · have n1 : decide (0 ≤ key) = true := decide_eq_true h1
                    have n2 : decide (key ≤ 63) = false := decide_eq_false (by omega)
                    go_wp2_with fail
                    go_meet
                    case rel => exact ⟨S4, th', m, x, a, fr, dn, rfl, rfl, rfl, hm, I, D⟩
              · as_aux_lemma =>
                have q0 : (kd == 1) = false := by rw [beq_eq_false_iff_ne]; omega
                have q1 : (kd == 2) = false := by rw [beq_eq_false_iff_ne]; omega
                cases dn with
                | true =>
                  have hN := next_done (th := th) I.d
                  go_wp2_with fail
                  refine (k_next D.r _ hm _ _ _ hN).mono ?_
                  rintro e1 y4 ⟨rfl, S4, C4, k4⟩
                  have D := D.tstep C4 k4
                  clear x0 x1
                  go_wp2_with fail
                  refine (rt_range D.q fr hi).mono ?_
                  rintro e1 y5 ⟨vr, rfl, oR, bR⟩
                  have D := D.quiet (Keep.of_below bR (fun _ => False))
                  clear bR oR
                  go_wp2_with fail
                  go_meet
                  case rel => exact ⟨S4, th, _, x, a, fr, true, rfl, rfl, rfl, updC_at, I, D⟩
                | false =>
                  rcases rng_head 64 (Nat.le_refl _) (th := th) (lo := fr) (hi := hi) with ⟨h3, _⟩ | ⟨k1, tl, h3, h4, _, _, _, _⟩
                  · have hN : nextC th x = (0, false, { x with done := true }) := by unfold nextC; rw [if_neg (by simp [I.d]), I.f, I.hi, h3]
                    go_wp2_with fail
                    refine (k_next D.r _ hm _ _ _ hN).mono ?_
                    rintro e1 y4 ⟨rfl, S4, C4, k4⟩
                    have D := D.tstep C4 k4
                    clear x0 x1
                    go_wp2_with fail
                    refine (rt_range D.q fr hi).mono ?_
                    rw [h3]
                    rintro e1 y5 ⟨vr, rfl, oR, bR⟩
                    have D := D.quiet (Keep.of_below bR (fun _ => False))
                    obtain ⟨Ar, cr, evr, _, _⟩ := OwnN.out oR
                    subst evr
                    clear bR oR
                    go_wp2_with fail
                    go_meet
                    case rel => exact ⟨S4, th, _, { x with done := true }, a, fr, true, rfl, rfl, rfl, updC_at, ⟨I.lo, I.hi, I.a, rfl, I.f⟩, D⟩
                  · have hN : nextC th x = ((k1 : Int), true, { x with at' := (k1 : Int) }) := by unfold nextC; rw [if_neg (by simp [I.d]), I.f, I.hi, h3]
                    have wk1 : IntKind.i64.wrap ((k1 : Int) + 1) = (k1 : Int) + 1 := IntWalk.i64_in _ (by omega)
                    go_wp2_with fail
                    refine (k_next D.r _ hm _ _ _ hN).mono ?_
                    rintro e1 y4 ⟨rfl, S4, C4, k4⟩
                    have D := D.tstep C4 k4
                    clear x0 x1
                    go_wp2_with fail
                    refine (rt_range D.q fr hi).mono ?_
                    rw [h3]
                    rintro e1 y5 ⟨vr, rfl, oR, bR⟩
                    have D := D.quiet (Keep.of_below bR (fun _ => False))
                    obtain ⟨gR, cR, evr⟩ : ∃ g c, vr = .slice (some ⟨g, 0, none⟩) (tl.length + 1) c := by
                      obtain ⟨Ar, cr, e, hr0, hr1⟩ := OwnN.out oR
                      cases Ar with
                      | none => exact absurd (hr0 rfl) (by simp)
                      | some ad => obtain ⟨g, rfl⟩ := hr1 _ rfl; exact ⟨g, cr, e⟩
                    subst evr
                    have cR0 : y5.cell? ⟨gR, 0, none⟩ = some (.int .i64 (k1 : Int)) := (OwnN.cell oR 0 (by simp)).trans rfl
                    have hpos : ¬ ((tl.length : Int) + 1 = 0) := by omega
                    have hpos2 : decide ((0 : Int) < (tl.length : Int) + 1) = true := decide_eq_true (by omega)
                    clear bR oR
                    go_wp2_with fail
                    go_meet
                    case rel => exact ⟨S4, th, _, { x with at' := (k1 : Int) }, (k1 : Int), (k1 : Int) + 1, false, rfl, rfl, rfl, updC_at, ⟨I.lo, I.hi, rfl, I.d, by unfold CS.from'; show (if (k1 : Int) < 0 then x.lo else (k1 : Int) + 1) = (k1 : Int) + 1; rw [if_neg (by omega)]⟩, D⟩
            case rest =>
            clear D x0 x1 hm I
            obtain ⟨S, th, m, x, a, fr, dn, rfl, rfl, rfl, hm, I, D⟩ := hcut
            have edn : (dn != dn) = false := by simp
            go_wp2_with fail
            refine (k_at D.r _ hm _ I.a).mono ?_
            rintro e1 y4 ⟨rfl, S4, C4, k4⟩
            have D := D.tstep C4 k4
            go_wp2_with fail
            refine (k_done D.r _ hm _ I.d).mono ?_
            rintro e1 y5 ⟨rfl, S5, C5, k5⟩
            have D := D.tstep C5 k5
            go_wp2_with fail
            refine (k_span D.r _ hm _ _ ⟨I.lo, I.hi⟩).mono ?_
            rintro e1 y6 ⟨rfl, S6, C6, k6⟩
            have D := D.tstep C6 k6
            go_wp2_with fail
            exact ⟨⟨k + 1, S6, th, m, x, a, fr, dn, ob, by omega, by go_num, rfl, rfl, rfl, hm, I, D.noop⟩, by simp [intOf]; omega⟩
          · rcases (by omega : ¬ k < len0 ∨ (k < len0 ∧ k = 100)) with h1 | ⟨h1, rfl⟩
            all_goals
              go_wp2_with fail
              go_ret
              exact ⟨rfl, D.r.b⟩
      all_goals
        go_wp2_with fail
        refine (k_new_no D.r lo hi (by omega)).mono ?_
        rintro e y3 ⟨rfl, S3, C3, k3⟩
        have D := D.tstep C3 k3
        clear C3 k3
        first
          | have d1 : decide (0 ≤ lo) = false := decide_eq_false (by omega)
            go_wp2_with fail
            go_ret
            exact ⟨rfl, D.r.b⟩
          | have d1 : decide (0 ≤ lo) = true := decide_eq_true (by omega)
            have d2 : decide (hi ≤ 63) = false := decide_eq_false (by omega)
            go_wp2_with fail
            go_ret
            exact ⟨rfl, D.r.b⟩
          | have d1 : decide (0 ≤ lo) = true := decide_eq_true (by omega)
            have d2 : decide (hi ≤ 63) = true := decide_eq_true (by omega)
            have d3 : decide (lo ≤ hi) = false := decide_eq_false (by omega)
            go_wp2_with fail
            go_ret
            exact ⟨rfl, D.r.b⟩
theorem own : ownKnob Try.prog.godebug = none := by kernel_rfl
theorem laidOut : laidOutB Try.prog = true := by kernel_rfl
set_option maxRecDepth 100000 in
theorem lifted (os : Os) (started : os.Started) (H : Type) (enc : TypeId × Value → H) :
    ReturnsInHanded {} Try.checked os 5 .any (Rows.cursorPlaysSpec.pre6 enc Try.prog Try.f5 Rows.cursorPlaysRow.domain false) (Rows.cursorPlaysSpec.post enc Try.prog Try.f5 false true false false) := by
  refine returnsInHanded_of_change (C := Try.checked) own started (by kernel_rfl) Try.func5
    (ChangeSpec.witness6 (enc := enc) (C := Try.checked) false ⟨#[], #[.int .u64 0, .int .i64 0, .int .i64 0, .slice none 0 0], []⟩ 8 (by kernel_rfl) (by kernel_rfl) (by kernel_rfl) (by kernel_rfl)) ?_
  intro W base args ds gs before hval0 hW hcnd _
  have hval : ∀ (j : Nat) t v, Try.f5.params[j]? = some t → args[j]? = some v → Value.okWide Try.prog W .any base t v := hval0
  have hW' := hW
  obtain ⟨p, q, hA0, hV, rfl, hfz, hnd⟩ := hW
  have hA : DataW.TrodAll enc Try.prog W 0 (fun _ => true) true Try.f5.params.toList args.toList ds p := hA0
  rw [Try.params5] at hA hval
  obtain ⟨v0, vs0, d0, ds0, p0, q0, hargs, rfl, rfl, h0, r0⟩ := trodAll_cons hA
  obtain ⟨v1, vs1, d1, ds1, p1, q1, rfl, rfl, rfl, h1, r1⟩ := trodAll_cons r0
  obtain ⟨v2, vs2, d2, ds2, p2, q2, rfl, rfl, rfl, h2, r2⟩ := trodAll_cons r1
  obtain ⟨v3, vs3, d3, ds3, p3, q3, rfl, rfl, rfl, h3, r3⟩ := trodAll_cons r2
  obtain ⟨rfl, rfl, rfl⟩ := trodAll_nil r3
  obtain rfl : args = #[v0, v1, v2, v3] := by cases args; simp_all
  obtain ⟨rfl, rfl⟩ := trodVars_none hV
  obtain ⟨a0, rfl, rfl, rfl, w0⟩ := open_int Try.underlying22 (hval 0 22 v0 rfl rfl) h0
  obtain ⟨a1, rfl, rfl, rfl, w1⟩ := open_int Try.underlying3 (hval 1 3 v1 rfl rfl) h1
  obtain ⟨a2, rfl, rfl, rfl, w2⟩ := open_int Try.underlying3 (hval 2 3 v2 rfl rfl) h2
  obtain ⟨a3, len3, cap3, rfl⟩ := okWide_slice Try.underlying38 (hval 3 38 v3 rfl rfl)
  have k3 := h3
  have lt3 : ∀ x ∈ p3, x.block < W.heap.size := by obtain ⟨m, hm⟩ := k3; exact DataW.trod_lt m _ _ _ hm
  obtain ⟨z3, w3⟩ : ∃ f, IsOps W a3 len3 cap3 f := is_ops h3
  clear hA0 hval0
  refine (walk a0 a1 a2 a3 len3 cap3 z3 W w0 w1 w2 w3).mono fun e W' ⟨he, bel⟩ => ?_
  subst he
  exact ⟨_, rfl, _, _, _, [], _, [], hW', trodAll_mk1 (shut_bool Try.underlying4 _), (trodAll_cons_mk (shut_int Try.underlying22 w0) (trodAll_cons_mk (shut_int Try.underlying3 w1) (trodAll_cons_mk (shut_int Try.underlying3 w2) (trodAll_cons_mk (Below.trod laidOut (by kernel_rfl) (of_decide_eq_true (by kernel_rfl)) k3 bel lt3) trodAll_mk0)))), rfl, bel.frame _, fun h => by cases h⟩
theorem over : Rows.cursorPlaysRow.holds Try.pinned (OpenSpec.ofChange Rows.cursorPlaysSpec) :=
  OpenClaim.holds_of_wide 5 Try.f5 rfl rfl rfl rfl rfl rfl rfl ⟨rfl, rfl, rfl, rfl, rfl⟩ rfl rfl rfl rfl rfl (by kernel_rfl) Try.func5 (by kernel_rfl)
    (of_decide_eq_true (by kernel_rfl)) (by unfold Func.isWrapper; first | (rw [if_pos (by decide +kernel)]; kernel_rfl) | (rw [if_neg (by decide +kernel)]; exact ⟨rfl, rfl⟩))
    (fun os started H enc _ => lifted os started H enc)
theorem proved : Rows.CursorPlaysSaid := over
#print axioms proved
end Go.Proofs.Ytopnhkogapidhaa.cursorPlays
