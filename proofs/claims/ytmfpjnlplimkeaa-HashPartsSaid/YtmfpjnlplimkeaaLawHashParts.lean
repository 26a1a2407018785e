/- Proved here: vinculumlaw10.HashParts returns true and leaves its arguments as they were, for any int and any 64-bit word; no further condition. -/
import Derived.Test.YtmfpjnlplimkeaaHsP
import Derived.Test.YtmfpjnlplimkeaaMask
import Derived.ChangeOld
import Derived.Deep.CutRange
import Derived.Deep.CutBlock
import Derived.Deep.LoopGhost
import Derived.Deep.QuietTactic
import Derived.BigQuiet
namespace Go.Proofs.Ytmfpjnlplimkeaa.hashParts
open Go.ChangeShapes Go.WideShapes Go.ChangeAt Go.RowKit
set_option linter.unusedVariables false

structure Set10 (h : HS) (bit : Nat → Bool) (k : Nat) : Prop where
  pt : h.put = bset bit k
  ch : ∀ c, h.ch c = if c < k ∧ bit c = true then some [] else none
def R1 (w : World) (x p B j : Nat) (bit : Nat → Bool) (i : Value) (wr : World) : Prop :=
  ∃ S s h D, j ≤ 64 ∧ i = .int .i64 j ∧ Hsh w wr x p B S s h D (5000 + 2000 * j) ∧ Set10 h bit j
def R2 (w : World) (x p B Bk b : Nat) (bit : Nat → Bool) (i : Value) (wr : World) : Prop :=
  ∃ S s h D f, b ≤ B ∧ i = .int .i64 b ∧ HsB w wr x p B S s h D (200000 + 2000 * b) Bk f ∧ Set10 h bit 64 ∧ ∀ j, j < 64 → (f j = true ↔ bit j = true ∧ bktI (j : Int) B < b)
def R3 (w : World) (x p B Bk b : Nat) (bit : Nat → Bool) (S : Nat → Prop) (s : RS) (h : HS) (D : Nat → Nat → Prop) (v : Value) (zs : List Int) (m : Nat) (i : Value) (wr : World) : Prop :=
  ∃ f, m ≤ zs.length ∧ i = .int .i64 m ∧ HsB w wr x p B S s h D (201000 + 2000 * b) Bk f ∧ OwnN 0 wr v zs ∧ ∀ j, j < 64 → (f j = true ↔ bit j = true ∧ (bktI (j : Int) B < b ∨ (j : Int) ∈ zs.take m))
theorem mem_take_succ {l : List Int} {m : Nat} (hm : m < l.length) (x : Int) : x ∈ l.take (m + 1) ↔ x ∈ l.take m ∨ x = l.getD m 0 := by
  have e : l.getD m 0 = l[m] := by rw [List.getD_eq_getElem?_getD, List.getElem?_eq_getElem hm]; rfl
  rw [List.take_add_one, List.getElem?_eq_getElem hm, List.mem_append, Option.toList_some, List.mem_singleton, e]
theorem not_take {l : List Int} (hn : l.Nodup) {m : Nat} (hm : m < l.length) : l.getD m 0 ∉ l.take m := by
  intro h
  obtain ⟨j, hj, e⟩ := List.getElem_of_mem h
  rw [List.length_take] at hj
  rw [List.getElem_take] at e
  have : l.getD j 0 = l.getD m 0 := by rw [List.getD_eq_getElem?_getD, List.getElem?_eq_getElem (by omega)]; exact e
  have := getD_inj hn (by omega) hm this
  omega
set_option maxRecDepth 100000 in
set_option maxHeartbeats 8000000 in
theorem walk (a0 a1 : Int) (w : World) (w0 : (Lit.int .i64 a0).wf = true) (w1 : (Lit.int .u64 a1).wf = true) :
    Calls Try.prog 3 #[.int .i64 a0, .int .u64 a1] w fun e w' => e = .returned (.bool true) ∧ Below w.heap.size w w' := by
  obtain ⟨u0, u1⟩ := bounds_u64 w1
  obtain ⟨B, eB⟩ : ∃ n : Nat, a0 % 64 + 1 = (n : Int) := ⟨(a0 % 64 + 1).toNat, by omega⟩
  have Bb : 1 ≤ B ∧ B ≤ 64 := by omega
  have h2 : bits .and .i64 a0 63 = (B : Int) - 1 := (i64_mask a0 6 (by decide)).trans (by omega)
  have wB : IntKind.i64.wrap ((B : Int) - 1 + 1) = (B : Int) := by rw [IntWalk.i64_in _ (by omega)]; omega
  obtain ⟨bit, ebit⟩ : ∃ bit : Nat → Bool, ∀ k, bit k = (bits .and .u64 (a1 / 2 ^ k) 1 == 1) := ⟨fun k => _, fun k => rfl⟩
  clear eB w0 w1
  go_enter Try.func3, Try.ntmps3
  go_wp2_with fail
  refine (v_new 4 _ (by omega) (by omega)).mono ?_
  rintro e y1 ⟨p, S1, rfl, C1⟩
  go_wp2_with fail
  refine (x_new C1 B Bb.1 Bb.2).mono ?_
  rintro e y2 ⟨x, S2, s2, rfl, e2, C2, _⟩
  clear C1 e2 h2 wB
  go_wp2
  go_loopw [9] (fun i wr => ∃ j : Nat, R1 w x p B j bit i wr) (fun i _ => 64 - (intOf i).toNat)
  case atStart => exact ⟨0, S2, s2, HS.new, noD, Nat.zero_le _, rfl, C2.up (by omega), ⟨rfl, fun c => by rw [if_neg (by omega)]; rfl⟩⟩
  case round =>
    obtain ⟨j, S, s, h, D, jl, rfl, C, T⟩ := hrel
    clear C2
    have wk : IntKind.i64.wrap ((j : Int) + 1) = (j : Int) + 1 := IntWalk.i64_in _ (by omega)
    by_cases hlt : j < 64
    · have eb := (ebit j).symm
      cases hbit : bit j with
      | true =>
        rw [hbit] at eb
        go_wp2_with fail
        refine (x_put_new C (by omega) j hlt (by rw [T.ch j, if_neg (by omega)])).mono ?_
        rintro e y4 ⟨d, S4, s4, rfl, e4, C4, _⟩
        have T4 : Set10 (h.add j) bit (j + 1) := ⟨by show h.put ++ [j] = _; rw [T.pt]; show _ = (if bit j = true then _ else _); rw [if_pos hbit], fun c => by
          by_cases e : c = j
          · subst e; rw [HS.add_at, if_pos ⟨by omega, hbit⟩]
          · rw [HS.add_ne e, T.ch c]
            by_cases hc : c < j ∧ bit c = true
            · rw [if_pos hc, if_pos ⟨by omega, hc.2⟩]
            · rw [if_neg hc, if_neg (fun h => hc ⟨by omega, h.2⟩)]⟩
        clear C hbit T
        go_wp2
        go_roundw
        case rel => exact ⟨j + 1, S4, s4, _, _, by omega, by go_num, C4.up (by omega), T4⟩
        case measure => simp [intOf]; omega
      | false =>
        rw [hbit] at eb
        have T4 : Set10 h bit (j + 1) := ⟨by rw [T.pt]; show _ = (if bit j = true then _ else _); rw [if_neg (by simp [hbit])], fun c => by
          rw [T.ch c]
          by_cases e : c = j
          · subst e; rw [if_neg (by omega), if_neg (by simp [hbit])]
          · by_cases hc : c < j ∧ bit c = true
            · rw [if_pos hc, if_pos ⟨by omega, hc.2⟩]
            · rw [if_neg hc, if_neg (fun h => hc ⟨by omega, h.2⟩)]⟩
        clear hbit T
        go_wp2
        go_roundw
        case rel => exact ⟨j + 1, S, s, h, D, by omega, by go_num, C.up (by omega), T4⟩
        case measure => simp [intOf]; omega
    · obtain rfl : j = 64 := by omega
      clear hlt jl
      obtain ⟨Bk, eBk⟩ : ∃ b, wr.heap.size = b := ⟨_, rfl⟩
      have bn := bits_new wr 33
      have C5 := C.quiet (Keep.alloc (Keep.refl (fun _ => False) wr) (.cells (Array.replicate 64 (.bool false)) 33))
      have nS : ¬ S Bk := fun hS => by have := C.lt _ hS; omega
      have gB := C.b.size
      go_upto_region 15 with fail
      rw [eBk] at bn
      generalize hW : wr.alloc (.cells _ _) = w5
      have hW' : wr.alloc (.cells (Array.replicate 64 (.bool false)) 33) = w5 := hW
      clear hW
      rw [hW'] at bn C5
      have B0 : HsB w w5 x p B S s h D 200000 Bk (fun _ => false) := ⟨C5.up (by omega), bn, nS, by omega⟩
      clear C C5 bn hW' eBk gB
      go_loopw [13] (fun i wr => ∃ b : Nat, R2 w x p B Bk b bit i wr) (fun i _ => B - (intOf i).toNat)
      case atStart => exact ⟨0, S, s, h, D, _, Nat.zero_le _, rfl, B0, T, fun j hj => ⟨fun h => (by cases h), fun h => by have := (bktI_b j B (by omega) (by omega) (by omega) (by omega)).1; have := h.2; omega⟩⟩
      case round =>
        clear B0 T nS wk
        obtain ⟨b, S, s, h, D, f, bl, rfl, Q, T, hf⟩ := hrel
        have wk : IntKind.i64.wrap ((b : Int) + 1) = (b : Int) + 1 := IntWalk.i64_in _ (by omega)
        by_cases hlt : b < B
        · obtain ⟨zs, hz⟩ : ∃ zs, bin (B : Int) (b : Int) h.put = zs := ⟨_, rfl⟩
          have hin : h.inB (B : Int) (b : Int) = zs := by unfold HS.inB; rw [if_neg (by omega)]; exact hz
          have hnd : zs.Nodup := by rw [← hz]; exact bin_nodup Q.r.hk.nd
          have hlen : zs.length ≤ 64 := by rw [← hz]; exact Nat.le_trans bin_len Q.r.hk.short
          have hmem : ∀ y, y ∈ zs ↔ ∃ k : Nat, (k < 64 ∧ bit k = true) ∧ bktI (k : Int) B = b ∧ y = (k : Int) := fun y => by
            rw [← hz, bin_mem, T.pt]
            constructor
            · rintro ⟨k, h1, h2, h3⟩; exact ⟨k, (bset_mem 64 k).1 h1, h2, h3⟩
            · rintro ⟨k, h1, h2, h3⟩; exact ⟨k, (bset_mem 64 k).2 h1, h2, h3⟩
          clear hz
          go_wp2_with fail
          refine (x_in Q.r (by omega) (b : Int) zs hin).mono ?_
          rintro e y6 ⟨v6, S6, s6, rfl, o6, d6, e6, C6, k6⟩
          have Q6 := Q.step C6 k6
          have gk : ∀ g, v6.ownBlock = some g → g ≠ Bk := fun g hg => by have := (OwnN.lt o6 hg).1; have := Q.bt.lt; omega
          clear Q C6 k6 hin e6 d6
          obtain ⟨A6, c6, rfl, hA0, hA1⟩ := OwnN.out o6
          have o6 : OwnN 0 y6 (.slice A6 zs.length c6) zs := by
            obtain ⟨h1, h2⟩ := o6
            refine ⟨h1, ?_⟩
            rcases h2 with h2 | ⟨g, c, cur, hv, hg, r⟩
            · exact .inl h2
            · exact .inr ⟨g, c, cur, hv, Nat.zero_le _, r⟩
          go_wp2
          go_loopw [15] (fun i wr => ∃ m : Nat, R3 w x p B Bk b bit S6 s6 h D (.slice A6 zs.length c6) zs m i wr) (fun i _ => zs.length - (intOf i).toNat)
          case atStart => exact ⟨0, f, Nat.zero_le _, rfl, Q6.up (by omega), o6, fun j hj => by rw [hf j hj]; simp⟩
          case round =>
            clear Q6 o6 hf
            obtain ⟨m, f, ml, rfl, Q, o6, hf⟩ := hrel
            have wm : IntKind.i64.wrap ((m : Int) + 1) = (m : Int) + 1 := IntWalk.i64_in _ (by omega)
            by_cases hm : m < zs.length
            · cases A6 with
              | none => exact absurd (hA0 rfl) (by intro e; rw [e] at hm; simp at hm)
              | some ad =>
                obtain ⟨g, rfl⟩ := hA1 _ rfl
                have cm := OwnN.cell o6 m hm
                have hnt := not_take hnd hm
                have ht := mem_take_succ hm
                obtain ⟨k, ⟨k64, hbk⟩, hbb, ek⟩ := (hmem _).1 (getD_mem hm)
                rw [ek] at cm hnt ht
                have hf1 : f k = false := by
                  cases e : f k with
                  | false => rfl
                  | true =>
                    rcases ((hf k k64).1 e).2 with h | h
                    · omega
                    · exact absurd h hnt
                have cs := Q.bt.cell k k64
                have fs := Q.bt.free k
                rw [hf1] at cs
                have eb : bits .and .u64 (a1 / 2 ^ k) 1 = 1 := by
                  have := ebit k
                  rw [hbk] at this
                  exact eq_of_beq this.symm
                have q1 : decide ((k : Int) < 0) = false := decide_eq_false (by omega)
                have q2 : decide (63 < (k : Int)) = false := decide_eq_false (by omega)
                have q3 : (k : Int).toNat = k := by omega
                have q4 : k < 64 := k64
                have q5 : (0 : Int) ≤ (k : Int) := by omega
                have hg : ¬ g = Bk := gk g rfl
                have Q2 := Q.set k k64 true (f' := fun j => if j = k then true else f j) (fun j => rfl)
                have o2 := OwnN.keep o6 (keep_one _ ⟨Bk, k, none⟩ (.bool true)) (fun g' h1 h2 => hg (by cases h1; have h2 : g = Bk := h2; exact h2))
                have hf2 : ∀ j, j < 64 → ((if j = k then true else f j) = true ↔ bit j = true ∧ (bktI (j : Int) B < b ∨ (j : Int) ∈ zs.take (m + 1))) := fun j hj => by
                  by_cases e : j = k
                  · subst e
                    rw [if_pos rfl]
                    exact ⟨fun _ => ⟨hbk, .inr ((ht _).2 (.inr rfl))⟩, fun _ => rfl⟩
                  · rw [if_neg e, hf j hj, ht]
                    have : ¬ (j : Int) = (k : Int) := by omega
                    simp [this]
                clear hf ht hnt ek hbk hf1 hA0 hA1 ebit
                go_wp2_with fail
                refine (x_bucket (k : Int) (B : Int) _).mono ?_
                rintro e y7 ⟨rfl, rfl⟩
                rw [hbb]
                go_wp2
                go_roundw
                case rel => exact ⟨m + 1, _, by omega, by go_num, Q2, o2, hf2⟩
                case measure => simp [intOf]; omega
            · obtain rfl : m = zs.length := by omega
              have hf2 : ∀ j, j < 64 → (f j = true ↔ bit j = true ∧ bktI (j : Int) B < ((b + 1 : Nat) : Int)) := fun j hj => by
                rw [hf j hj, List.take_length, hmem]
                constructor
                · rintro ⟨h1, h2⟩
                  refine ⟨h1, ?_⟩
                  rcases h2 with h2 | ⟨k, _, h3, h4⟩
                  · omega
                  · obtain rfl : j = k := by omega
                    omega
                · rintro ⟨h1, h2⟩
                  refine ⟨h1, ?_⟩
                  by_cases h3 : bktI (j : Int) B < b
                  · exact .inl h3
                  · exact .inr ⟨j, ⟨hj, h1⟩, by omega, rfl⟩
              clear hf hmem ml hm
              go_wp2
              have hq : R2 w x p B Bk (b + 1) bit (.int .i64 ((b : Int) + 1)) wr := ⟨S6, s6, h, D, f, by omega, by go_num, Q.up (by omega), T, hf2⟩
              refine ⟨?rel2, ?meas2⟩
              case meas2 => (simp [intOf]; omega)
              case rel2 =>
                (repeat apply Exists.intro)
                exact ⟨⟨b + 1, hq⟩, rfl⟩
        · obtain rfl : b = B := by omega
          have hf2 : ∀ j, j < 64 → f j = bit j := fun j hj => by
            have hb := (bktI_b j b (by omega) (by omega) (by omega) (by omega)).2
            cases e : bit j with
            | true => exact (hf j hj).2 ⟨e, hb⟩
            | false =>
              cases e2 : f j with
              | false => rfl
              | true => have := ((hf j hj).1 e2).1; rw [e] at this; cases this
          clear hf hlt bl T
          go_wp2
          go_loopw [16] (fun i wr => ∃ m d : Nat, m ≤ 64 ∧ i = .int .i64 m ∧ HsB w wr x p b S s h D (200000 + 2000 * b) Bk f) (fun i _ => 64 - (intOf i).toNat)
          case atStart => exact ⟨0, 0, Nat.zero_le _, rfl, Q⟩
          case round =>
            clear Q
            obtain ⟨m, d, ml, rfl, Q⟩ := hrel
            have wm : IntKind.i64.wrap ((m : Int) + 1) = (m : Int) + 1 := IntWalk.i64_in _ (by omega)
            by_cases hm : m < 64
            · have cs := Q.bt.cell m hm
              rw [hf2 m hm] at cs
              have eb := (ebit m).symm
              obtain ⟨c, ec⟩ : ∃ c, bit m = c := ⟨_, rfl⟩
              rw [ec] at cs eb
              have hcc : (c != c) = false := by simp
              clear ec hf2 ebit
              go_wp2_with fail
              go_quiet (fail)
              go_wp2
              go_roundw
              case rel => exact ⟨m + 1, 0, by omega, by go_num, Q.quiet (drewN_keep _ _ _)⟩
              case measure => simp [intOf]; omega
            · obtain rfl : m = 64 := by omega
              clear hf2 ebit
              go_wp2_with fail
              refine (x_new_no none 4 (.inl rfl) _).mono ?_
              rintro e z1 ⟨rfl, c1⟩
              go_wp2_with fail
              refine (awake10_any _).mono ?_
              rintro e z2 ⟨rfl, c2⟩
              go_wp2
              go_ret
              exact ⟨rfl, Q.r.b.trans ((c1.trans (c2.mono c1.size)).mono Q.r.b.size)⟩
theorem own : ownKnob Try.prog.godebug = none := by kernel_rfl
theorem laidOut : laidOutB Try.prog = true := by kernel_rfl
set_option maxRecDepth 100000 in
theorem lifted (os : Os) (started : os.Started) (H : Type) (enc : TypeId × Value → H) :
    ReturnsInHanded {} Try.checked os 3 .any (Rows.hashPartsSpec.pre6 enc Try.prog Try.f3 Rows.hashPartsRow.domain false) (Rows.hashPartsSpec.post enc Try.prog Try.f3 false true false false) := by
  refine returnsInHanded_of_change (C := Try.checked) own started (by kernel_rfl) Try.func3
    (ChangeSpec.witness6 (enc := enc) (C := Try.checked) false ⟨#[], #[.int .i64 0, .int .u64 0], []⟩ 8 (by kernel_rfl) (by kernel_rfl) (by kernel_rfl) (by kernel_rfl)) ?_
  intro W base args ds gs before hval0 hW hcnd _
  have hval : ∀ (j : Nat) t v, Try.f3.params[j]? = some t → args[j]? = some v → Value.okWide Try.prog W .any base t v := hval0
  have hW' := hW
  obtain ⟨p, q, hA0, hV, rfl, hfz, hnd⟩ := hW
  have hA : DataW.TrodAll enc Try.prog W 0 (fun _ => true) true Try.f3.params.toList args.toList ds p := hA0
  rw [Try.params3] at hA hval
  obtain ⟨v0, vs0, d0, ds0, p0, q0, hargs, rfl, rfl, h0, r0⟩ := trodAll_cons hA
  obtain ⟨v1, vs1, d1, ds1, p1, q1, rfl, rfl, rfl, h1, r1⟩ := trodAll_cons r0
  obtain ⟨rfl, rfl, rfl⟩ := trodAll_nil r1
  obtain rfl : args = #[v0, v1] := by cases args; simp_all
  obtain ⟨rfl, rfl⟩ := trodVars_none hV
  obtain ⟨a0, rfl, rfl, rfl, w0⟩ := open_int Try.underlying3 (hval 0 3 v0 rfl rfl) h0
  obtain ⟨a1, rfl, rfl, rfl, w1⟩ := open_int Try.underlying22 (hval 1 22 v1 rfl rfl) h1
  clear hA0 hval0
  refine (walk a0 a1 W w0 w1).mono fun e W' ⟨he, bel⟩ => ?_
  subst he
  exact ⟨_, rfl, _, _, _, [], _, [], hW', trodAll_mk1 (shut_bool Try.underlying4 _), (trodAll_cons_mk (shut_int Try.underlying3 w0) (trodAll_cons_mk (shut_int Try.underlying22 w1) trodAll_mk0)), rfl, bel.frame _, fun h => by cases h⟩
theorem over : Rows.hashPartsRow.holds Try.pinned (OpenSpec.ofChange Rows.hashPartsSpec) :=
  OpenClaim.holds_of_wide 3 Try.f3 rfl rfl rfl rfl rfl rfl rfl ⟨rfl, rfl, rfl, rfl, rfl⟩ rfl rfl rfl rfl rfl (by kernel_rfl) Try.func3 (by kernel_rfl)
    (of_decide_eq_true (by kernel_rfl)) (by unfold Func.isWrapper; first | (rw [if_pos (by decide +kernel)]; kernel_rfl) | (rw [if_neg (by decide +kernel)]; exact ⟨rfl, rfl⟩))
    (fun os started H enc _ => lifted os started H enc)
theorem proved : Rows.HashPartsSaid := over
#print axioms proved
end Go.Proofs.Ytmfpjnlplimkeaa.hashParts
