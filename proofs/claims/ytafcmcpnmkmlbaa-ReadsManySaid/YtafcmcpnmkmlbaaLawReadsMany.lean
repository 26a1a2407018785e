/- Proved here: vinculumlaw13.ReadsMany returns true and leaves its argument as it was, for every int; no further condition. -/
import Derived.Test.YtafcmcpnmkmlbaaRdD
import Derived.Test.YtafcmcpnmkmlbaaBits
import Derived.ChangeOld
import Derived.Deep.LoopGhost
namespace Go.Proofs.Ytafcmcpnmkmlbaa.readsMany
open Go.ChangeShapes Go.WideShapes Go.ChangeAt Go.RowKit
set_option linter.unusedVariables false

/-- The first k of the ranges that are asked for. -/
def rows (k : Nat) : List ScI := (List.range (min k 64)).map fun i => ⟨((i % 32 : Nat) : Int), 63, []⟩
theorem rows_len (k : Nat) : (rows k).length = min k 64 := by simp [rows]
theorem rows_yes {k : Nat} (h : k < 64) : rows k ++ [⟨((k % 32 : Nat) : Int), 63, []⟩] = rows (k + 1) := by
  unfold rows
  rw [show min k 64 = k by omega, show min (k + 1) 64 = k + 1 by omega, List.range_succ, List.map_append]
  rfl
theorem rows_no {k : Nat} (h : 64 ≤ k) : rows k = rows (k + 1) := by
  unfold rows
  rw [show min k 64 = 64 by omega, show min (k + 1) 64 = 64 by omega]
def nums (k : Nat) : List Int := (List.range k).map fun (i : Nat) => (i : Int)
theorem nums_len (k : Nat) : (nums k).length = k := by simp [nums]
theorem nums_succ (k : Nat) : nums (k + 1) = nums k ++ [(k : Int)] := by simp [nums, List.range_succ]
theorem nums_no (k : Nat) : (k : Int) ∉ nums k := by
  unfold nums
  simp only [List.mem_map, List.mem_range, not_exists, not_and]
  omega
theorem nums_in {k j : Nat} (h : j < k) : (j : Int) ∈ nums k := by
  unfold nums
  simp only [List.mem_map, List.mem_range]
  exact ⟨j, h, rfl⟩
theorem span_ask (k : Nat) : (⟨[], [], rows k⟩ : RdS).span ((k % 32 : Nat) : Int) 63 [] = (if k < 64 then 0 else 65, ⟨[], [], rows (k + 1)⟩) := by
  unfold RdS.span
  rw [if_neg (by omega)]
  simp only [rows_len]
  by_cases h : k < 64
  · rw [if_neg (by omega), if_pos h, rows_yes h]
  · rw [if_pos (by omega), if_neg h, ← rows_no (by omega)]
theorem add_new {k : Nat} (h : k < 64) (r : List ScI) : (⟨nums k, nums k, r⟩ : RdS).add k k = (0, ⟨nums (k + 1), nums (k + 1), r⟩) := by
  unfold RdS.add
  rw [if_neg (by omega), if_neg (nums_no k), nums_succ]
theorem add_old {k : Nat} (h : k < 64) (r : List ScI) (x : Int) : (⟨nums (k + 1), nums (k + 1), r⟩ : RdS).add k x = (0, ⟨nums (k + 1), nums (k + 1), r⟩) := by
  unfold RdS.add
  rw [if_neg (by omega), if_pos (nums_in (by omega))]
def R1 (w : World) (t n k : Nat) (iv : Value) (wr : World) : Prop := ∃ S, k ≤ n ∧ iv = .int .i64 k ∧ Rd w wr t S ⟨[], [], rows k⟩
def R2 (w : World) (t n k : Nat) (iv : Value) (wr : World) : Prop := ∃ S, k ≤ 64 ∧ iv = .int .i64 k ∧ Rd w wr t S ⟨nums k, nums k, rows n⟩
set_option maxRecDepth 100000 in
set_option maxHeartbeats 8000000 in
theorem walk (a0 : Int) (w : World) (w0 : (Lit.int .i64 a0).wf = true) :
    Calls Try.prog 3 #[.int .i64 a0] w fun e w' => e = .returned (.bool true) ∧ Below w.heap.size w w' := by
  obtain ⟨m0, em0⟩ : ∃ m : Nat, a0 % 16 = m := ⟨(a0 % 16).toNat, by omega⟩
  have hm0 : bits .and .i64 a0 15 = m0 := (i64_mask a0 4 (by decide)).trans em0
  obtain ⟨n, en⟩ : ∃ n : Nat, m0 + 56 = n := ⟨m0 + 56, rfl⟩
  have en1 : IntKind.i64.wrap ((m0 : Int) + 56) = n := (IntWalk.i64_in _ (by omega)).trans (by omega)
  have en2 : (m0 : Int) + 56 = n := by omega
  have n1 : 56 ≤ n := by omega
  have n2 : n ≤ 71 := by omega
  clear em0 w0 en
  go_enter Try.func3, Try.ntmps3
  go_wp2_with fail
  refine (rd_new w).mono ?_
  rintro e w1 ⟨t, S1, rfl, h1⟩
  go_wp2
  go_loopw [4, 5] (fun i e wr => ∃ k : Nat, R1 w t n k i wr) (fun i _ _ => n - (intOf i).toNat)
  case atStart => exact ⟨0, S1, Nat.zero_le _, rfl, h1⟩
  case round =>
    obtain ⟨k, S, hk, rfl, h⟩ := hrel
    clear h1
    by_cases hlt : k < n
    · have mk : bits .and .i64 (k : Int) 31 = ((k % 32 : Nat) : Int) := (i64_mask (k : Int) 5 (by decide)).trans (by omega)
      have wk : IntKind.i64.wrap ((k : Int) + 1) = (k : Int) + 1 := IntWalk.i64_in _ (by omega)
      have hs := span_ask k
      obtain ⟨z, ez⟩ : ∃ z, k % 32 = z := ⟨_, rfl⟩
      rw [ez] at mk hs
      clear ez
      by_cases h64 : k < 64
      · rw [if_pos h64] at hs
        go_wp2_with fail
        refine (rd_span h _ _ _ [] (Lies.nil _) (by simp) _ _ hs).mono ?_
        rintro e w2 ⟨rfl, S2, h2, k2⟩
        clear hs h k2
        go_wp2
        first | exact ⟨⟨k + 1, S2, by omega, by go_num, h2⟩, by simp [intOf]; omega⟩ | (refine ⟨?rel2, ?meas2⟩; (case meas2 => (simp [intOf]; omega)); (case rel2 => ((repeat apply Exists.intro); exact ⟨⟨k + 1, S2, by omega, by go_num, h2⟩, rfl⟩)))
      · rw [if_neg h64] at hs
        go_wp2_with fail
        refine (rd_span h _ _ _ [] (Lies.nil _) (by simp) _ _ hs).mono ?_
        rintro e w2 ⟨rfl, S2, h2, k2⟩
        clear hs h k2
        go_wp2
        first | exact ⟨⟨k + 1, S2, by omega, by go_num, h2⟩, by simp [intOf]; omega⟩ | (refine ⟨?rel2, ?meas2⟩; (case meas2 => (simp [intOf]; omega)); (case rel2 => ((repeat apply Exists.intro); exact ⟨⟨k + 1, S2, by omega, by go_num, h2⟩, rfl⟩)))
    · obtain rfl : k = n := by omega
      clear en1 en2 hm0
      go_wp2
      go_loopw [6] (fun i wr => ∃ j : Nat, R2 w t k j i wr) (fun i _ => 64 - (intOf i).toNat)
      case atStart => exact ⟨0, S, Nat.zero_le _, rfl, h⟩
      case round =>
        obtain ⟨j, S2, hj, rfl, h2⟩ := hrel
        clear h
        by_cases hj2 : j < 64
        · have wk : IntKind.i64.wrap ((j : Int) + 1) = (j : Int) + 1 := IntWalk.i64_in _ (by omega)
          have wu : IntKind.u64.wrap (j : Int) = (j : Int) := by rw [IntKind.wrap_u64]; omega
          have s1 := add_new hj2 (rows k)
          have s2 := add_old hj2 (rows k) 99
          go_wp2_with fail
          refine (rd_add h2 _ _ ⟨by omega, by omega⟩ _ _ s1).mono ?_
          rintro e w2 ⟨rfl, S3, h3, k3⟩
          clear s1 h2 k3
          go_wp2_with fail
          refine (rd_add h3 _ _ ⟨by omega, by omega⟩ _ _ s2).mono ?_
          rintro e w3 ⟨rfl, S4, h4, k4⟩
          clear s2 h3 k4
          go_wp2
          first | exact ⟨⟨j + 1, S4, by omega, by go_num, h4⟩, by simp [intOf]; omega⟩ | (refine ⟨?rel2, ?meas2⟩; (case meas2 => (simp [intOf]; omega)); (case rel2 => ((repeat apply Exists.intro); exact ⟨⟨j + 1, S4, by omega, by go_num, h4⟩, rfl⟩)))
        · obtain rfl : j = 64 := by omega
          have rl := rows_len k
          obtain ⟨R, eR⟩ : ∃ R, rows k = R := ⟨_, rfl⟩
          rw [eR] at h2 rl
          have s1 : (⟨nums 64, nums 64, R⟩ : RdS).link 63 = (63, true) := by rfl
          have s2 : (⟨nums 64, nums 64, R⟩ : RdS).len = 64 + ((min k 64 : Nat) : Int) := by unfold RdS.len; rw [nums_len, rl]; rfl
          have s3 : (⟨nums 64, nums 64, R⟩ : RdS).add 64 1 = (1, ⟨nums 64, nums 64, R⟩) := by unfold RdS.add; rw [if_pos (by omega)]
          have s4 : (⟨nums 64, nums 64, R⟩ : RdS).span 5 4 [] = (1, ⟨nums 64, nums 64, R⟩) := by unfold RdS.span; rw [if_pos (by omega)]
          have nl : (nums 64).length = 64 := nums_len 64
          obtain ⟨N, eN⟩ : ∃ N, nums 64 = N := ⟨_, rfl⟩
          rw [eN] at s1 s2 s3 s4 h2 nl
          obtain ⟨mn, emn⟩ : ∃ mn, min k 64 = mn := ⟨_, rfl⟩
          have hmn : (if (64 : Int) < (k : Int) then (64 : Int) else (k : Int)) = (mn : Int) := by split <;> omega
          have hmn2 : (if (k : Int) < (64 : Int) then (k : Int) else (64 : Int)) = (mn : Int) := by split <;> omega
          have bm : mn ≤ 64 := by omega
          have wl : IntKind.i64.wrap (64 + (mn : Int)) = 64 + (mn : Int) := IntWalk.i64_in _ (by omega)
          rw [emn] at rl s2
          clear eR eN emn n1 n2 hlt
          go_wp2_with fail
          refine (rd_link h2 _ _ _ s1).mono ?_
          rintro e w3 ⟨rfl, S3, h3, k3⟩
          clear s1 h2 k3
          go_wp2_with fail
          refine (rd_spans h3).mono ?_
          rintro e w4 ⟨v, S4, T4, rfl, o4, _, h4, k4⟩
          obtain ⟨⟨A, c, rfl, _⟩, _, _⟩ := o4
          rw [show RdS.scans ⟨N, N, R⟩ = R from rfl, rl]
          clear h3 k4
          go_wp2_with fail
          refine (rd_keys h4).mono ?_
          rintro e w5 ⟨v, S5, rfl, o5, _, h5, k5⟩
          obtain ⟨A5, c5, rfl, _⟩ := OwnN.shapeN o5
          rw [show RdS.keys ⟨N, N, R⟩ = N from rfl, nl]
          clear h4 k5 o5
          go_wp2_with fail
          refine (rd_len h5 _ s2).mono ?_
          rintro e w6 ⟨rfl, S6, h6, k6⟩
          clear h5 k6 s2
          go_wp2_with fail
          refine (rd_add h6 _ _ ⟨by omega, by omega⟩ _ _ s3).mono ?_
          rintro e w7 ⟨rfl, S7, h7, k7⟩
          clear h6 k7 s3
          go_wp2_with fail
          refine (rd_span h7 _ _ _ [] (Lies.nil _) (by simp) _ _ s4).mono ?_
          rintro e w8 ⟨rfl, S8, h8, k8⟩
          clear h7 k8 s4
          go_wp2_with fail
          refine (awake13_any _).mono ?_
          rintro e w9 ⟨rfl, b9⟩
          go_wp2
          go_ret
          exact ⟨rfl, h8.b.trans (b9.mono h8.b.size)⟩
theorem own : ownKnob Try.prog.godebug = none := by kernel_rfl
theorem laidOut : laidOutB Try.prog = true := by kernel_rfl
set_option maxRecDepth 100000 in
theorem lifted (os : Os) (started : os.Started) (H : Type) (enc : TypeId × Value → H) :
    ReturnsInHanded {} Try.checked os 3 .any (Rows.readsManySpec.pre6 enc Try.prog Try.f3 Rows.readsManyRow.domain false) (Rows.readsManySpec.post enc Try.prog Try.f3 false true false false) := by
  refine returnsInHanded_of_change (C := Try.checked) own started (by kernel_rfl) Try.func3
    (ChangeSpec.witness6 (enc := enc) (C := Try.checked) false ⟨#[], #[.int .i64 0], []⟩ 8 (by kernel_rfl) (by kernel_rfl) (by kernel_rfl) (by kernel_rfl)) ?_
  intro W base args ds gs before hval0 hW hcnd _
  have hval : ∀ (j : Nat) t v, Try.f3.params[j]? = some t → args[j]? = some v → Value.okWide Try.prog W .any base t v := hval0
  have hW' := hW
  obtain ⟨p, q, hA0, hV, rfl, hfz, hnd⟩ := hW
  have hA : DataW.TrodAll enc Try.prog W 0 (fun _ => true) true Try.f3.params.toList args.toList ds p := hA0
  rw [Try.params3] at hA hval
  obtain ⟨v0, vs0, d0, ds0, p0, q0, hargs, rfl, rfl, h0, r0⟩ := trodAll_cons hA
  obtain ⟨rfl, rfl, rfl⟩ := trodAll_nil r0
  obtain rfl : args = #[v0] := by cases args; simp_all
  obtain ⟨rfl, rfl⟩ := trodVars_none hV
  obtain ⟨a0, rfl, rfl, rfl, w0⟩ := open_int Try.underlying3 (hval 0 3 v0 rfl rfl) h0
  clear hA0 hval0
  refine (walk a0 W w0).mono fun e W' ⟨he, bel⟩ => ?_
  subst he
  exact ⟨_, rfl, _, _, _, [], _, [], hW', trodAll_mk1 (shut_bool Try.underlying4 _), (trodAll_cons_mk (shut_int Try.underlying3 w0) trodAll_mk0), rfl, bel.frame _, fun h => by cases h⟩
theorem over : Rows.readsManyRow.holds Try.pinned (OpenSpec.ofChange Rows.readsManySpec) :=
  OpenClaim.holds_of_wide 3 Try.f3 rfl rfl rfl rfl rfl rfl rfl ⟨rfl, rfl, rfl, rfl, rfl⟩ rfl rfl rfl rfl rfl (by kernel_rfl) Try.func3 (by kernel_rfl)
    (of_decide_eq_true (by kernel_rfl)) (by unfold Func.isWrapper; first | (rw [if_pos (by decide +kernel)]; kernel_rfl) | (rw [if_neg (by decide +kernel)]; exact ⟨rfl, rfl⟩))
    (fun os started H enc _ => lifted os started H enc)
theorem proved : Rows.ReadsManySaid := over
end Go.Proofs.Ytafcmcpnmkmlbaa.readsMany
