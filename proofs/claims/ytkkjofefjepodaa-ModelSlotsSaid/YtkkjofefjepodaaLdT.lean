/- Package model as landed, in memory: which calls may be; fault, draw. Condition: times below 2^63. WRITTEN by wip/tools/genisop.py. -/
import Derived.Test.YtkkjofefjepodaaLdS
namespace Go.Proofs.Ytkkjofefjepodaa
open Go.ChangeShapes Go.WideShapes Go.ChangeAt Go.RowKit
set_option linter.unusedVariables false
set_option linter.unusedSimpArgs false
section
variable {w w' : World} {m g : Nat} {K : Nat → Value} {o : Nat → Nat} {z : LdI} {T : Nat → Prop} {F : Nat → FtI} {P : VeI → Bool} {t : TtI} {x : FtI}
set_option maxRecDepth 100000 in
theorem iskey_any (n : Int) (r : Bool) (hr : r = decide (0 ≤ n ∧ n ≤ 63)) (w : World) : Calls Try.prog 71 #[.int .i64 n] w fun e w' => e = .returned (.bool r) ∧ w' = w := by
  by_cases h1 : 0 ≤ n
  · have d1 : decide (0 ≤ n) = true := decide_eq_true h1
    by_cases h2 : n ≤ 63
    · have d2 : decide (n ≤ 63) = true := decide_eq_true h2
      obtain rfl : r = true := hr.trans (decide_eq_true ⟨h1, h2⟩)
      clear hr
      go_enter Try.func71, Try.ntmps71
      go_wp2
      go_ret
      exact ⟨rfl, rfl⟩
    · have d2 : decide (n ≤ 63) = false := decide_eq_false h2
      obtain rfl : r = false := hr.trans (decide_eq_false fun q => h2 q.2)
      clear hr
      go_enter Try.func71, Try.ntmps71
      go_wp2
      go_ret
      exact ⟨rfl, rfl⟩
  · have d1 : decide (0 ≤ n) = false := decide_eq_false h1
    obtain rfl : r = false := hr.trans (decide_eq_false fun q => h1 q.1)
    clear hr
    go_enter Try.func71, Try.ntmps71
    go_wp2
    go_ret
    exact ⟨rfl, rfl⟩
set_option maxRecDepth 100000 in
theorem isvalue_any (n : Int) (r : Bool) (hr : r = decide (0 ≤ n ∧ n ≤ 65535)) (w : World) : Calls Try.prog 72 #[.int .i64 n] w fun e w' => e = .returned (.bool r) ∧ w' = w := by
  by_cases h1 : 0 ≤ n
  · have d1 : decide (0 ≤ n) = true := decide_eq_true h1
    by_cases h2 : n ≤ 65535
    · have d2 : decide (n ≤ 65535) = true := decide_eq_true h2
      obtain rfl : r = true := hr.trans (decide_eq_true ⟨h1, h2⟩)
      clear hr
      go_enter Try.func72, Try.ntmps72
      go_wp2
      go_ret
      exact ⟨rfl, rfl⟩
    · have d2 : decide (n ≤ 65535) = false := decide_eq_false h2
      obtain rfl : r = false := hr.trans (decide_eq_false fun q => h2 q.2)
      clear hr
      go_enter Try.func72, Try.ntmps72
      go_wp2
      go_ret
      exact ⟨rfl, rfl⟩
  · have d1 : decide (0 ≤ n) = false := decide_eq_false h1
    obtain rfl : r = false := hr.trans (decide_eq_false fun q => h1 q.1)
    clear hr
    go_enter Try.func72, Try.ntmps72
    go_wp2
    go_ret
    exact ⟨rfl, rfl⟩
set_option maxRecDepth 100000 in
theorem issession_any (n : Int) (r : Bool) (hr : r = decide (0 ≤ n ∧ n < 8)) (w : World) : Calls Try.prog 47 #[.int .i64 n] w fun e w' => e = .returned (.bool r) ∧ w' = w := by
  by_cases h1 : 0 ≤ n
  · have d1 : decide (0 ≤ n) = true := decide_eq_true h1
    by_cases h2 : n < 8
    · have d2 : decide (n < 8) = true := decide_eq_true h2
      obtain rfl : r = true := hr.trans (decide_eq_true ⟨h1, h2⟩)
      clear hr
      go_enter Try.func47, Try.ntmps47
      go_wp2
      go_ret
      exact ⟨rfl, rfl⟩
    · have d2 : decide (n < 8) = false := decide_eq_false h2
      obtain rfl : r = false := hr.trans (decide_eq_false fun q => h2 q.2)
      clear hr
      go_enter Try.func47, Try.ntmps47
      go_wp2
      go_ret
      exact ⟨rfl, rfl⟩
  · have d1 : decide (0 ≤ n) = false := decide_eq_false h1
    obtain rfl : r = false := hr.trans (decide_eq_false fun q => h1 q.1)
    clear hr
    go_enter Try.func47, Try.ntmps47
    go_wp2
    go_ret
    exact ⟨rfl, rfl⟩
set_option maxRecDepth 100000 in
set_option maxHeartbeats 4000000 in
theorem isop_1 (key hi val : Int) (w : World) : Calls Try.prog 48 #[opV ⟨1, key, hi, val⟩] w fun e w' => e = .returned (.bool (okI ⟨1, key, hi, val⟩)) ∧ Keep (fun _ => False) w w' := by
  obtain ⟨W, eW, ob, kW⟩ := op_box w ⟨1, key, hi, val⟩
  obtain ⟨M, eM⟩ : ∃ M, w.heap.size = M := ⟨_, rfl⟩
  rw [eM] at ob
  obtain ⟨o0, o1, o2, o3⟩ := ob
  dsimp only at *
  obtain ⟨r, hr⟩ : ∃ r, okI ⟨1, key, hi, val⟩ = r := ⟨_, rfl⟩
  rw [hr]
  have HR := Lib.hid hr
  clear hr
  unfold opV
  dsimp only
  by_cases h0 : 0 ≤ key ∧ key ≤ 63
  · have C0 := iskey_any key true (by simp [h0]; try omega) W
    by_cases h1 : hi = 0
    · have d1 : (hi == 0) = true := by simpa using h1
      by_cases h2 : val = 0
      · have d2 : (val == 0) = true := by simpa using h2
        obtain rfl : r = true := by rw [← HR.out]; simp [okI]; try omega
        clear h0 h1 h2
        go_enter Try.func48, Try.ntmps48
        go_wp2_with fail
        refine C0.mono ?_
        rintro e wX ⟨rfl, rfl⟩
        go_wp2
        go_ret
        exact ⟨rfl, kW⟩
      · have d2 : (val == 0) = false := by simpa using h2
        obtain rfl : r = false := by rw [← HR.out]; simp [okI]; try omega
        clear h0 h1 h2
        go_enter Try.func48, Try.ntmps48
        go_wp2_with fail
        refine C0.mono ?_
        rintro e wX ⟨rfl, rfl⟩
        go_wp2
        go_ret
        exact ⟨rfl, kW⟩
    · have d1 : (hi == 0) = false := by simpa using h1
      obtain rfl : r = false := by rw [← HR.out]; simp [okI]; try omega
      clear h0 h1
      go_enter Try.func48, Try.ntmps48
      go_wp2_with fail
      refine C0.mono ?_
      rintro e wX ⟨rfl, rfl⟩
      go_wp2
      go_ret
      exact ⟨rfl, kW⟩
  · have C0 := iskey_any key false (by simp [h0]; try omega) W
    obtain rfl : r = false := by rw [← HR.out]; simp [okI]; try omega
    clear h0
    go_enter Try.func48, Try.ntmps48
    go_wp2_with fail
    refine C0.mono ?_
    rintro e wX ⟨rfl, rfl⟩
    go_wp2
    go_ret
    exact ⟨rfl, kW⟩
set_option maxRecDepth 100000 in
set_option maxHeartbeats 4000000 in
theorem isop_4 (key hi val : Int) (w : World) : Calls Try.prog 48 #[opV ⟨4, key, hi, val⟩] w fun e w' => e = .returned (.bool (okI ⟨4, key, hi, val⟩)) ∧ Keep (fun _ => False) w w' := by
  obtain ⟨W, eW, ob, kW⟩ := op_box w ⟨4, key, hi, val⟩
  obtain ⟨M, eM⟩ : ∃ M, w.heap.size = M := ⟨_, rfl⟩
  rw [eM] at ob
  obtain ⟨o0, o1, o2, o3⟩ := ob
  dsimp only at *
  obtain ⟨r, hr⟩ : ∃ r, okI ⟨4, key, hi, val⟩ = r := ⟨_, rfl⟩
  rw [hr]
  have HR := Lib.hid hr
  clear hr
  unfold opV
  dsimp only
  by_cases h0 : 0 ≤ key ∧ key ≤ 63
  · have C0 := iskey_any key true (by simp [h0]; try omega) W
    by_cases h1 : hi = 0
    · have d1 : (hi == 0) = true := by simpa using h1
      by_cases h2 : val = 0
      · have d2 : (val == 0) = true := by simpa using h2
        obtain rfl : r = true := by rw [← HR.out]; simp [okI]; try omega
        clear h0 h1 h2
        go_enter Try.func48, Try.ntmps48
        go_wp2_with fail
        refine C0.mono ?_
        rintro e wX ⟨rfl, rfl⟩
        go_wp2
        go_ret
        exact ⟨rfl, kW⟩
      · have d2 : (val == 0) = false := by simpa using h2
        obtain rfl : r = false := by rw [← HR.out]; simp [okI]; try omega
        clear h0 h1 h2
        go_enter Try.func48, Try.ntmps48
        go_wp2_with fail
        refine C0.mono ?_
        rintro e wX ⟨rfl, rfl⟩
        go_wp2
        go_ret
        exact ⟨rfl, kW⟩
    · have d1 : (hi == 0) = false := by simpa using h1
      obtain rfl : r = false := by rw [← HR.out]; simp [okI]; try omega
      clear h0 h1
      go_enter Try.func48, Try.ntmps48
      go_wp2_with fail
      refine C0.mono ?_
      rintro e wX ⟨rfl, rfl⟩
      go_wp2
      go_ret
      exact ⟨rfl, kW⟩
  · have C0 := iskey_any key false (by simp [h0]; try omega) W
    obtain rfl : r = false := by rw [← HR.out]; simp [okI]; try omega
    clear h0
    go_enter Try.func48, Try.ntmps48
    go_wp2_with fail
    refine C0.mono ?_
    rintro e wX ⟨rfl, rfl⟩
    go_wp2
    go_ret
    exact ⟨rfl, kW⟩
set_option maxRecDepth 100000 in
set_option maxHeartbeats 4000000 in
theorem isop_2 (key hi val : Int) (w : World) : Calls Try.prog 48 #[opV ⟨2, key, hi, val⟩] w fun e w' => e = .returned (.bool (okI ⟨2, key, hi, val⟩)) ∧ Keep (fun _ => False) w w' := by
  obtain ⟨W, eW, ob, kW⟩ := op_box w ⟨2, key, hi, val⟩
  obtain ⟨M, eM⟩ : ∃ M, w.heap.size = M := ⟨_, rfl⟩
  rw [eM] at ob
  obtain ⟨o0, o1, o2, o3⟩ := ob
  dsimp only at *
  obtain ⟨r, hr⟩ : ∃ r, okI ⟨2, key, hi, val⟩ = r := ⟨_, rfl⟩
  rw [hr]
  have HR := Lib.hid hr
  clear hr
  unfold opV
  dsimp only
  by_cases h0 : 0 ≤ key ∧ key ≤ 63
  · have C0 := iskey_any key true (by simp [h0]; try omega) W
    by_cases h1 : hi = 0
    · have d1 : (hi == 0) = true := by simpa using h1
      by_cases h2 : 0 ≤ val ∧ val ≤ 65535
      · have C2 := isvalue_any val true (by simp [h2]; try omega) W
        obtain rfl : r = true := by rw [← HR.out]; simp [okI]; try omega
        clear h0 h1 h2
        go_enter Try.func48, Try.ntmps48
        go_wp2_with fail
        refine C0.mono ?_
        rintro e wX ⟨rfl, rfl⟩
        go_wp2_with fail
        refine C2.mono ?_
        rintro e wX ⟨rfl, rfl⟩
        go_wp2
        go_ret
        exact ⟨rfl, kW⟩
      · have C2 := isvalue_any val false (by simp [h2]; try omega) W
        obtain rfl : r = false := by rw [← HR.out]; simp [okI]; try omega
        clear h0 h1 h2
        go_enter Try.func48, Try.ntmps48
        go_wp2_with fail
        refine C0.mono ?_
        rintro e wX ⟨rfl, rfl⟩
        go_wp2_with fail
        refine C2.mono ?_
        rintro e wX ⟨rfl, rfl⟩
        go_wp2
        go_ret
        exact ⟨rfl, kW⟩
    · have d1 : (hi == 0) = false := by simpa using h1
      obtain rfl : r = false := by rw [← HR.out]; simp [okI]; try omega
      clear h0 h1
      go_enter Try.func48, Try.ntmps48
      go_wp2_with fail
      refine C0.mono ?_
      rintro e wX ⟨rfl, rfl⟩
      go_wp2
      go_ret
      exact ⟨rfl, kW⟩
  · have C0 := iskey_any key false (by simp [h0]; try omega) W
    obtain rfl : r = false := by rw [← HR.out]; simp [okI]; try omega
    clear h0
    go_enter Try.func48, Try.ntmps48
    go_wp2_with fail
    refine C0.mono ?_
    rintro e wX ⟨rfl, rfl⟩
    go_wp2
    go_ret
    exact ⟨rfl, kW⟩
set_option maxRecDepth 100000 in
set_option maxHeartbeats 4000000 in
theorem isop_3 (key hi val : Int) (w : World) : Calls Try.prog 48 #[opV ⟨3, key, hi, val⟩] w fun e w' => e = .returned (.bool (okI ⟨3, key, hi, val⟩)) ∧ Keep (fun _ => False) w w' := by
  obtain ⟨W, eW, ob, kW⟩ := op_box w ⟨3, key, hi, val⟩
  obtain ⟨M, eM⟩ : ∃ M, w.heap.size = M := ⟨_, rfl⟩
  rw [eM] at ob
  obtain ⟨o0, o1, o2, o3⟩ := ob
  dsimp only at *
  obtain ⟨r, hr⟩ : ∃ r, okI ⟨3, key, hi, val⟩ = r := ⟨_, rfl⟩
  rw [hr]
  have HR := Lib.hid hr
  clear hr
  unfold opV
  dsimp only
  by_cases h0 : 0 ≤ key ∧ key ≤ 63
  · have C0 := iskey_any key true (by simp [h0]; try omega) W
    by_cases h1 : hi = 0
    · have d1 : (hi == 0) = true := by simpa using h1
      by_cases h2 : 0 ≤ val ∧ val ≤ 65535
      · have C2 := isvalue_any val true (by simp [h2]; try omega) W
        obtain rfl : r = true := by rw [← HR.out]; simp [okI]; try omega
        clear h0 h1 h2
        go_enter Try.func48, Try.ntmps48
        go_wp2_with fail
        refine C0.mono ?_
        rintro e wX ⟨rfl, rfl⟩
        go_wp2_with fail
        refine C2.mono ?_
        rintro e wX ⟨rfl, rfl⟩
        go_wp2
        go_ret
        exact ⟨rfl, kW⟩
      · have C2 := isvalue_any val false (by simp [h2]; try omega) W
        obtain rfl : r = false := by rw [← HR.out]; simp [okI]; try omega
        clear h0 h1 h2
        go_enter Try.func48, Try.ntmps48
        go_wp2_with fail
        refine C0.mono ?_
        rintro e wX ⟨rfl, rfl⟩
        go_wp2_with fail
        refine C2.mono ?_
        rintro e wX ⟨rfl, rfl⟩
        go_wp2
        go_ret
        exact ⟨rfl, kW⟩
    · have d1 : (hi == 0) = false := by simpa using h1
      obtain rfl : r = false := by rw [← HR.out]; simp [okI]; try omega
      clear h0 h1
      go_enter Try.func48, Try.ntmps48
      go_wp2_with fail
      refine C0.mono ?_
      rintro e wX ⟨rfl, rfl⟩
      go_wp2
      go_ret
      exact ⟨rfl, kW⟩
  · have C0 := iskey_any key false (by simp [h0]; try omega) W
    obtain rfl : r = false := by rw [← HR.out]; simp [okI]; try omega
    clear h0
    go_enter Try.func48, Try.ntmps48
    go_wp2_with fail
    refine C0.mono ?_
    rintro e wX ⟨rfl, rfl⟩
    go_wp2
    go_ret
    exact ⟨rfl, kW⟩
set_option maxRecDepth 100000 in
set_option maxHeartbeats 4000000 in
theorem isop_5 (key hi val : Int) (w : World) : Calls Try.prog 48 #[opV ⟨5, key, hi, val⟩] w fun e w' => e = .returned (.bool (okI ⟨5, key, hi, val⟩)) ∧ Keep (fun _ => False) w w' := by
  obtain ⟨W, eW, ob, kW⟩ := op_box w ⟨5, key, hi, val⟩
  obtain ⟨M, eM⟩ : ∃ M, w.heap.size = M := ⟨_, rfl⟩
  rw [eM] at ob
  obtain ⟨o0, o1, o2, o3⟩ := ob
  dsimp only at *
  obtain ⟨r, hr⟩ : ∃ r, okI ⟨5, key, hi, val⟩ = r := ⟨_, rfl⟩
  rw [hr]
  have HR := Lib.hid hr
  clear hr
  unfold opV
  dsimp only
  by_cases h0 : 0 ≤ key ∧ key ≤ 63
  · have C0 := iskey_any key true (by simp [h0]; try omega) W
    by_cases h1 : 0 ≤ hi ∧ hi ≤ 63
    · have C1 := iskey_any hi true (by simp [h1]; try omega) W
      by_cases h2 : key ≤ hi
      · have d2 : decide (key ≤ hi) = true := by simpa using h2
        by_cases h3 : val = 0
        · have d3 : (val == 0) = true := by simpa using h3
          obtain rfl : r = true := by rw [← HR.out]; simp [okI]; try omega
          clear h0 h1 h2 h3
          go_enter Try.func48, Try.ntmps48
          go_wp2_with fail
          refine C0.mono ?_
          rintro e wX ⟨rfl, rfl⟩
          go_wp2_with fail
          refine C1.mono ?_
          rintro e wX ⟨rfl, rfl⟩
          go_wp2
          go_ret
          exact ⟨rfl, kW⟩
        · have d3 : (val == 0) = false := by simpa using h3
          obtain rfl : r = false := by rw [← HR.out]; simp [okI]; try omega
          clear h0 h1 h2 h3
          go_enter Try.func48, Try.ntmps48
          go_wp2_with fail
          refine C0.mono ?_
          rintro e wX ⟨rfl, rfl⟩
          go_wp2_with fail
          refine C1.mono ?_
          rintro e wX ⟨rfl, rfl⟩
          go_wp2
          go_ret
          exact ⟨rfl, kW⟩
      · have d2 : decide (key ≤ hi) = false := by simpa using h2
        obtain rfl : r = false := by rw [← HR.out]; simp [okI]; try omega
        clear h0 h1 h2
        go_enter Try.func48, Try.ntmps48
        go_wp2_with fail
        refine C0.mono ?_
        rintro e wX ⟨rfl, rfl⟩
        go_wp2_with fail
        refine C1.mono ?_
        rintro e wX ⟨rfl, rfl⟩
        go_wp2
        go_ret
        exact ⟨rfl, kW⟩
    · have C1 := iskey_any hi false (by simp [h1]; try omega) W
      obtain rfl : r = false := by rw [← HR.out]; simp [okI]; try omega
      clear h0 h1
      go_enter Try.func48, Try.ntmps48
      go_wp2_with fail
      refine C0.mono ?_
      rintro e wX ⟨rfl, rfl⟩
      go_wp2_with fail
      refine C1.mono ?_
      rintro e wX ⟨rfl, rfl⟩
      go_wp2
      go_ret
      exact ⟨rfl, kW⟩
  · have C0 := iskey_any key false (by simp [h0]; try omega) W
    obtain rfl : r = false := by rw [← HR.out]; simp [okI]; try omega
    clear h0
    go_enter Try.func48, Try.ntmps48
    go_wp2_with fail
    refine C0.mono ?_
    rintro e wX ⟨rfl, rfl⟩
    go_wp2
    go_ret
    exact ⟨rfl, kW⟩
set_option maxRecDepth 100000 in
set_option maxHeartbeats 4000000 in
theorem isop_6 (key hi val : Int) (w : World) : Calls Try.prog 48 #[opV ⟨6, key, hi, val⟩] w fun e w' => e = .returned (.bool (okI ⟨6, key, hi, val⟩)) ∧ Keep (fun _ => False) w w' := by
  obtain ⟨W, eW, ob, kW⟩ := op_box w ⟨6, key, hi, val⟩
  obtain ⟨M, eM⟩ : ∃ M, w.heap.size = M := ⟨_, rfl⟩
  rw [eM] at ob
  obtain ⟨o0, o1, o2, o3⟩ := ob
  dsimp only at *
  obtain ⟨r, hr⟩ : ∃ r, okI ⟨6, key, hi, val⟩ = r := ⟨_, rfl⟩
  rw [hr]
  have HR := Lib.hid hr
  clear hr
  unfold opV
  dsimp only
  by_cases h0 : key = 0
  · have d0 : (key == 0) = true := by simpa using h0
    by_cases h1 : hi = 0
    · have d1 : (hi == 0) = true := by simpa using h1
      by_cases h2 : val = 0
      · have d2 : (val == 0) = true := by simpa using h2
        obtain rfl : r = true := by rw [← HR.out]; simp [okI]; try omega
        clear h0 h1 h2
        go_enter Try.func48, Try.ntmps48
        go_wp2
        go_ret
        exact ⟨rfl, kW⟩
      · have d2 : (val == 0) = false := by simpa using h2
        obtain rfl : r = false := by rw [← HR.out]; simp [okI]; try omega
        clear h0 h1 h2
        go_enter Try.func48, Try.ntmps48
        go_wp2
        go_ret
        exact ⟨rfl, kW⟩
    · have d1 : (hi == 0) = false := by simpa using h1
      obtain rfl : r = false := by rw [← HR.out]; simp [okI]; try omega
      clear h0 h1
      go_enter Try.func48, Try.ntmps48
      go_wp2
      go_ret
      exact ⟨rfl, kW⟩
  · have d0 : (key == 0) = false := by simpa using h0
    obtain rfl : r = false := by rw [← HR.out]; simp [okI]; try omega
    clear h0
    go_enter Try.func48, Try.ntmps48
    go_wp2
    go_ret
    exact ⟨rfl, kW⟩
set_option maxRecDepth 100000 in
set_option maxHeartbeats 4000000 in
theorem isop_7 (key hi val : Int) (w : World) : Calls Try.prog 48 #[opV ⟨7, key, hi, val⟩] w fun e w' => e = .returned (.bool (okI ⟨7, key, hi, val⟩)) ∧ Keep (fun _ => False) w w' := by
  obtain ⟨W, eW, ob, kW⟩ := op_box w ⟨7, key, hi, val⟩
  obtain ⟨M, eM⟩ : ∃ M, w.heap.size = M := ⟨_, rfl⟩
  rw [eM] at ob
  obtain ⟨o0, o1, o2, o3⟩ := ob
  dsimp only at *
  obtain ⟨r, hr⟩ : ∃ r, okI ⟨7, key, hi, val⟩ = r := ⟨_, rfl⟩
  rw [hr]
  have HR := Lib.hid hr
  clear hr
  unfold opV
  dsimp only
  by_cases h0 : key = 0
  · have d0 : (key == 0) = true := by simpa using h0
    by_cases h1 : hi = 0
    · have d1 : (hi == 0) = true := by simpa using h1
      by_cases h2 : val = 0
      · have d2 : (val == 0) = true := by simpa using h2
        obtain rfl : r = true := by rw [← HR.out]; simp [okI]; try omega
        clear h0 h1 h2
        go_enter Try.func48, Try.ntmps48
        go_wp2
        go_ret
        exact ⟨rfl, kW⟩
      · have d2 : (val == 0) = false := by simpa using h2
        obtain rfl : r = false := by rw [← HR.out]; simp [okI]; try omega
        clear h0 h1 h2
        go_enter Try.func48, Try.ntmps48
        go_wp2
        go_ret
        exact ⟨rfl, kW⟩
    · have d1 : (hi == 0) = false := by simpa using h1
      obtain rfl : r = false := by rw [← HR.out]; simp [okI]; try omega
      clear h0 h1
      go_enter Try.func48, Try.ntmps48
      go_wp2
      go_ret
      exact ⟨rfl, kW⟩
  · have d0 : (key == 0) = false := by simpa using h0
    obtain rfl : r = false := by rw [← HR.out]; simp [okI]; try omega
    clear h0
    go_enter Try.func48, Try.ntmps48
    go_wp2
    go_ret
    exact ⟨rfl, kW⟩
set_option maxRecDepth 100000 in
set_option maxHeartbeats 4000000 in
theorem isop_no (kind key hi val : Int) (hk : kind < 1 ∨ 7 < kind) (w : World) : Calls Try.prog 48 #[opV ⟨kind, key, hi, val⟩] w fun e w' => e = .returned (.bool (okI ⟨kind, key, hi, val⟩)) ∧ Keep (fun _ => False) w w' := by
  obtain ⟨W, eW, ob, kW⟩ := op_box w ⟨kind, key, hi, val⟩
  obtain ⟨M, eM⟩ : ∃ M, w.heap.size = M := ⟨_, rfl⟩
  rw [eM] at ob
  obtain ⟨o0, o1, o2, o3⟩ := ob
  dsimp only at *
  have : okI ⟨kind, key, hi, val⟩ = false := by
    unfold okI
    simp only
    rw [if_neg (by omega), if_neg (by omega), if_neg (by omega), if_neg (by omega)]
  rw [this]
  clear this
  have q1 : (kind == 1) = false := by simp; omega
  have q2 : (kind == 2) = false := by simp; omega
  have q3 : (kind == 3) = false := by simp; omega
  have q4 : (kind == 4) = false := by simp; omega
  have q5 : (kind == 5) = false := by simp; omega
  have q6 : (kind == 6) = false := by simp; omega
  have q7 : (kind == 7) = false := by simp; omega
  clear hk
  unfold opV
  dsimp only
  go_enter Try.func48, Try.ntmps48
  go_wp2
  go_ret
  exact ⟨rfl, kW⟩
theorem isop_any (op : OpI) (w : World) : Calls Try.prog 48 #[opV op] w fun e w' => e = .returned (.bool (okI op)) ∧ Keep (fun _ => False) w w' := by
  obtain ⟨kind, key, hi, val⟩ := op
  by_cases hk : kind < 1 ∨ 7 < kind
  · exact isop_no kind key hi val hk w
  · rcases (show kind = 1 ∨ kind = 2 ∨ kind = 3 ∨ kind = 4 ∨ kind = 5 ∨ kind = 6 ∨ kind = 7 by omega) with rfl | rfl | rfl | rfl | rfl | rfl | rfl
    · exact isop_1 key hi val w
    · exact isop_2 key hi val w
    · exact isop_3 key hi val w
    · exact isop_4 key hi val w
    · exact isop_5 key hi val w
    · exact isop_6 key hi val w
    · exact isop_7 key hi val w
set_option maxRecDepth 100000 in
theorem ends_any (op : OpI) (w : World) : Calls Try.prog 49 #[opV op] w fun e w' => e = .returned (.bool (decide (op.kind = 6 ∨ op.kind = 7))) ∧ Keep (fun _ => False) w w' := by
  obtain ⟨W, eW, ob, kW⟩ := op_box w op
  obtain ⟨M, eM⟩ : ∃ M, w.heap.size = M := ⟨_, rfl⟩
  rw [eM] at ob
  obtain ⟨kind, key, hi, val⟩ := op
  obtain ⟨o0, o1, o2, o3⟩ := ob
  dsimp only at *
  unfold opV
  dsimp only
  by_cases h6 : kind = 6
  · subst h6
    go_enter Try.func49, Try.ntmps49
    go_wp2
    go_ret
    exact ⟨rfl, kW⟩
  · have d6 : (kind == 6) = false := by simpa using h6
    obtain ⟨r, hr⟩ : ∃ r, (kind == 7) = r := ⟨_, rfl⟩
    have e : decide (kind = 6 ∨ kind = 7) = r := by
      rw [← hr, Bool.eq_iff_iff, decide_eq_true_iff, beq_iff_eq]; omega
    rw [e]
    clear e h6
    go_enter Try.func49, Try.ntmps49
    go_wp2
    go_ret
    exact ⟨rfl, kW⟩
theorem fault_any (kind : Int) (b : Bool) (r : Int) (hr : r = if kind = 2 ∧ b = true then 12 else if kind ≠ 2 ∧ b = false then 11 else 0) (w : World) : Calls Try.prog 94 #[.int .i64 kind, .bool b] w fun e w' => e = .returned (.int .i64 r) ∧ w' = w := by
  by_cases h : kind = 2
  · subst h
    cases b
    · obtain rfl : r = 0 := by rw [hr]; simp
      clear hr
      go_enter Try.func94, Try.ntmps94
      go_wp2
      go_ret
      exact ⟨rfl, rfl⟩
    · obtain rfl : r = 12 := by rw [hr]; simp
      clear hr
      go_enter Try.func94, Try.ntmps94
      go_wp2
      go_ret
      exact ⟨rfl, rfl⟩
  · have d2 : (kind == 2) = false := by simpa using h
    have d3 : (kind != 2) = true := by simpa using h
    cases b
    · obtain rfl : r = 11 := by rw [hr]; simp [h]
      clear hr
      go_enter Try.func94, Try.ntmps94
      go_wp2
      go_ret
      exact ⟨rfl, rfl⟩
    · obtain rfl : r = 0 := by rw [hr]; simp [h]
      clear hr
      go_enter Try.func94, Try.ntmps94
      go_wp2
      go_ret
      exact ⟨rfl, rfl⟩
set_option maxRecDepth 100000 in
theorem draw_no (h : LdAt w m K o z) (hl : z.limit = z.clock) : Calls Try.prog 55 #[.pointer (some ⟨m, 0, none⟩)] w fun e w' => e = .returned (.tuple #[.int .u64 0, .bool false]) ∧ Keep (fun _ => False) w w' := by
  have c1 := h.a.c1
  have c2 := h.a.c2
  obtain ⟨l, el⟩ : ∃ l, z.limit = l := ⟨_, rfl⟩
  rw [← hl, el] at c2
  rw [el] at c1
  have d : (l == l) = true := by simp
  clear h hl el
  go_enter Try.func55, Try.ntmps55
  go_wp2
  go_quiet (fail)
  go_wp2
  refine bodyPost_ret (v := .tuple #[.int .u64 0, .bool false]) (by simp [results, Try.results55, go_sem]) rfl ?_
  exact ⟨rfl, drewN_keep _ _ _⟩
set_option maxRecDepth 100000 in
theorem draw_yes (h : LdAt w m K o z) (hl : z.limit ≠ z.clock) (h0 : 0 ≤ z.clock) (h1 : z.clock ≤ z.limit) (h2 : z.limit ≤ 1099511627776) : Calls Try.prog 55 #[.pointer (some ⟨m, 0, none⟩)] w fun e w' => e = .returned (.tuple #[.int .u64 (z.clock + 1), .bool true]) ∧ LdAt w' m K o { z with clock := z.clock + 1 } ∧ Keep (fun g => g = m) w w' := by
  have c1 := h.a.c1
  have c2 := h.a.c2
  have f2 := h.a.fz 2
  have H := Lib.hid h
  have st := fun w1 (k : Keep (fun _ => False) w w1) => (h.quiet k).clock (z.clock + 1)
  obtain ⟨l, el⟩ : ∃ l, z.limit = l := ⟨_, rfl⟩
  obtain ⟨c, ec⟩ : ∃ c, z.clock = c := ⟨_, rfl⟩
  rw [ec] at c2 hl h0 h1
  rw [el] at c1 hl h1 h2
  simp only [ec] at st
  have ST := Lib.hid st
  have EC := Lib.hid ec
  obtain ⟨z', ez⟩ : ∃ z' : LdI, { z with clock := c + 1 } = z' := ⟨_, rfl⟩
  have EZ := Lib.hid ez
  rw [ec, ez]
  have d : (c == l) = false := by simp; omega
  have wk : IntKind.u64.wrap (c + 1) = c + 1 := IntWalk.u64_in _ (by omega)
  clear h hl h0 h1 h2 el ec st ez
  go_enter Try.func55, Try.ntmps55
  go_wp2
  go_quiet (fail)
  go_wp2
  refine bodyPost_ret (v := .tuple #[.int .u64 (c + 1), .bool true]) (by simp [results, Try.results55, go_sem]) rfl ?_
  refine ⟨rfl, ?_, (drewN_keep _ _ _).trans (keep_one _ ⟨m, 2, none⟩ _)⟩
  rw [← EZ.out]
  exact ST.out _ (drewN_keep _ _ _)
end
end Go.Proofs.Ytkkjofefjepodaa
