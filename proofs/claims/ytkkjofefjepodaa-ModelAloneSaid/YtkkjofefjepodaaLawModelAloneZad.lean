/- The document's own answer to which calls may be (OpOk). No condition. -/
import Derived.Test.YtkkjofefjepodaaModelBaseZab
import Derived.ChangeOld
import Derived.Deep.LoopGhost
import Derived.Deep.CutRange
import Derived.Deep.CutBlock
namespace Go.Proofs.Ytkkjofefjepodaa
open Go.ChangeShapes Go.WideShapes Go.ChangeAt Go.RowKit
set_option linter.unusedVariables false
set_option linter.unusedSimpArgs false
set_option maxRecDepth 100000 in
set_option maxHeartbeats 4000000 in
theorem ropok_any (o : OpI) (r : Bool) (hr : okI o = r) (w : World) : Calls Try.prog 46 #[opV o] w fun e w' => e = .returned (.bool r) ∧ Keep (fun _ => False) w w' := by
 obtain ⟨W, eW, ob, kW⟩ := op_box w o
 obtain ⟨M, eM⟩ : ∃ M, w.heap.size = M := ⟨_, rfl⟩
 rw [eM] at ob
 obtain ⟨kind, key, hi, val⟩ := o
 obtain ⟨o0, o1, o2, o3⟩ := ob
 have HR := Lib.hid hr
 obtain ⟨kb, ekb⟩ : ∃ kb, decide (0 ≤ key ∧ key ≤ 63) = kb := ⟨_, rfl⟩
 obtain ⟨vb, evb⟩ : ∃ vb, decide (0 ≤ val ∧ val ≤ 65535) = vb := ⟨_, rfl⟩
 have EKB := Lib.hid ekb
 have EVB := Lib.hid evb
 clear hr ekb evb
 unfold opV
 go_enter Try.func46, Try.ntmps46
 go_upto_region 1 with fail
 go_cut [3] from 5 to 12 (fun v wx => v = .bool kb ∧ W = wx)
 case first =>
  by_cases h1 : 0 ≤ key
  ·have d1 : decide (0 ≤ key) = true := decide_eq_true h1
   by_cases h2 : key ≤ 63
   ·have d2 : decide (key ≤ 63) = true := decide_eq_true h2
    obtain rfl : kb = true := by rw [← EKB.out]; exact decide_eq_true ⟨h1, h2⟩
    go_wp2_with fail
    go_meet
    exact ⟨rfl, rfl⟩
   ·have d2 : decide (key ≤ 63) = false := decide_eq_false h2
    obtain rfl : kb = false := by rw [← EKB.out]; exact decide_eq_false (fun q => h2 q.2)
    go_wp2_with fail
    go_meet
    exact ⟨rfl, rfl⟩
  ·have d1 : decide (0 ≤ key) = false := decide_eq_false h1
   obtain rfl : kb = false := by rw [← EKB.out]; exact decide_eq_false (fun q => h1 q.1)
   go_wp2_with fail
   go_meet
   exact ⟨rfl, rfl⟩
 case rest =>
  obtain ⟨rfl, rfl⟩ := hcut
  go_upto_region 2 with fail
  go_cut [4] from 13 to 20 (fun v wx => v = .bool vb ∧ W = wx)
  case first =>
   by_cases h1 : 0 ≤ val
   ·have d1 : decide (0 ≤ val) = true := decide_eq_true h1
    by_cases h2 : val ≤ 65535
    ·have d2 : decide (val ≤ 65535) = true := decide_eq_true h2
     obtain rfl : vb = true := by rw [← EVB.out]; exact decide_eq_true ⟨h1, h2⟩
     go_wp2_with fail
     go_meet
     exact ⟨rfl, rfl⟩
    ·have d2 : decide (val ≤ 65535) = false := decide_eq_false h2
     obtain rfl : vb = false := by rw [← EVB.out]; exact decide_eq_false (fun q => h2 q.2)
     go_wp2_with fail
     go_meet
     exact ⟨rfl, rfl⟩
   ·have d1 : decide (0 ≤ val) = false := decide_eq_false h1
    obtain rfl : vb = false := by rw [← EVB.out]; exact decide_eq_false (fun q => h1 q.1)
    go_wp2_with fail
    go_meet
    exact ⟨rfl, rfl⟩
  case rest =>
   obtain ⟨rfl, rfl⟩ := hcut
   by_cases k1 : kind = 1
   ·subst k1
    cases kb
    ·have hq := of_decide_eq_false EKB.out
     obtain rfl : r = false := by rw [← HR.out]; show okI ⟨1, key, hi, val⟩ = false; simp only [okI]; simp; omega
     go_wp2
     go_ret
     exact ⟨rfl, kW⟩
    ·have hkb := of_decide_eq_true EKB.out
     by_cases h2 : hi = 0
     ·have dh2 : (hi == 0) = true := by simpa using h2
      by_cases h1 : val = 0
      ·have dh1 : (val == 0) = true := by simpa using h1
       obtain rfl : r = true := by rw [← HR.out]; show okI ⟨1, key, hi, val⟩ = true; simp only [okI]; simp; omega
       go_wp2
       go_ret
       exact ⟨rfl, kW⟩
      ·have dh1 : (val == 0) = false := by simpa using h1
       obtain rfl : r = false := by rw [← HR.out]; show okI ⟨1, key, hi, val⟩ = false; simp only [okI]; simp; omega
       go_wp2
       go_ret
       exact ⟨rfl, kW⟩
     ·have dh2 : (hi == 0) = false := by simpa using h2
      obtain rfl : r = false := by rw [← HR.out]; show okI ⟨1, key, hi, val⟩ = false; simp only [okI]; simp; omega
      go_wp2
      go_ret
      exact ⟨rfl, kW⟩
   by_cases k4 : kind = 4
   ·subst k4
    cases kb
    ·have hq := of_decide_eq_false EKB.out
     obtain rfl : r = false := by rw [← HR.out]; show okI ⟨4, key, hi, val⟩ = false; simp only [okI]; simp; omega
     go_wp2
     go_ret
     exact ⟨rfl, kW⟩
    ·have hkb := of_decide_eq_true EKB.out
     by_cases h2 : hi = 0
     ·have dh2 : (hi == 0) = true := by simpa using h2
      by_cases h1 : val = 0
      ·have dh1 : (val == 0) = true := by simpa using h1
       obtain rfl : r = true := by rw [← HR.out]; show okI ⟨4, key, hi, val⟩ = true; simp only [okI]; simp; omega
       go_wp2
       go_ret
       exact ⟨rfl, kW⟩
      ·have dh1 : (val == 0) = false := by simpa using h1
       obtain rfl : r = false := by rw [← HR.out]; show okI ⟨4, key, hi, val⟩ = false; simp only [okI]; simp; omega
       go_wp2
       go_ret
       exact ⟨rfl, kW⟩
     ·have dh2 : (hi == 0) = false := by simpa using h2
      obtain rfl : r = false := by rw [← HR.out]; show okI ⟨4, key, hi, val⟩ = false; simp only [okI]; simp; omega
      go_wp2
      go_ret
      exact ⟨rfl, kW⟩
   by_cases k2 : kind = 2
   ·subst k2
    cases kb
    ·have hq := of_decide_eq_false EKB.out
     obtain rfl : r = false := by rw [← HR.out]; show okI ⟨2, key, hi, val⟩ = false; simp only [okI]; simp; omega
     go_wp2
     go_ret
     exact ⟨rfl, kW⟩
    ·have hkb := of_decide_eq_true EKB.out
     cases vb
     ·have hq := of_decide_eq_false EVB.out
      obtain rfl : r = false := by rw [← HR.out]; show okI ⟨2, key, hi, val⟩ = false; simp only [okI]; simp; omega
      go_wp2
      go_ret
      exact ⟨rfl, kW⟩
     ·have hvb := of_decide_eq_true EVB.out
      by_cases h1 : hi = 0
      ·have dh1 : (hi == 0) = true := by simpa using h1
       obtain rfl : r = true := by rw [← HR.out]; show okI ⟨2, key, hi, val⟩ = true; simp only [okI]; simp; omega
       go_wp2
       go_ret
       exact ⟨rfl, kW⟩
      ·have dh1 : (hi == 0) = false := by simpa using h1
       obtain rfl : r = false := by rw [← HR.out]; show okI ⟨2, key, hi, val⟩ = false; simp only [okI]; simp; omega
       go_wp2
       go_ret
       exact ⟨rfl, kW⟩
   by_cases k3 : kind = 3
   ·subst k3
    cases kb
    ·have hq := of_decide_eq_false EKB.out
     obtain rfl : r = false := by rw [← HR.out]; show okI ⟨3, key, hi, val⟩ = false; simp only [okI]; simp; omega
     go_wp2
     go_ret
     exact ⟨rfl, kW⟩
    ·have hkb := of_decide_eq_true EKB.out
     cases vb
     ·have hq := of_decide_eq_false EVB.out
      obtain rfl : r = false := by rw [← HR.out]; show okI ⟨3, key, hi, val⟩ = false; simp only [okI]; simp; omega
      go_wp2
      go_ret
      exact ⟨rfl, kW⟩
     ·have hvb := of_decide_eq_true EVB.out
      by_cases h1 : hi = 0
      ·have dh1 : (hi == 0) = true := by simpa using h1
       obtain rfl : r = true := by rw [← HR.out]; show okI ⟨3, key, hi, val⟩ = true; simp only [okI]; simp; omega
       go_wp2
       go_ret
       exact ⟨rfl, kW⟩
      ·have dh1 : (hi == 0) = false := by simpa using h1
       obtain rfl : r = false := by rw [← HR.out]; show okI ⟨3, key, hi, val⟩ = false; simp only [okI]; simp; omega
       go_wp2
       go_ret
       exact ⟨rfl, kW⟩
   by_cases k5 : kind = 5
   ·subst k5
    cases kb
    ·have hq := of_decide_eq_false EKB.out
     obtain rfl : r = false := by rw [← HR.out]; show okI ⟨5, key, hi, val⟩ = false; simp only [okI]; simp; omega
     go_wp2
     go_ret
     exact ⟨rfl, kW⟩
    ·have hkb := of_decide_eq_true EKB.out
     by_cases h3 : key ≤ hi
     ·have dh3 : decide (key ≤ hi) = true := by simpa using h3
      by_cases h2 : hi ≤ 63
      ·have dh2 : decide (hi ≤ 63) = true := by simpa using h2
       by_cases h1 : val = 0
       ·have dh1 : (val == 0) = true := by simpa using h1
        obtain rfl : r = true := by rw [← HR.out]; show okI ⟨5, key, hi, val⟩ = true; simp only [okI]; simp; omega
        go_wp2
        go_ret
        exact ⟨rfl, kW⟩
       ·have dh1 : (val == 0) = false := by simpa using h1
        obtain rfl : r = false := by rw [← HR.out]; show okI ⟨5, key, hi, val⟩ = false; simp only [okI]; simp; omega
        go_wp2
        go_ret
        exact ⟨rfl, kW⟩
      ·have dh2 : decide (hi ≤ 63) = false := by simpa using h2
       obtain rfl : r = false := by rw [← HR.out]; show okI ⟨5, key, hi, val⟩ = false; simp only [okI]; simp; omega
       go_wp2
       go_ret
       exact ⟨rfl, kW⟩
     ·have dh3 : decide (key ≤ hi) = false := by simpa using h3
      obtain rfl : r = false := by rw [← HR.out]; show okI ⟨5, key, hi, val⟩ = false; simp only [okI]; simp; omega
      go_wp2
      go_ret
      exact ⟨rfl, kW⟩
   have f1 : (kind == 1) = false := by simpa using k1
   have f2 : (kind == 2) = false := by simpa using k2
   have f3 : (kind == 3) = false := by simpa using k3
   have f4 : (kind == 4) = false := by simpa using k4
   have f5 : (kind == 5) = false := by simpa using k5
   by_cases k67 : kind = 6 ∨ kind = 7
   ·rcases k67 with rfl | rfl
    ·by_cases hk : key = 0
     ·subst hk
      by_cases hh : hi = 0
      ·subst hh
       by_cases hv : val = 0
       ·subst hv
        obtain rfl : r = true := by rw [← HR.out]; rfl
        go_wp2
        go_ret
        exact ⟨rfl, kW⟩
       ·have e1 : (val == 0) = false := by simpa using hv
        obtain rfl : r = false := by rw [← HR.out]; simp [okI, hv]
        go_wp2
        go_ret
        exact ⟨rfl, kW⟩
      ·have e1 : (hi == 0) = false := by simpa using hh
       obtain rfl : r = false := by rw [← HR.out]; simp [okI, hh]
       go_wp2
       go_ret
       exact ⟨rfl, kW⟩
     ·have e1 : (key == 0) = false := by simpa using hk
      obtain rfl : r = false := by rw [← HR.out]; simp [okI, hk]
      go_wp2
      go_ret
      exact ⟨rfl, kW⟩
    ·by_cases hk : key = 0
     ·subst hk
      by_cases hh : hi = 0
      ·subst hh
       by_cases hv : val = 0
       ·subst hv
        obtain rfl : r = true := by rw [← HR.out]; rfl
        go_wp2
        go_ret
        exact ⟨rfl, kW⟩
       ·have e1 : (val == 0) = false := by simpa using hv
        obtain rfl : r = false := by rw [← HR.out]; simp [okI, hv]
        go_wp2
        go_ret
        exact ⟨rfl, kW⟩
      ·have e1 : (hi == 0) = false := by simpa using hh
       obtain rfl : r = false := by rw [← HR.out]; simp [okI, hh]
       go_wp2
       go_ret
       exact ⟨rfl, kW⟩
     ·have e1 : (key == 0) = false := by simpa using hk
      obtain rfl : r = false := by rw [← HR.out]; simp [okI, hk]
      go_wp2
      go_ret
      exact ⟨rfl, kW⟩
   ·have f6 : (kind == 6) = false := by simp; omega
    have f7 : (kind == 7) = false := by simp; omega
    obtain rfl : r = false := by rw [← HR.out]; unfold okI; simp [k1, k2, k3, k4, k5]; omega
    go_wp2
    go_ret
    exact ⟨rfl, kW⟩
end Go.Proofs.Ytkkjofefjepodaa
