/- Package model as landed, in memory: conflicts. Condition: what they lead to lies in memory. -/
import Derived.Test.YtkkjofefjepodaaLdM
namespace Go.Proofs.Ytkkjofefjepodaa
open Go.ChangeShapes Go.WideShapes Go.ChangeAt Go.RowKit
set_option linter.unusedVariables false
set_option linter.unusedSimpArgs false
section
variable {w w' : World} {T : Nat → Prop} {g : Nat} {x : FtI} {v : VeI} {t : TtI} {F : Nat → FtI}
set_option maxRecDepth 100000 in
set_option maxHeartbeats 8000000 in
theorem conf_none (hen : v.en = none) (ht : TtAt w t) (hv : VeF w F v) (hg : FtAt w t.f (F t.f)) : Calls Try.prog 95 #[.pointer (some ⟨t.b, 0, none⟩), .pointer (some ⟨v.b, 0, none⟩)] w fun e w' => e = .returned (.bool (confV F t v)) ∧ Keep (fun _ => False) w w' := by
  have E1 := fun d => (eql_fates hv.mo hg (w.drewN d) (drewN_keep _ _ _)).2
  have E2 := fun d => (eql_fates hv.e hg (w.drewN d) (drewN_keep _ _ _)).2
  have S1 := fun d => since_any (hv.same (drewN_keep (fun _ => False) w d)).mo t.start
  have S2 := fun d => since_any (hv.same (drewN_keep (fun _ => False) w d)).e t.start
  obtain ⟨_, c1, c2, _⟩ := hv.a
  obtain ⟨_, _, b2, _, _, bf, _⟩ := ht
  have R : confV F t v = ((decide (some v.mr ≠ some t.f) && sinceF F (some v.mr) t.start) || (decide (v.en ≠ some t.f) && sinceF F v.en t.start)) := by
    unfold confV
    have : decide (v.mr ≠ t.f) = decide (some v.mr ≠ some t.f) := by simp
    rw [this]
  rw [R]
  obtain ⟨q1, eq1⟩ : ∃ q, decide (some v.mr ≠ some t.f) = q := ⟨_, rfl⟩
  obtain ⟨q2, eq2⟩ : ∃ q, decide (v.en ≠ some t.f) = q := ⟨_, rfl⟩
  obtain ⟨r1, er1⟩ : ∃ r, sinceF F (some v.mr) t.start = r := ⟨_, rfl⟩
  obtain ⟨r2, er2⟩ : ∃ r, sinceF F v.en t.start = r := ⟨_, rfl⟩
  simp only [eq1] at E1
  simp only [eq2] at E2
  simp only [er1] at S1
  simp only [er2] at S2
  rw [eq1, eq2, er1, er2]
  clear eq1 eq2 er1 er2 R hv hg
  obtain ⟨b, val, mr, en⟩ := v
  obtain rfl : en = none := hen
  dsimp only [ptrO] at *
  cases q1
  · clear S1
    cases q2
    · go_enter Try.func95, Try.ntmps95; go_wp2; go_quiet ((go_at_call 103; exact Calls.quiet_of_same (S2 _))); go_wp2; go_ret; exact ⟨by simp, drewN_keep _ _ _⟩
    · go_enter Try.func95, Try.ntmps95; go_wp2; go_quiet ((go_at_call 103; exact Calls.quiet_of_same (S2 _))); go_wp2; go_ret; exact ⟨by simp, drewN_keep _ _ _⟩
  · cases r1
    · cases q2
      · clear S2
        go_enter Try.func95, Try.ntmps95; go_wp2; go_quiet ((go_at_call 103; exact Calls.quiet_of_same (S1 _))); go_wp2; go_ret; exact ⟨by simp, drewN_keep _ _ _⟩
      · go_enter Try.func95, Try.ntmps95; go_wp2; go_quiet ((go_at_call 103; first | with_reducible exact Calls.quiet_of_same (S1 _) | with_reducible exact Calls.quiet_of_same (S2 _))); go_wp2; go_ret; exact ⟨by simp, drewN_keep _ _ _⟩
    · clear S2
      go_enter Try.func95, Try.ntmps95; go_wp2; go_quiet ((go_at_call 103; exact Calls.quiet_of_same (S1 _))); go_wp2; go_ret; exact ⟨by simp, drewN_keep _ _ _⟩
end
end Go.Proofs.Ytkkjofefjepodaa
