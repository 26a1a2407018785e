/- What the laws of layer 16 make of the integers they are given: a & 255 % M, and a number above. No dump; no condition. -/
import Derived.Test.YtjobphjpfknfeaaDoorBits
import Derived.Test.YtjobphjpfknfeaaDoorMask
import Derived.IntWalk
namespace Go.Proofs.YtjobphjpfknfeaaDoor
theorem mask_mod (a : Int) (M : Nat) (hM : 0 < M) : ∃ (q : Int) (m : Nat), bits .and .i64 a 255 = q ∧ q.tmod (M : Int) = (m : Int) ∧ q % (M : Int) = (m : Int) ∧ m < M ∧ m ≤ 255 ∧ 0 ≤ q ∧ IntKind.i64.wrap (m : Int) = (m : Int) ∧ IntKind.i64.wrap ((m : Int) + 1) = ((m + 1 : Nat) : Int) ∧ IntKind.i64.wrap ((m : Int) + 2) = ((m + 2 : Nat) : Int) := by
  have h := i64_mask8 a
  have q0 : 0 ≤ a % 256 := Int.emod_nonneg _ (by decide)
  have q1 : a % 256 < 256 := Int.emod_lt_of_pos _ (by decide)
  have r0 := Int.emod_nonneg (a % 256) (show (M : Int) ≠ 0 by omega)
  have r1 := Int.emod_lt_of_pos (a % 256) (show (0 : Int) < (M : Int) by omega)
  have r2 : (a % 256) % (M : Int) ≤ a % 256 := by obtain ⟨b, eb⟩ := Int.eq_ofNat_of_zero_le q0; rw [eb, ← Int.natCast_emod]; exact Int.ofNat_le.2 (Nat.mod_le _ _)
  refine ⟨a % 256, ((a % 256) % (M : Int)).toNat, h, ?_, by omega, by omega, by omega, q0, IntWalk.i64_in _ (by omega), ?_, ?_⟩
  · rw [Int.tmod_eq_emod_of_nonneg q0]; omega
  · rw [IntWalk.i64_in _ (by omega)]; omega
  · rw [IntWalk.i64_in _ (by omega)]; omega
end Go.Proofs.YtjobphjpfknfeaaDoor
