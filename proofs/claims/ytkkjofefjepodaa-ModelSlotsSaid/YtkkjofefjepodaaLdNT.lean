/- Package model as landed: a transaction's pointer against nil. No condition. -/
import Derived.Test.YtkkjofefjepodaaLdM
namespace Go.Proofs.Ytkkjofefjepodaa
open Go.ChangeShapes Go.WideShapes Go.ChangeAt Go.RowKit
theorem eql_nilT {w : World} {a : Nat} : (binOp .eql 92 (.pointer (some ⟨a, 0, .none⟩)) (.pointer .none)).run Try.prog w = .ok (.bool false) w ∧ (binOp .neq 92 (.pointer (some ⟨a, 0, .none⟩)) (.pointer .none)).run Try.prog w = .ok (.bool true) w := by
  have h : ∀ d : Nat, (Op.equalIn (d + 1) 92 (.pointer (some ⟨a, 0, .none⟩)) (.pointer .none)).run Try.prog w = .ok false w := fun d => by
    simp [Op.equalIn, run_underlying Try.underlying92]
  constructor
  · simp only [binOp]
    simp [Op.equal, Op.maxDepth, h 9999]
  · simp only [binOp]
    simp [Op.equal, Op.maxDepth, h 9999]
end Go.Proofs.Ytkkjofefjepodaa
