/- Pieces of a translated function's code: a block, a region, a loop's round, what stands behind them. No dump; no condition. -/
import Derived.Test.YtndpifkpgoeogaaKeep
namespace Go.Proofs.Ytndpifkpgoeogaa
open Go.ChangeShapes Go.WideShapes Go.ChangeAt Go.RowKit
set_option linter.unusedVariables false

def isB (n : Nat) : Code → Bool
  | .block m _ => m == n
  | .seq _ b => isB n b
  | _ => false
/-- Block n of a code, and what stands behind it. -/
def blockIn (n : Nat) : Code → Option Code
  | .block m c => bif m == n then some (.block m c) else blockIn n c
  | .loop c => blockIn n c
  | .scope c => blockIn n c
  | .seq a b => (blockIn n a).or (blockIn n b)
  | .cond _ a b => (blockIn n a).or (blockIn n b)
  | _ => none
def afterB (n : Nat) : Code → Option Code
  | .block _ c => afterB n c
  | .loop c => afterB n c
  | .scope c => afterB n c
  | .seq a b => bif isB n a then some b else (afterB n a).or (afterB n b)
  | .cond _ a b => (afterB n a).or (afterB n b)
  | _ => none
/-- What stands behind the statement that begins with region n. -/
def isR (n : Nat) : Code → Bool
  | .seq (.region m _ _) _ => m == n
  | _ => false
def afterR (n : Nat) : Code → Option Code
  | .block _ c => afterR n c
  | .loop c => afterR n c
  | .scope c => afterR n c
  | .seq a b => bif isR n a then some b else (afterR n a).or (afterR n b)
  | .cond _ a b => (afterR n a).or (afterR n b)
  | _ => none
def regIn (n : Nat) : Code → Option Code
  | .region m o d => bif m == n then some (.region m o d) else none
  | .block _ c => regIn n c
  | .loop c => regIn n c
  | .scope c => regIn n c
  | .seq a b => (regIn n a).or (regIn n b)
  | .cond _ a b => (regIn n a).or (regIn n b)
  | _ => none
/-- What stands behind region n. -/
def isG (n : Nat) : Code → Bool
  | .region m _ _ => m == n
  | .seq _ b => isG n b
  | _ => false
def afterG (n : Nat) : Code → Option Code
  | .block _ c => afterG n c
  | .loop c => afterG n c
  | .scope c => afterG n c
  | .seq a b => bif isG n a then some b else (afterG n a).or (afterG n b)
  | .cond _ a b => (afterG n a).or (afterG n b)
  | _ => none
def loopIn : Code → Option Code
  | .loop c => some c
  | .block _ c => loopIn c
  | .scope c => loopIn c
  | .seq a b => (loopIn a).or (loopIn b)
  | .cond _ a b => (loopIn a).or (loopIn b)
  | _ => none
end Go.Proofs.Ytndpifkpgoeogaa
