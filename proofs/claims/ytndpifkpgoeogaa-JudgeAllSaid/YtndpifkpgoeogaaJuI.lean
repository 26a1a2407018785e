/- Does what was read still hold? In plain lists: a key, a range, what is to be looked at anew, the first that does not hold. No dump; no condition. -/
import Derived.Test.YtndpifkpgoeogaaRdI
namespace Go.Proofs.Ytndpifkpgoeogaa
set_option linter.unusedVariables false

def keyJ (lv link now : Int) : Bool := if lv = 1 then true else if lv = 2 then (decide (link = 0) || decide (link = now)) else if lv = 3 then decide (link = now) else false
def spanJ (lv : Int) (was now : List Int) : Bool := if lv = 1 ∨ lv = 2 then true else if lv = 3 then decide (was = now) else false
def needK (lv : Int) (s : RdS) : List Int := if lv = 3 then s.keys else if lv = 2 then s.keys.filter (fun k => decide ((s.link k).1 ≠ 0)) else []
def needS (lv : Int) (s : RdS) : List ScI := if lv = 3 then s.scans else []
/-- The first key that does not hold. -/
def badK (lv : Int) (s : RdS) (N : Int → Int) : List Int → Option Int
  | [] => none
  | k :: l => if keyJ lv (s.link k).1 (N k) = true then badK lv s N l else some k
def badS (lv : Int) (SP : Int → Int → List Int) : List ScI → Option Int
  | [] => none
  | x :: l => if spanJ lv x.z (SP x.lo x.hi) = true then badS lv SP l else some x.lo
def allJ (lv : Int) (s : RdS) (N : Int → Int) (SP : Int → Int → List Int) : Bool × Int :=
  if lv < 1 ∨ 3 < lv then (false, -1) else match badK lv s N (needK lv s) with
    | some k => (false, k)
    | none => match badS lv SP (needS lv s) with
      | some k => (false, k)
      | none => (true, -1)
end Go.Proofs.Ytndpifkpgoeogaa
