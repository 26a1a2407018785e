/- What a set of reads holds in plain lists (keys in the order of their first Adds, with their links; ranges with theirs), and what each call of layer 13 answers and leaves. No dump; no condition. -/
import Derived.Test.YtndpifkpgoeogaaRows
namespace Go.Proofs.Ytndpifkpgoeogaa
set_option linter.unusedVariables false

structure ScI where
  lo : Int
  hi : Int
  z : List Int
structure RdS where
  keys : List Int
  links : List Int
  scans : List ScI
def RdS.new : RdS := ⟨[], [], []⟩
def RdS.add (s : RdS) (key link : Int) : Int × RdS :=
  if key < 0 ∨ 63 < key then (1, s) else if key ∈ s.keys then (0, s) else (0, { s with keys := s.keys ++ [key], links := s.links ++ [link] })
def RdS.span (s : RdS) (lo hi : Int) (z : List Int) : Int × RdS :=
  if lo < 0 ∨ 63 < lo ∨ hi < 0 ∨ 63 < hi ∨ hi < lo then (1, s) else if 64 ≤ s.scans.length then (65, s) else (0, { s with scans := s.scans ++ [⟨lo, hi, z⟩] })
def RdS.link (s : RdS) (key : Int) : Int × Bool := if key ∈ s.keys then (s.links.getD (s.keys.idxOf key) 0, true) else (0, false)
def ScI.has (c : ScI) (key : Int) : Bool := decide (c.lo ≤ key) && decide (key ≤ c.hi)
def RdS.covers (s : RdS) (key : Int) : Bool := decide (key ∈ s.keys) || s.scans.any fun c => c.has key
def RdS.len (s : RdS) : Int := (s.keys.length : Int) + (s.scans.length : Int)
end Go.Proofs.Ytndpifkpgoeogaa
