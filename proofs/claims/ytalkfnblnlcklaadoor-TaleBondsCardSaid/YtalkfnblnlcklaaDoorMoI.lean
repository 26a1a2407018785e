/- A Model of whole calls (layer 19) in plain lists: versions, sessions, and what each call answers and leaves. No dump; no condition. -/
import Derived.Test.YtalkfnblnlcklaaDoorRows
namespace Go.Proofs.YtalkfnblnlcklaaDoor
set_option linter.unusedVariables false

/-- A version: by: who made it (0: begin is its time); ended: who ended it (0: stop is its time, 0 none). -/
@[ext] structure VrI where
  key : Int
  val : Int
  bY : Int
  ended : Int
  start : Int
  stop : Int
  dead : Bool
deriving DecidableEq
/-- What was read. -/
@[ext] structure RdI where
  lo : Int
  hi : Int
  found : Bool
  scan : Bool
deriving DecidableEq
/-- A session's transaction; id 0: none. -/
@[ext] structure TxI where
  id : Int
  level : Int
  ops : Int
  start : Int
  wrote : List Int
  reads : List RdI
deriving DecidableEq
@[ext] structure OpI where
  kind : Int
  key : Int
  hi : Int
  val : Int
deriving DecidableEq
@[ext] structure ReI where
  e : Int
  val : Int
  pairs : List (Int × Int)
  over : Int
  reason : Int
deriving DecidableEq
@[ext] structure MoI where
  slots : Int
  limit : Int
  v : List VrI
  s : Nat → TxI
  time : Int
  made : Int
def tx0 : TxI := ⟨0, 0, 0, 0, [], []⟩
def re0 : ReI := ⟨0, 0, [], 0, 0⟩
/-- One session otherwise. -/
def putS (f : Nat → TxI) (i : Nat) (x : TxI) : Nat → TxI := fun j => if j = i then x else f j
theorem putS_self (f : Nat → TxI) (i : Nat) (x : TxI) : putS f i x i = x := if_pos rfl
theorem putS_ne (f : Nat → TxI) {i j : Nat} (x : TxI) (h : j ≠ i) : putS f i x j = f j := if_neg h
theorem putS_put (f : Nat → TxI) (i : Nat) (x y : TxI) : putS (putS f i x) i y = putS f i y := by
  funext j
  unfold putS
  by_cases e : j = i
  · rw [if_pos e, if_pos e]
  · rw [if_neg e, if_neg e, if_neg e]
def confI (slots limit : Int) : Bool := decide (1 ≤ slots ∧ slots ≤ 256 ∧ 1 ≤ limit ∧ limit ≤ 1099511627776)
def new0 (slots limit : Int) : MoI := ⟨slots, limit, [], fun _ => tx0, 0, 0⟩
/-- The session of a number, if it is one. -/
def sesI (s : Int) : Bool := decide (0 ≤ s ∧ s ≤ 7)
namespace MoI
def begE (m : MoI) (s level : Int) : Int :=
  if s < 0 ∨ 7 < s ∨ level < 1 ∨ 3 < level then 1 else if (m.s s.toNat).id ≠ 0 then 9 else if 2000 ≤ m.made then 65 else if m.limit ≤ m.time then 16 else 0
def beg (m : MoI) (s level : Int) : MoI :=
  if m.begE s level = 0 then { m with time := m.time + 1, made := m.made + 1, s := putS m.s s.toNat ⟨m.made + 1, level, 0, m.time + 1, [], []⟩ } else m
def begN (m : MoI) (s level : Int) : Int := if m.begE s level = 0 then m.made + 1 else 0
end MoI
/-- Whether a call may be. -/
def okI (o : OpI) : Bool :=
  if o.kind = 1 ∨ o.kind = 4 then decide (0 ≤ o.key ∧ o.key ≤ 63 ∧ o.hi = 0 ∧ o.val = 0)
  else if o.kind = 2 ∨ o.kind = 3 then decide (0 ≤ o.key ∧ o.key ≤ 63 ∧ 0 ≤ o.val ∧ o.val ≤ 65535 ∧ o.hi = 0)
  else if o.kind = 5 then decide (0 ≤ o.key ∧ o.key ≤ 63 ∧ o.key ≤ o.hi ∧ o.hi ≤ 63 ∧ o.val = 0)
  else if o.kind = 6 ∨ o.kind = 7 then decide (o.key = 0 ∧ o.hi = 0 ∧ o.val = 0)
  else false
/-- A version that the transaction itself has made, and sees. -/
def mineV (id key : Int) (v : VrI) : Bool := decide (v.key = key ∧ v.dead = false ∧ v.ended ≠ id ∧ v.bY = id)
/-- A version of committed ones that it sees. -/
def elderV (id key at' : Int) (v : VrI) : Bool := decide (v.key = key ∧ v.dead = false ∧ v.ended ≠ id ∧ v.bY = 0 ∧ v.start ≤ at' ∧ (v.ended ≠ 0 ∨ v.stop = 0 ∨ at' < v.stop))
/-- A version of a key of its own, gone or not. -/
def ownV (id key : Int) (v : VrI) : Bool := decide (v.key = key ∧ v.bY = id ∧ v.dead = false)
/-- Made or ended by one that committed behind a time. -/
def laterV (key at' : Int) (v : VrI) : Bool := decide (v.key = key ∧ v.dead = false ∧ (v.bY = 0 ∧ at' < v.start ∨ at' < v.stop))
/-- There of committed ones at a time. -/
def thereV (key at' : Int) (v : VrI) : Bool := decide (v.key = key ∧ v.dead = false ∧ v.bY = 0 ∧ v.start ≤ at' ∧ (v.stop = 0 ∨ at' < v.stop))
def seesI (v : List VrI) (id at' key : Int) : Option Nat :=
  match v.findIdx? (mineV id key) with
  | some i => some i
  | none => v.findIdx? (elderV id key at')
def valI (v : List VrI) (i : Nat) : Int := match v[i]? with | some x => x.val | none => 0
/-- The keys from lo on, n of them. -/
def keysI (lo : Int) : Nat → List Int
  | 0 => []
  | n + 1 => lo :: keysI (lo + 1) n
def pairI (v : List VrI) (id at' key : Int) : List (Int × Int) := match seesI v id at' key with | some i => [(key, valI v i)] | none => []
def scanI (v : List VrI) (id at' lo hi : Int) : List (Int × Int) := (keysI lo (hi + 1 - lo).toNat).flatMap (pairI v id at')
/-- What an aborted one leaves of a version. -/
def goneV (id : Int) (v : VrI) : VrI := { v with ended := if v.ended = id then 0 else v.ended, dead := if v.bY = id then true else v.dead }
/-- What a committed one leaves of a version. -/
def doneV (id t : Int) (v : VrI) : VrI :=
  { v with bY := if v.bY = id then 0 else v.bY, start := if v.bY = id then t else v.start, ended := if v.ended = id then 0 else v.ended, stop := if v.ended = id then t else v.stop }
/-- The versions with one of them turned. -/
def setV (v : List VrI) (i : Nat) (f : VrI → VrI) : List VrI := v.modify i f
namespace MoI
/-- Whether a key may not be written first. -/
def taken (m : MoI) (id at' key : Int) : Bool := ((List.range 8).any fun i => decide ((m.s i).id ≠ 0 ∧ (m.s i).id ≠ id ∧ key ∈ (m.s i).wrote)) || m.v.any (laterV key at')
def over (m : MoI) (s : Nat) : MoI := { m with v := m.v.map (goneV (m.s s).id), s := putS m.s s tx0 }
/-- Session s reads, keeps what it did. -/
def keepR (m : MoI) (s : Nat) (r : RdI) : MoI := { m with s := putS m.s s { m.s s with reads := (m.s s).reads ++ [r] } }
def keepW (m : MoI) (s : Nat) (key : Int) : MoI := { m with s := putS m.s s { m.s s with wrote := (m.s s).wrote ++ [key] } }
def bad (reason : Int) : ReI := ⟨14, 0, [], 4, reason⟩
/-- What a write makes of the versions. -/
def wroteV (v : List VrI) (id : Int) (o : OpI) (at' k : Option Nat) : List VrI :=
  let v1 := match at' with
    | some i => if k = some i then v else setV v i fun x => { x with ended := id }
    | none => v
  match k with
  | some j => if o.kind = 4 then setV v1 j fun x => { x with ended := id } else setV v1 j fun x => { x with ended := 0, val := o.val }
  | none => if o.kind = 4 then v1 else v1 ++ [⟨o.key, o.val, id, 0, 0, 0, false⟩]
def write (m : MoI) (s : Nat) (o : OpI) : ReI × MoI :=
  let t := m.s s
  let at' := seesI m.v t.id t.start o.key
  let mine := decide (o.key ∈ t.wrote)
  if (o.kind = 2 ∧ at' ≠ none) ∨ (o.kind ≠ 2 ∧ at' = none) then
    (⟨if at' = none then 11 else 12, 0, [], 0, 0⟩, if mine then m else m.keepR s ⟨o.key, o.key, false, false⟩)
  else if mine = false ∧ m.taken t.id t.start o.key = true then (bad 2, m.over s)
  else
    let k := m.v.findIdx? (ownV t.id o.key)
    if o.kind ≠ 4 ∧ k = none ∧ m.slots ≤ m.v.length then (bad 5, m.over s)
    else
      let m1 := if mine then m else m.keepW s o.key
      (re0, { m1 with v := wroteV m.v t.id o at' k })
/-- Whether what was read still holds. -/
def holds (m : MoI) (t : TxI) : Bool :=
  t.reads.all fun r => (decide (t.level = 2) && !r.found) || (keysI r.lo (r.hi + 1 - r.lo).toNat).all fun k => decide (m.v.findIdx? (thereV k t.start) = m.v.findIdx? (thereV k m.time))
def commit (m : MoI) (s : Nat) : ReI × MoI :=
  if m.limit ≤ m.time then (bad 6, m.over s)
  else
    let m1 := { m with time := m.time + 1 }
    let t := m.s s
    if t.level ≠ 1 ∧ m1.holds t = false then (bad 3, m1.over s)
    else (⟨0, 0, [], 3, 0⟩, { m1 with v := m.v.map (doneV t.id (m.time + 1)), s := putS m.s s tx0 })
def doE (m : MoI) (s : Int) (o : OpI) : Int :=
  if s < 0 ∨ 7 < s then 1 else if (m.s s.toNat).id = 0 ∨ okI o = false then 9 else if o.kind = 7 ∨ o.kind = 6 then 0 else if 12 ≤ (m.s s.toNat).ops then 65 else 0
def count (m : MoI) (s : Nat) : MoI := { m with s := putS m.s s { m.s s with ops := (m.s s).ops + 1 } }
def get (m : MoI) (s : Nat) (o : OpI) : ReI × MoI :=
  let t := m.s s
  let at' := seesI m.v t.id t.start o.key
  (match at' with | some i => ⟨0, valI m.v i, [], 0, 0⟩ | none => ⟨11, 0, [], 0, 0⟩, if o.key ∈ t.wrote then m else m.keepR s ⟨o.key, o.key, decide (at' ≠ none), false⟩)
def scan (m : MoI) (s : Nat) (o : OpI) : ReI × MoI := (⟨0, 0, scanI m.v (m.s s).id (m.s s).start o.key o.hi, 0, 0⟩, m.keepR s ⟨o.key, o.hi, false, true⟩)
def run (m : MoI) (s : Nat) (o : OpI) : ReI × MoI :=
  if o.kind = 7 then (⟨0, 0, [], 4, 1⟩, m.over s)
  else if o.kind = 6 then m.commit s
  else if o.kind = 1 then (m.count s).get s o
  else if o.kind = 5 then (m.count s).scan s o
  else (m.count s).write s o
def doR (m : MoI) (s : Int) (o : OpI) : ReI := if m.doE s o = 0 then (m.run s.toNat o).1 else re0
def doM (m : MoI) (s : Int) (o : OpI) : MoI := if m.doE s o = 0 then (m.run s.toNat o).2 else m
/-- The lowest begin of those that live; now if there is none. -/
def low (m : MoI) : Int := (List.range 8).foldl (fun a i => if (m.s i).id ≠ 0 then min a (m.s i).start else a) m.time
def keepV (low : Int) (v : VrI) : Bool := !(v.dead || decide (v.stop ≠ 0 ∧ v.stop ≤ low))
def collect (m : MoI) : MoI := { m with v := m.v.filter (keepV m.low) }
def collected (m : MoI) : Int := (m.v.length : Int) - ((m.v.filter (keepV m.low)).length : Int)
def pairsOf (v : List VrI) (at' key : Int) : List (Int × Int) := (v.filter (thereV key at')).map fun x => (key, x.val)
def pairs (m : MoI) (at' : Int) : List (Int × Int) := (keysI 0 64).flatMap (pairsOf m.v at')
def live (m : MoI) : List Int := ((List.range 8).filter fun i => decide ((m.s i).id ≠ 0)).map (fun i : Nat => (i : Int))
end MoI
end Go.Proofs.YtalkfnblnlcklaaDoor
