/- Several texts, one behind the other: MoI, AxI, MoG, AxM. -/
import Derived.Test.YtalkfnblnlcklaaRows
/- A Model of whole calls (layer 19) in plain lists: versions, sessions, and what each call answers and leaves. No dump; no condition. -/
namespace Go.Proofs.Ytalkfnblnlcklaa
set_option linter.unusedVariables false

/-- A version: by: who made it (0: begin is its time); ended: who ended it (0: stop is its time, 0 none). -/
@[ext] structure VrI where
 key : Int
 val : Int
 bY : Int
 ended : Int
 start : Int
 stop : Int
 dead : Bool
deriving DecidableEq
/-- What was read. -/
@[ext] structure RdI where
 lo : Int
 hi : Int
 found : Bool
 scan : Bool
deriving DecidableEq
/-- A session's transaction; id 0: none. -/
@[ext] structure TxI where
 id : Int
 level : Int
 ops : Int
 start : Int
 wrote : List Int
 reads : List RdI
deriving DecidableEq
@[ext] structure OpI where
 kind : Int
 key : Int
 hi : Int
 val : Int
deriving DecidableEq
@[ext] structure ReI where
 e : Int
 val : Int
 pairs : List (Int × Int)
 over : Int
 reason : Int
deriving DecidableEq
@[ext] structure MoI where
 slots : Int
 limit : Int
 v : List VrI
 s : Nat → TxI
 time : Int
 made : Int
def tx0 : TxI := ⟨0, 0, 0, 0, [], []⟩
def re0 : ReI := ⟨0, 0, [], 0, 0⟩
/-- One session otherwise. -/
def putS (f : Nat → TxI) (i : Nat) (x : TxI) : Nat → TxI := fun j => if j = i then x else f j
theorem putS_self (f : Nat → TxI) (i : Nat) (x : TxI) : putS f i x i = x := if_pos rfl
theorem putS_ne (f : Nat → TxI) {i j : Nat} (x : TxI) (h : j ≠ i) : putS f i x j = f j := if_neg h
theorem putS_put (f : Nat → TxI) (i : Nat) (x y : TxI) : putS (putS f i x) i y = putS f i y := by
 funext j
 unfold putS
 by_cases e : j = i
 ·rw [if_pos e, if_pos e]
 ·rw [if_neg e, if_neg e, if_neg e]
def confI (slots limit : Int) : Bool := decide (1 ≤ slots ∧ slots ≤ 256 ∧ 1 ≤ limit ∧ limit ≤ 1099511627776)
def new0 (slots limit : Int) : MoI := ⟨slots, limit, [], fun _ => tx0, 0, 0⟩
/-- The session of a number, if it is one. -/
def sesI (s : Int) : Bool := decide (0 ≤ s ∧ s ≤ 7)
namespace MoI
def begE (m : MoI) (s level : Int) : Int :=
 if s < 0 ∨ 7 < s ∨ level < 1 ∨ 3 < level then 1 else if (m.s s.toNat).id ≠ 0 then 9 else if 2000 ≤ m.made then 65 else if m.limit ≤ m.time then 16 else 0
def beg (m : MoI) (s level : Int) : MoI :=
 if m.begE s level = 0 then { m with time := m.time + 1, made := m.made + 1, s := putS m.s s.toNat ⟨m.made + 1, level, 0, m.time + 1, [], []⟩ } else m
def begN (m : MoI) (s level : Int) : Int := if m.begE s level = 0 then m.made + 1 else 0
end MoI
/-- Whether a call may be. -/
def okI (o : OpI) : Bool :=
 if o.kind = 1 ∨ o.kind = 4 then decide (0 ≤ o.key ∧ o.key ≤ 63 ∧ o.hi = 0 ∧ o.val = 0)
 else if o.kind = 2 ∨ o.kind = 3 then decide (0 ≤ o.key ∧ o.key ≤ 63 ∧ 0 ≤ o.val ∧ o.val ≤ 65535 ∧ o.hi = 0)
 else if o.kind = 5 then decide (0 ≤ o.key ∧ o.key ≤ 63 ∧ o.key ≤ o.hi ∧ o.hi ≤ 63 ∧ o.val = 0)
 else if o.kind = 6 ∨ o.kind = 7 then decide (o.key = 0 ∧ o.hi = 0 ∧ o.val = 0)
 else false
/-- A version that the transaction itself has made, and sees. -/
def mineV (id key : Int) (v : VrI) : Bool := decide (v.key = key ∧ v.dead = false ∧ v.ended ≠ id ∧ v.bY = id)
/-- A version of committed ones that it sees. -/
def elderV (id key at' : Int) (v : VrI) : Bool := decide (v.key = key ∧ v.dead = false ∧ v.ended ≠ id ∧ v.bY = 0 ∧ v.start ≤ at' ∧ (v.ended ≠ 0 ∨ v.stop = 0 ∨ at' < v.stop))
/-- A version of a key of its own, gone or not. -/
def ownV (id key : Int) (v : VrI) : Bool := decide (v.key = key ∧ v.bY = id ∧ v.dead = false)
/-- Made or ended by one that committed behind a time. -/
def laterV (key at' : Int) (v : VrI) : Bool := decide (v.key = key ∧ v.dead = false ∧ (v.bY = 0 ∧ at' < v.start ∨ at' < v.stop))
/-- There of committed ones at a time. -/
def thereV (key at' : Int) (v : VrI) : Bool := decide (v.key = key ∧ v.dead = false ∧ v.bY = 0 ∧ v.start ≤ at' ∧ (v.stop = 0 ∨ at' < v.stop))
def seesI (v : List VrI) (id at' key : Int) : Option Nat :=
 match v.findIdx? (mineV id key) with
 | some i => some i
 | none => v.findIdx? (elderV id key at')
def valI (v : List VrI) (i : Nat) : Int := match v[i]? with | some x => x.val | none => 0
/-- The keys from lo on, n of them. -/
def keysI (lo : Int) : Nat → List Int
 | 0 => []
 | n + 1 => lo :: keysI (lo + 1) n
def pairI (v : List VrI) (id at' key : Int) : List (Int × Int) := match seesI v id at' key with | some i => [(key, valI v i)] | none => []
def scanI (v : List VrI) (id at' lo hi : Int) : List (Int × Int) := (keysI lo (hi + 1 - lo).toNat).flatMap (pairI v id at')
/-- What an aborted one leaves of a version. -/
def goneV (id : Int) (v : VrI) : VrI := { v with ended := if v.ended = id then 0 else v.ended, dead := if v.bY = id then true else v.dead }
/-- What a committed one leaves of a version. -/
def doneV (id t : Int) (v : VrI) : VrI :=
 { v with bY := if v.bY = id then 0 else v.bY, start := if v.bY = id then t else v.start, ended := if v.ended = id then 0 else v.ended, stop := if v.ended = id then t else v.stop }
/-- The versions with one of them turned. -/
def setV (v : List VrI) (i : Nat) (f : VrI → VrI) : List VrI := v.modify i f
namespace MoI
/-- Whether a key may not be written first. -/
def taken (m : MoI) (id at' key : Int) : Bool := ((List.range 8).any fun i => decide ((m.s i).id ≠ 0 ∧ (m.s i).id ≠ id ∧ key ∈ (m.s i).wrote)) || m.v.any (laterV key at')
def over (m : MoI) (s : Nat) : MoI := { m with v := m.v.map (goneV (m.s s).id), s := putS m.s s tx0 }
/-- Session s reads, keeps what it did. -/
def keepR (m : MoI) (s : Nat) (r : RdI) : MoI := { m with s := putS m.s s { m.s s with reads := (m.s s).reads ++ [r] } }
def keepW (m : MoI) (s : Nat) (key : Int) : MoI := { m with s := putS m.s s { m.s s with wrote := (m.s s).wrote ++ [key] } }
def bad (reason : Int) : ReI := ⟨14, 0, [], 4, reason⟩
/-- What a write makes of the versions. -/
def wroteV (v : List VrI) (id : Int) (o : OpI) (at' k : Option Nat) : List VrI :=
 let v1 := match at' with
  | some i => if k = some i then v else setV v i fun x => { x with ended := id }
  | none => v
 match k with
 | some j => if o.kind = 4 then setV v1 j fun x => { x with ended := id } else setV v1 j fun x => { x with ended := 0, val := o.val }
 | none => if o.kind = 4 then v1 else v1 ++ [⟨o.key, o.val, id, 0, 0, 0, false⟩]
def write (m : MoI) (s : Nat) (o : OpI) : ReI × MoI :=
 let t := m.s s
 let at' := seesI m.v t.id t.start o.key
 let mine := decide (o.key ∈ t.wrote)
 if (o.kind = 2 ∧ at' ≠ none) ∨ (o.kind ≠ 2 ∧ at' = none) then
  (⟨if at' = none then 11 else 12, 0, [], 0, 0⟩, if mine then m else m.keepR s ⟨o.key, o.key, false, false⟩)
 else if mine = false ∧ m.taken t.id t.start o.key = true then (bad 2, m.over s)
 else
  let k := m.v.findIdx? (ownV t.id o.key)
  if o.kind ≠ 4 ∧ k = none ∧ m.slots ≤ m.v.length then (bad 5, m.over s)
  else
   let m1 := if mine then m else m.keepW s o.key
   (re0, { m1 with v := wroteV m.v t.id o at' k })
/-- Whether what was read still holds. -/
def holds (m : MoI) (t : TxI) : Bool :=
 t.reads.all fun r => (decide (t.level = 2) && !r.found) || (keysI r.lo (r.hi + 1 - r.lo).toNat).all fun k => decide (m.v.findIdx? (thereV k t.start) = m.v.findIdx? (thereV k m.time))
def commit (m : MoI) (s : Nat) : ReI × MoI :=
 if m.limit ≤ m.time then (bad 6, m.over s)
 else
  let m1 := { m with time := m.time + 1 }
  let t := m.s s
  if t.level ≠ 1 ∧ m1.holds t = false then (bad 3, m1.over s)
  else (⟨0, 0, [], 3, 0⟩, { m1 with v := m.v.map (doneV t.id (m.time + 1)), s := putS m.s s tx0 })
def doE (m : MoI) (s : Int) (o : OpI) : Int :=
 if s < 0 ∨ 7 < s then 1 else if (m.s s.toNat).id = 0 ∨ okI o = false then 9 else if o.kind = 7 ∨ o.kind = 6 then 0 else if 12 ≤ (m.s s.toNat).ops then 65 else 0
def count (m : MoI) (s : Nat) : MoI := { m with s := putS m.s s { m.s s with ops := (m.s s).ops + 1 } }
def get (m : MoI) (s : Nat) (o : OpI) : ReI × MoI :=
 let t := m.s s
 let at' := seesI m.v t.id t.start o.key
 (match at' with | some i => ⟨0, valI m.v i, [], 0, 0⟩ | none => ⟨11, 0, [], 0, 0⟩, if o.key ∈ t.wrote then m else m.keepR s ⟨o.key, o.key, decide (at' ≠ none), false⟩)
def scan (m : MoI) (s : Nat) (o : OpI) : ReI × MoI := (⟨0, 0, scanI m.v (m.s s).id (m.s s).start o.key o.hi, 0, 0⟩, m.keepR s ⟨o.key, o.hi, false, true⟩)
def run (m : MoI) (s : Nat) (o : OpI) : ReI × MoI :=
 if o.kind = 7 then (⟨0, 0, [], 4, 1⟩, m.over s)
 else if o.kind = 6 then m.commit s
 else if o.kind = 1 then (m.count s).get s o
 else if o.kind = 5 then (m.count s).scan s o
 else (m.count s).write s o
def doR (m : MoI) (s : Int) (o : OpI) : ReI := if m.doE s o = 0 then (m.run s.toNat o).1 else re0
def doM (m : MoI) (s : Int) (o : OpI) : MoI := if m.doE s o = 0 then (m.run s.toNat o).2 else m
/-- The lowest begin of those that live; now if there is none. -/
def low (m : MoI) : Int := (List.range 8).foldl (fun a i => if (m.s i).id ≠ 0 then min a (m.s i).start else a) m.time
def keepV (low : Int) (v : VrI) : Bool := !(v.dead || decide (v.stop ≠ 0 ∧ v.stop ≤ low))
def collect (m : MoI) : MoI := { m with v := m.v.filter (keepV m.low) }
def collected (m : MoI) : Int := (m.v.length : Int) - ((m.v.filter (keepV m.low)).length : Int)
def pairsOf (v : List VrI) (at' key : Int) : List (Int × Int) := (v.filter (thereV key at')).map fun x => (key, x.val)
def pairs (m : MoI) (at' : Int) : List (Int × Int) := (keysI 0 64).flatMap (pairsOf m.v at')
def live (m : MoI) : List Int := ((List.range 8).filter fun i => decide ((m.s i).id ≠ 0)).map (fun i : Nat => (i : Int))
end MoI
end Go.Proofs.Ytalkfnblnlcklaa
/- The document's own reckoning with Deals (layers 20, 21) in plain lists: Pairs with calls laid over, what is there at a time, what holds. No dump; no condition. -/
namespace Go.Proofs.Ytalkfnblnlcklaa
set_option linter.unusedVariables false
/-- A call with its answer; a transaction as it is told. -/
structure DlI where
 id : Int
 level : Int
 state : Int
 start : Int
 stop : Int
 ops : List (OpI × ReI)
/-- How many Pairs stand ahead of a key. -/
def cutK (l : List (Int × Int)) (key : Int) : Nat := (l.takeWhile fun p => decide (p.1 < key)).length
def isK (l : List (Int × Int)) (key : Int) : Bool := match l[cutK l key]? with | some p => decide (p.1 = key) | none => false
def setP (l : List (Int × Int)) (key val : Int) (gone : Bool) : List (Int × Int) := l.take (cutK l key) ++ (if gone = true then [] else [(key, val)]) ++ l.drop (if isK l key = true then cutK l key + 1 else cutK l key)
def laidP (l : List (Int × Int)) (c : OpI × ReI) : List (Int × Int) :=
 if c.2.e ≠ 0 then l else if c.1.kind = 2 ∨ c.1.kind = 3 then setP l c.1.key c.1.val false else if c.1.kind = 4 then setP l c.1.key 0 true else l
def findP (l : List (Int × Int)) (key : Int) : Option Int := (l.find? fun p => decide (p.1 = key)).map Prod.snd
def inR (lo hi : Int) (p : Int × Int) : Bool := decide (lo ≤ p.1) && decide (p.1 ≤ hi)
/-- Whether a call answered as a view says. -/
def rightP (c : OpI × ReI) (view : List (Int × Int)) : Bool :=
 let f := findP view c.1.key
 let e := c.2.e
 if c.1.kind = 1 then (decide (e ≠ 0) && decide (e ≠ 11)) || (decide (e = 0) && f.isSome && decide (c.2.val = f.getD 0)) || (decide (e = 11) && !f.isSome)
 else if c.1.kind = 2 then (decide (e ≠ 0) && decide (e ≠ 12)) || (decide (e = 12) == f.isSome)
 else if c.1.kind = 3 ∨ c.1.kind = 4 then (decide (e ≠ 0) && decide (e ≠ 11)) || (decide (e = 11) != f.isSome)
 else if c.1.kind = 5 then decide (e ≠ 0) || decide (c.2.pairs = view.filter (inR c.1.key c.1.hi))
 else true
section
variable {l : List (Int × Int)} {key : Int} {k : Nat}
theorem cut_le (l : List (Int × Int)) (key : Int) : cutK l key ≤ l.length := by
 unfold cutK
 exact (List.takeWhile_sublist _).length_le
theorem cut_lt (h : k < cutK l key) : ∃ p, l[k]? = some p ∧ p.1 < key := by
 unfold cutK at h
 have e : (l.takeWhile fun p => decide (p.1 < key))[k]? = some (l.takeWhile fun p => decide (p.1 < key))[k] := List.getElem?_eq_getElem h
 have pre := List.takeWhile_prefix (p := fun p : Int × Int => decide (p.1 < key)) (l := l)
 obtain ⟨t, ht⟩ := pre
 have e2 := List.getElem?_append_left (l₂ := t) h
 rw [ht, e] at e2
 exact ⟨_, e2, of_decide_eq_true (List.all_eq_true.1 (List.all_takeWhile (l := l) (p := fun p => decide (p.1 < key))) _ (List.getElem_mem h))⟩
theorem cut_at (h : cutK l key < l.length) : ∃ p, l[cutK l key]? = some p ∧ ¬ p.1 < key := by
  unfold cutK at h ⊢
  induction l with
  | nil => cases h
  | cons a l ih =>
    rw [List.takeWhile_cons] at h ⊢
    by_cases c : a.1 < key
    · simp only [decide_eq_true c, if_true, List.length_cons, List.getElem?_cons_succ] at h ⊢
      exact ih (by omega)
    · simp only [decide_eq_false c, Bool.false_eq_true, if_false, List.length_nil, List.getElem?_cons_zero]
      exact ⟨a, rfl, c⟩
theorem setP_len (l : List (Int × Int)) (key val : Int) (gone : Bool) : (setP l key val gone).length ≤ l.length + 1 := by
 unfold setP
 have := cut_le l key
 rw [List.length_append, List.length_append, List.length_take, List.length_drop]
 cases gone
 ·simp; split <;> omega
 ·simp; split <;> omega
theorem laidP_len (l : List (Int × Int)) (c : OpI × ReI) : (laidP l c).length ≤ l.length + 1 := by
 unfold laidP
 split
 ·omega
 ·split
  ·exact setP_len _ _ _ _
  ·split
   ·exact setP_len _ _ _ _
   ·omega
theorem find_hit {p : Int × Int} (h : l[k]? = some p) (hp : p.1 = key) (hb : ∀ (i : Nat) (q : Int × Int), i < k → l[i]? = some q → q.1 ≠ key) : findP l key = some p.2 := by
 unfold findP
 have : l.find? (fun p => decide (p.1 = key)) = some p := by
  obtain ⟨hk, e⟩ := List.getElem?_eq_some_iff.1 h
  rw [List.find?_eq_some_iff_getElem]
  refine ⟨decide_eq_true hp, k, hk, e, fun j hj => ?_⟩
  have := hb j _ hj (List.getElem?_eq_getElem (by omega))
  simp [this]
 rw [this]
 rfl
theorem find_miss (hb : ∀ (i : Nat) (q : Int × Int), l[i]? = some q → q.1 ≠ key) : findP l key = none := by
 unfold findP
 have : l.find? (fun p => decide (p.1 = key)) = none := List.find?_eq_none.2 fun p hp => by
  obtain ⟨i, hi⟩ := List.mem_iff_getElem?.1 hp
  have := hb i p hi
  simp [this]
 rw [this]
 rfl
end
/-- Whether the transaction at place i comes next, k being the best so far. -/
def candP (ds : List DlI) (t but : Int) (tk : List Bool) (k : Option Nat) (i : Nat) : Bool :=
  match ds[i]? with
  | none => false
  | some d => decide (d.state = 3) && decide ((i : Int) ≠ but) && !(tk.getD i false) && decide (d.stop ≤ t) && (match k with
    | none => true
    | some j => match ds[j]? with | some e => decide (d.stop < e.stop) | none => false)
def pickP (ds : List DlI) (t but : Int) (tk : List Bool) : Nat → Option Nat
 | 0 => none
 | i + 1 => if candP ds t but tk (pickP ds t but tk i) i = true then some i else pickP ds t but tk i
def opsP (ds : List DlI) (k : Nat) : List (OpI × ReI) := match ds[k]? with | some d => d.ops | none => []
def stL (ds : List DlI) (t but : Int) : Nat → List Bool → List (Int × Int) → List (Int × Int)
  | 0, _, out => out
  | f + 1, tk, out => match pickP ds t but tk ds.length with
    | none => out
    | some k => stL ds t but f (tk.set k true) ((opsP ds k).foldl laidP out)
def stateP (ds : List DlI) (t but : Int) : List (Int × Int) := stL ds t but (ds.length + 1) (List.replicate ds.length false) []
section
variable {ds : List DlI} {t but : Int} {tk : List Bool} {i k f : Nat} {out : List (Int × Int)}
def betP (ds : List DlI) (s : Int) : Option Nat → Bool
 | none => true
 | some j => match ds[j]? with | some e => decide (s < e.stop) | none => false
theorem cand_at {x : DlI} {K : Option Nat} (h : ds[i]? = some x) : candP ds t but tk K i = (decide (x.state = 3) && decide ((i : Int) ≠ but) && !(tk.getD i false) && decide (x.stop ≤ t) && betP ds x.stop K) := by
 unfold candP
 rw [h]
 rfl
theorem bet_some {s : Int} {e : DlI} (h : ds[k]? = some e) : betP ds s (some k) = decide (s < e.stop) := by
 show (match ds[k]? with | some e => decide (s < e.stop) | none => false) = _
 rw [h]
theorem cand_lt (h : candP ds t but tk (pickP ds t but tk i) i = true) : i < ds.length := by
 unfold candP at h
 cases c : ds[i]? with
 | none => rw [c] at h; cases h
 | some d => exact (List.getElem?_eq_some_iff.1 c).1
theorem pick_some (h : pickP ds t but tk i = some k) : k < i ∧ k < ds.length ∧ tk.getD k false = false := by
  induction i with
  | zero => cases h
  | succ i ih =>
    unfold pickP at h
    split at h
    · next c =>
      cases h
      refine ⟨by omega, cand_lt c, ?_⟩
      unfold candP at c
      cases q : ds[k]? with
      | none => rw [q] at c; cases c
      | some d =>
        rw [q] at c
        simp only [Bool.and_eq_true, Bool.not_eq_true'] at c
        exact c.1.1.2
    · obtain ⟨a, b, c⟩ := ih h
      exact ⟨by omega, b, c⟩
theorem stL_none (h : pickP ds t but tk ds.length = none) (hf : 0 < f) : stL ds t but f tk out = out := by
 cases f with
 | zero => omega
 | succ f => unfold stL; rw [h]
theorem stL_some (h : pickP ds t but tk ds.length = some k) : stL ds t but (f + 1) tk out = stL ds t but f (tk.set k true) ((opsP ds k).foldl laidP out) := by
 conv => lhs; unfold stL
 rw [h]
theorem count_mark (hk : tk[k]? = some false) : (tk.set k true).count false + 1 = tk.count false := by
  induction tk generalizing k with
  | nil => cases hk
  | cons a l ih =>
    cases k with
    | zero =>
      simp at hk
      subst hk
      simp
    | succ k =>
      have := ih (k := k) (by simpa using hk)
      rw [List.set_cons_succ, List.count_cons, List.count_cons]
      omega
end
def holdsGo (view : List (Int × Int)) : List (OpI × ReI) → Bool
 | [] => true
 | c :: cs => rightP c view && holdsGo (laidP view c) cs
def holdsP (ds : List DlI) (k : Nat) (t : Int) : Bool := holdsGo (stateP ds t k) (opsP ds k)
def doneP (ds : List DlI) (id : Int) : Option Nat := match ds.findIdx? (fun d => decide (d.id = id)) with
 | none => none
 | some i => match ds[i]? with | some d => if d.state = 3 then some i else none | none => none
def beforeI (t : Int) : Int := if t = 0 then 0 else t - 1
def serialP (ds : List DlI) (id : Int) : Bool := match doneP ds id with
 | none => false
 | some k => match ds[k]? with | some d => holdsP ds k (beforeI d.stop) | none => false
def snapP (ds : List DlI) (id : Int) : Bool := match doneP ds id with
 | none => false
 | some k => match ds[k]? with | some d => holdsP ds k d.start | none => false
/-- The least number of one that is not serial (0: none). -/
def replB (ds : List DlI) (bad : Int) : List DlI → Int
 | [] => bad
 | d :: l => replB ds (if d.state = 3 ∧ (bad = 0 ∨ d.id < bad) ∧ serialP ds d.id = false then d.id else bad) l
end Go.Proofs.Ytalkfnblnlcklaa
/- A Model of whole calls (layer 19) in plain lists: what it always keeps (Good), and that each call keeps it. No dump; no condition. -/
namespace Go.Proofs.Ytalkfnblnlcklaa
set_option linter.unusedVariables false

/-- A session's transaction, as it always is. -/
structure SOk (made time : Int) (t : TxI) : Prop where
 id : 0 ≤ t.id ∧ t.id ≤ made
 z : t.id = 0 → t = tx0
 lv : t.id ≠ 0 → 1 ≤ t.level ∧ t.level ≤ 3 ∧ 1 ≤ t.start ∧ t.start ≤ time
 ops : 0 ≤ t.ops ∧ t.ops ≤ 12
 wr : (t.wrote.length : Int) ≤ t.ops
 rd : (t.reads.length : Int) ≤ t.ops
 rb : ∀ r ∈ t.reads, 0 ≤ r.lo ∧ r.lo ≤ r.hi ∧ r.hi ≤ 63
 wb : ∀ k ∈ t.wrote, 0 ≤ k ∧ k ≤ 63
/-- A live session of an id has written a key. -/
def Wr (s : Nat → TxI) (id key : Int) : Prop := ∃ i, i < 8 ∧ (s i).id = id ∧ key ∈ (s i).wrote
/-- A version, as it always is. -/
structure VOk (s : Nat → TxI) (made time : Int) (y : VrI) : Prop where
 by' : y.bY ≠ 0 → y.stop = 0 ∧ (y.ended = 0 ∨ y.ended = y.bY) ∧ (y.dead = false → Wr s y.bY y.key)
 en : y.ended ≠ 0 → y.dead = false ∧ y.stop = 0 ∧ Wr s y.ended y.key
 tm : y.bY = 0 → 0 ≤ y.start ∧ y.start ≤ time ∧ (y.stop = 0 ∨ (y.start ≤ y.stop ∧ y.stop ≤ time))
 ky : 0 ≤ y.key ∧ y.key ≤ 63
 vl : 0 ≤ y.val ∧ y.val ≤ 65535
 bm : 0 ≤ y.bY ∧ y.bY ≤ made
 em : 0 ≤ y.ended ∧ y.ended ≤ made
/-- Two versions of a key do not overlap. -/
def Apart (y z : VrI) : Prop := y.key = z.key → y.dead = false → z.dead = false → (y.bY = 0 → z.bY = 0 → (y.stop ≠ 0 ∧ y.stop ≤ z.start) ∨ (z.stop ≠ 0 ∧ z.stop ≤ y.start)) ∧ (y.bY ≠ 0 → y.bY ≠ z.bY)
/-- A key that a live one has written: what committed ones left of it is elder, and is over. -/
def Fst (s : Nat → TxI) (v : List VrI) : Prop := ∀ i k, i < 8 → k ∈ (s i).wrote → ∀ y ∈ v, y.key = k → y.dead = false → y.bY = 0 → y.start ≤ (s i).start ∧ y.stop ≤ (s i).start ∧ (y.ended ≠ 0 ∨ y.stop ≠ 0)
structure Good (x : MoI) : Prop where
 conf : 1 ≤ x.slots ∧ x.slots ≤ 256 ∧ 1 ≤ x.limit ∧ x.limit ≤ 1099511627776
 time : 0 ≤ x.time ∧ x.time ≤ x.limit
 made : 0 ≤ x.made ∧ x.made ≤ 2000
 len : (x.v.length : Int) ≤ x.slots
 ses : ∀ i, i < 8 → SOk x.made x.time (x.s i)
 ids : ∀ i j, i < 8 → j < 8 → (x.s i).id ≠ 0 → (x.s i).id = (x.s j).id → i = j
 ver : ∀ y ∈ x.v, VOk x.s x.made x.time y
 two : x.v.Pairwise Apart
 dis : ∀ i j k, i < 8 → j < 8 → k ∈ (x.s i).wrote → k ∈ (x.s j).wrote → i = j
 fst : Fst x.s x.v
theorem tx0_ok {made time : Int} (h : 0 ≤ made) : SOk made time tx0 :=
 ⟨⟨Int.le_refl _, h⟩, fun _ => rfl, fun e => absurd rfl e, ⟨by decide, by decide⟩, by decide, by decide, (fun r hr => by cases hr), (fun k hk => by cases hk)⟩
theorem good_new {slots limit : Int} (h : confI slots limit = true) : Good (new0 slots limit) := by
 have h := of_decide_eq_true h
 exact ⟨h, ⟨Int.le_refl _, by show (0 : Int) ≤ limit; omega⟩, ⟨by show (0 : Int) ≤ 0; omega, by show (0 : Int) ≤ 2000; omega⟩, by show (0 : Int) ≤ slots; omega, fun i hi => tx0_ok (Int.le_refl _), fun i j _ _ e => absurd rfl e, (fun y hy => by cases hy), List.Pairwise.nil, (fun i j k _ _ hk => by cases hk), (fun i k _ hk => by cases hk)⟩
section
variable {x : MoI}
/-- A session of an id that is none has written nothing. -/
theorem Good.idle (h : Good x) {i : Nat} (hi : i < 8) (e : (x.s i).id = 0) : x.s i = tx0 := (h.ses i hi).z e
theorem Good.wrote_live (h : Good x) {i : Nat} (hi : i < 8) {k : Int} (hk : k ∈ (x.s i).wrote) : (x.s i).id ≠ 0 := fun e => by rw [h.idle hi e] at hk; cases hk
theorem SOk.later {m t m' t' : Int} {s : TxI} (h : SOk m t s) (hm : m ≤ m') (ht : t ≤ t') : SOk m' t' s :=
 ⟨⟨h.id.1, Int.le_trans h.id.2 hm⟩, h.z, fun e => ⟨(h.lv e).1, (h.lv e).2.1, (h.lv e).2.2.1, Int.le_trans (h.lv e).2.2.2 ht⟩, h.ops, h.wr, h.rd, h.rb, h.wb⟩
theorem VOk.later {s s' : Nat → TxI} {m t m' t' : Int} {y : VrI} (h : VOk s m t y) (hm : m ≤ m') (ht : t ≤ t') (hs : ∀ id key, id ≠ 0 → Wr s id key → Wr s' id key) : VOk s' m' t' y :=
 ⟨fun e => ⟨(h.by' e).1, (h.by' e).2.1, fun d => hs _ _ e ((h.by' e).2.2 d)⟩, fun e => ⟨(h.en e).1, (h.en e).2.1, hs _ _ e (h.en e).2.2⟩, fun e => ⟨(h.tm e).1, Int.le_trans (h.tm e).2.1 ht, (h.tm e).2.2.imp id fun q => ⟨q.1, Int.le_trans q.2 ht⟩⟩, h.ky, h.vl, ⟨h.bm.1, Int.le_trans h.bm.2 hm⟩, ⟨h.em.1, Int.le_trans h.em.2 hm⟩⟩
theorem begE_zero {s level : Int} (h : x.begE s level = 0) : 0 ≤ s ∧ s ≤ 7 ∧ 1 ≤ level ∧ level ≤ 3 ∧ (x.s s.toNat).id = 0 ∧ x.made < 2000 ∧ x.time < x.limit := by
 unfold MoI.begE at h
 by_cases h1 : s < 0 ∨ 7 < s ∨ level < 1 ∨ 3 < level
 ·rw [if_pos h1] at h; omega
 ·rw [if_neg h1] at h
  by_cases h2 : (x.s s.toNat).id ≠ 0
  ·rw [if_pos h2] at h; omega
  ·rw [if_neg h2] at h
   by_cases h3 : 2000 ≤ x.made
   ·rw [if_pos h3] at h; omega
   ·rw [if_neg h3] at h
    by_cases h4 : x.limit ≤ x.time
    ·rw [if_pos h4] at h; omega
    ·exact ⟨by omega, by omega, by omega, by omega, Decidable.not_not.1 h2, by omega, by omega⟩
theorem good_beg (h : Good x) (s level : Int) : Good (x.beg s level) := by
 unfold MoI.beg
 by_cases hz : x.begE s level = 0
 ·rw [if_pos hz]
  obtain ⟨s0, s7, l1, l3, hid, hm, ht⟩ := begE_zero hz
  obtain ⟨n, hn⟩ : ∃ n, s.toNat = n := ⟨_, rfl⟩
  rw [hn] at hid ⊢
  have n8 : n < 8 := by omega
  have e0 := h.idle n8 hid
  obtain ⟨t, et⟩ : ∃ t : TxI, ⟨x.made + 1, level, 0, x.time + 1, [], []⟩ = t := ⟨_, rfl⟩
  rw [et]
  have tw : t.wrote = [] := by rw [← et]
  have ti : t.id = x.made + 1 := by rw [← et]
  have mm := h.made
  have wr : ∀ j k, k ∈ (putS x.s n t j).wrote → j ≠ n ∧ k ∈ (x.s j).wrote := fun j k hk => by
   by_cases e : j = n
   ·subst e; rw [putS_self, tw] at hk; cases hk
   ·rw [putS_ne _ _ e] at hk; exact ⟨e, hk⟩
  have WR : ∀ id key, id ≠ 0 → Wr x.s id key → Wr (putS x.s n t) id key := by
   rintro id key hne ⟨i, hi, e, hk⟩
   have : i ≠ n := fun q => by subst q; rw [e0] at hk; cases hk
   exact ⟨i, hi, by rw [putS_ne _ _ this]; exact e, by rw [putS_ne _ _ this]; exact hk⟩
  have tim := h.time
  refine ⟨h.conf, ⟨by show 0 ≤ x.time + 1; omega, by show x.time + 1 ≤ x.limit; omega⟩, ⟨by show 0 ≤ x.made + 1; omega, by show x.made + 1 ≤ 2000; omega⟩, h.len, fun i hi => ?_, fun i j hi hj hne e => ?_, fun y hy => (h.ver y hy).later (by show x.made ≤ x.made + 1; omega) (by show x.time ≤ x.time + 1; omega) WR, h.two, fun i j k hi hj a b => h.dis i j k hi hj (wr i k a).2 (wr j k b).2, fun i k hi hk y hy => ?_⟩
  ·show SOk (x.made + 1) (x.time + 1) (putS x.s n t i)
   by_cases e : i = n
   ·subst e
    rw [putS_self, ← et]
    exact ⟨⟨by show 0 ≤ x.made + 1; omega, Int.le_refl _⟩, fun q => by have q : x.made + 1 = 0 := q; omega, fun _ => ⟨l1, l3, by show 1 ≤ x.time + 1; omega, Int.le_refl _⟩, ⟨(by show (0 : Int) ≤ 0; decide), (by show (0 : Int) ≤ 12; decide)⟩, (by show (0 : Int) ≤ 0; decide), (by show (0 : Int) ≤ 0; decide), (fun r hr => by cases hr), (fun k hk => by cases hk)⟩
   ·rw [putS_ne _ _ e]
    exact (h.ses i hi).later (by omega) (by omega)
  ·have e : (putS x.s n t i).id = (putS x.s n t j).id := e
   have hne : (putS x.s n t i).id ≠ 0 := hne
   by_cases ei : i = n
   ·by_cases ej : j = n
    ·rw [ei, ej]
    ·rw [ei, putS_self, putS_ne _ _ ej, ti] at e
     have := (h.ses j hj).id.2
     omega
   ·by_cases ej : j = n
    ·rw [ej, putS_self, putS_ne _ _ ei, ti] at e
     have := (h.ses i hi).id.2
     omega
    ·rw [putS_ne _ _ ei, putS_ne _ _ ej] at e
     rw [putS_ne _ _ ei] at hne
     exact h.ids i j hi hj hne e
  ·obtain ⟨e, hk'⟩ := wr i k hk
   show y.key = k → y.dead = false → y.bY = 0 → y.start ≤ (putS x.s n t i).start ∧ y.stop ≤ (putS x.s n t i).start ∧ _
   rw [putS_ne _ _ e]
   exact h.fst i k hi hk' y hy
 ·rw [if_neg hz]; exact h
/-- A session's count and reads alone. -/
theorem Good.put (h : Good x) {s : Nat} (t : TxI) (e1 : t.id = (x.s s).id) (e2 : t.level = (x.s s).level) (e3 : t.start = (x.s s).start) (e4 : t.wrote = (x.s s).wrote) (hid : (x.s s).id ≠ 0) (hs : s < 8)
  (ops : 0 ≤ t.ops ∧ t.ops ≤ 12) (wr : (t.wrote.length : Int) ≤ t.ops) (rd : (t.reads.length : Int) ≤ t.ops) (rb : ∀ r ∈ t.reads, 0 ≤ r.lo ∧ r.lo ≤ r.hi ∧ r.hi ≤ 63) : Good { x with s := putS x.s s t } := by
 have fi : ∀ i, (putS x.s s t i).id = (x.s i).id := fun i => by by_cases e : i = s; subst e; rw [putS_self, e1]; rw [putS_ne _ _ e]
 have fs : ∀ i, (putS x.s s t i).start = (x.s i).start := fun i => by by_cases e : i = s; subst e; rw [putS_self, e3]; rw [putS_ne _ _ e]
 have fw : ∀ i, (putS x.s s t i).wrote = (x.s i).wrote := fun i => by by_cases e : i = s; subst e; rw [putS_self, e4]; rw [putS_ne _ _ e]
 have so := h.ses s hs
 refine ⟨h.conf, h.time, h.made, h.len, fun i hi => ?_, fun i j hi hj => ?_, fun y hy => (h.ver y hy).later (Int.le_refl _) (Int.le_refl _) ?_, h.two, fun i j k hi hj => ?_, fun i k hi => ?_⟩
 ·show SOk x.made x.time (putS x.s s t i)
  by_cases e : i = s
  ·subst e
   rw [putS_self]
   exact ⟨by rw [e1]; exact so.id, fun q => absurd (e1 ▸ q) hid, fun _ => by rw [e2, e3]; exact so.lv hid, ops, wr, rd, rb, by rw [e4]; exact so.wb⟩
  ·rw [putS_ne _ _ e]; exact h.ses i hi
 ·show (putS x.s s t i).id ≠ 0 → (putS x.s s t i).id = (putS x.s s t j).id → i = j
  rw [fi, fi]; exact h.ids i j hi hj
 ·rintro id key _ ⟨i, hi, e, hk⟩
  exact ⟨i, hi, by show (putS x.s s t i).id = id; rw [fi]; exact e, by show key ∈ (putS x.s s t i).wrote; rw [fw]; exact hk⟩
 ·show k ∈ (putS x.s s t i).wrote → k ∈ (putS x.s s t j).wrote → i = j
  rw [fw, fw]; exact h.dis i j k hi hj
 ·show k ∈ (putS x.s s t i).wrote → ∀ y ∈ x.v, y.key = k → y.dead = false → y.bY = 0 → y.start ≤ (putS x.s s t i).start ∧ y.stop ≤ (putS x.s s t i).start ∧ _
  rw [fw, fs]; exact h.fst i k hi
/-- Whose id it is. -/
theorem Good.whose (h : Good x) {s : Nat} (hs : s < 8) {id key : Int} (hid : (x.s s).id = id) (h0 : id ≠ 0) : Wr x.s id key → key ∈ (x.s s).wrote := by
 rintro ⟨i, hi, e, hk⟩
 obtain rfl : s = i := h.ids s i hs hi (by rw [hid]; exact h0) (by rw [hid, e])
 exact hk
/-- An abort. -/
theorem good_over (h : Good x) {s : Nat} (hs : s < 8) (hid : (x.s s).id ≠ 0) : Good (x.over s) := by
 obtain ⟨id, eid⟩ : ∃ id, (x.s s).id = id := ⟨_, rfl⟩
 unfold MoI.over
 rw [eid] at hid ⊢
 have w0 : ∀ j k, k ∈ (putS x.s s tx0 j).wrote → j ≠ s ∧ k ∈ (x.s j).wrote := fun j k hk => by
  by_cases e : j = s
  ·subst e; rw [putS_self] at hk; cases hk
  ·rw [putS_ne _ _ e] at hk; exact ⟨e, hk⟩
 have WR : ∀ i2 key, i2 ≠ id → Wr x.s i2 key → Wr (putS x.s s tx0) i2 key := by
  rintro i2 key hne ⟨i, hi, e, hk⟩
  have : i ≠ s := fun q => by subst q; exact hne (e.symm.trans eid)
  exact ⟨i, hi, by rw [putS_ne _ _ this]; exact e, by rw [putS_ne _ _ this]; exact hk⟩
 refine ⟨h.conf, h.time, h.made, by show ((x.v.map (goneV id)).length : Int) ≤ x.slots; rw [List.length_map]; exact h.len, fun i hi => ?_, fun i j hi hj hne e => ?_, fun y hy => ?_, ?_, fun i j k hi hj a b => h.dis i j k hi hj (w0 i k a).2 (w0 j k b).2, fun i k hi hk y hy => ?_⟩
 ·show SOk x.made x.time (putS x.s s tx0 i)
  by_cases e : i = s
  ·subst e; rw [putS_self]; exact tx0_ok h.made.1
  ·rw [putS_ne _ _ e]; exact h.ses i hi
 ·have e : (putS x.s s tx0 i).id = (putS x.s s tx0 j).id := e
  have hne : (putS x.s s tx0 i).id ≠ 0 := hne
  by_cases ei : i = s
  ·rw [ei, putS_self] at hne; exact absurd rfl hne
  ·rw [putS_ne _ _ ei] at e hne
   by_cases ej : j = s
   ·rw [ej, putS_self] at e; exact absurd e hne
   ·rw [putS_ne _ _ ej] at e; exact h.ids i j hi hj hne e
 ·have hy : y ∈ x.v.map (goneV id) := hy
  obtain ⟨a, ha, rfl⟩ := List.mem_map.1 hy
  have o := h.ver a ha
  refine ⟨fun e => ?_, fun e => ?_, o.tm, o.ky, o.vl, o.bm, ?_⟩
  ·have e : a.bY ≠ 0 := e
   obtain ⟨p1, p2, p3⟩ := o.by' e
   refine ⟨p1, ?_, fun d => ?_⟩
   ·show (if a.ended = id then (0 : Int) else a.ended) = 0 ∨ (if a.ended = id then (0 : Int) else a.ended) = a.bY
    by_cases q : a.ended = id
    ·rw [if_pos q]; exact .inl rfl
    ·rw [if_neg q]; exact p2
   ·have d : (if a.bY = id then true else a.dead) = false := d
    by_cases q : a.bY = id
    ·rw [if_pos q] at d; cases d
    ·rw [if_neg q] at d; exact WR _ _ q (p3 d)
  ·have e : (if a.ended = id then (0 : Int) else a.ended) ≠ 0 := e
   by_cases q : a.ended = id
   ·rw [if_pos q] at e; exact absurd rfl e
   ·rw [if_neg q] at e
    obtain ⟨p1, p2, p3⟩ := o.en e
    refine ⟨?_, p2, ?_⟩
    ·show (if a.bY = id then true else a.dead) = false
     by_cases b : a.bY = id
     ·rcases (o.by' (by rw [b]; exact hid)).2.1 with c | c
      ·exact absurd c e
      ·exact absurd (c.trans b) q
     ·rw [if_neg b]; exact p1
    ·show Wr _ (if a.ended = id then (0 : Int) else a.ended) a.key
     rw [if_neg q]; exact WR _ _ q p3
  ·show 0 ≤ (if a.ended = id then (0 : Int) else a.ended) ∧ (if a.ended = id then (0 : Int) else a.ended) ≤ x.made
   split
   ·exact ⟨Int.le_refl _, h.made.1⟩
   ·exact o.em
 ·show (x.v.map (goneV id)).Pairwise Apart
  refine List.pairwise_map.2 (h.two.imp ?_)
  intro a b hab e da db
  have da : (if a.bY = id then true else a.dead) = false := da
  have db : (if b.bY = id then true else b.dead) = false := db
  by_cases qa : a.bY = id
  ·rw [if_pos qa] at da; cases da
  ·by_cases qb : b.bY = id
   ·rw [if_pos qb] at db; cases db
   ·rw [if_neg qa] at da
    rw [if_neg qb] at db
    exact hab e da db
 ·obtain ⟨hne, hk'⟩ := w0 i k hk
  have hy : y ∈ x.v.map (goneV id) := hy
  obtain ⟨a, ha, rfl⟩ := List.mem_map.1 hy
  intro ek d b0
  show a.start ≤ (putS x.s s tx0 i).start ∧ a.stop ≤ (putS x.s s tx0 i).start ∧ ((if a.ended = id then (0 : Int) else a.ended) ≠ 0 ∨ a.stop ≠ 0)
  rw [putS_ne _ _ hne]
  have b0 : a.bY = 0 := b0
  have d : (if a.bY = id then true else a.dead) = false := d
  rw [if_neg (by rw [b0]; exact fun q => hid q.symm)] at d
  obtain ⟨p1, p2, p3⟩ := h.fst i k hi hk' a ha ek d b0
  refine ⟨p1, p2, ?_⟩
  by_cases q : a.ended = id
  ·exfalso
   have := h.whose hs eid hid (q ▸ (h.ver a ha).en (by rw [q]; exact hid) |>.2.2)
   exact hne (h.dis i s k hi hs hk' (ek ▸ this))
  ·rw [if_neg q]; exact p3
theorem good_tick (h : Good x) (ht : x.time < x.limit) : Good { x with time := x.time + 1 } := by
 have hx := h.time
 exact ⟨h.conf, ⟨by show 0 ≤ x.time + 1; omega, by show x.time + 1 ≤ x.limit; omega⟩, h.made, h.len, fun i hi => (h.ses i hi).later (Int.le_refl _) (by show x.time ≤ x.time + 1; omega), h.ids, fun y hy => (h.ver y hy).later (Int.le_refl _) (by show x.time ≤ x.time + 1; omega) (fun _ _ _ w => w), h.two, h.dis, h.fst⟩
/-- A committed version of a key that a live one has written is over, or is ended by that one. -/
theorem Good.over_by (h : Good x) {s : Nat} (hs : s < 8) {id : Int} (hid : (x.s s).id = id) (h0 : id ≠ 0) {y : VrI} (hy : y ∈ x.v) (hk : y.key ∈ (x.s s).wrote) (hd : y.dead = false) (hb : y.bY = 0) : y.ended = id ∨ (y.ended = 0 ∧ y.stop ≠ 0 ∧ y.stop ≤ x.time) := by
 obtain ⟨p1, p2, p3⟩ := h.fst s y.key hs hk y hy rfl hd hb
 have o := h.ver y hy
 have lv := (h.ses s hs).lv (by rw [hid]; exact h0)
 by_cases q : y.ended = 0
 ·exact .inr ⟨q, p3.resolve_left (fun e => e q), by omega⟩
 ·obtain ⟨_, _, i, hi, e, hk'⟩ := o.en q
  obtain rfl := h.dis i s y.key hi hs hk' hk
  exact .inl (e.symm.trans hid)
theorem apart_done (h : Good x) {s : Nat} (hs : s < 8) {id : Int} (hid : (x.s s).id = id) (h0 : id ≠ 0) {a b : VrI} (ha : a ∈ x.v) (hb : b ∈ x.v) (hab : Apart a b) : Apart (doneV id (x.time + 1) a) (doneV id (x.time + 1) b) := by
 have oa := h.ver a ha
 have ob := h.ver b hb
 have tt := h.time.1
 intro e da db
 have e : a.key = b.key := e
 have da : a.dead = false := da
 have db : b.dead = false := db
 obtain ⟨q1, q2⟩ := hab e da db
 have new : ∀ y ∈ x.v, y.bY = 0 → y.dead = false → y.key ∈ (x.s s).wrote → (if y.ended = id then x.time + 1 else y.stop) ≠ 0 ∧ (if y.ended = id then x.time + 1 else y.stop) ≤ x.time + 1 := fun y hy b0 d hk => by
  rcases h.over_by hs hid h0 hy hk d b0 with q | ⟨q, r1, r2⟩
  ·rw [if_pos q]; omega
  ·rw [if_neg (by rw [q]; exact fun c => h0 c.symm)]; exact ⟨r1, by omega⟩
 have keep : ∀ y ∈ x.v, y.stop ≠ 0 → (if y.ended = id then x.time + 1 else y.stop) = y.stop := fun y hy hst => by
  by_cases q : y.ended = id
  ·exact absurd ((h.ver y hy).en (by rw [q]; exact h0)).2.1 hst
  ·rw [if_neg q]
 have ra : (doneV id (x.time + 1) a).bY = if a.bY = id then 0 else a.bY := rfl
 have rb : (doneV id (x.time + 1) b).bY = if b.bY = id then 0 else b.bY := rfl
 refine ⟨fun a0 b0 => ?_, fun a0 => ?_⟩
 ·rw [ra] at a0
  rw [rb] at b0
  show ((if a.ended = id then x.time + 1 else a.stop) ≠ 0 ∧ (if a.ended = id then x.time + 1 else a.stop) ≤ (if b.bY = id then x.time + 1 else b.start)) ∨ ((if b.ended = id then x.time + 1 else b.stop) ≠ 0 ∧ (if b.ended = id then x.time + 1 else b.stop) ≤ (if a.bY = id then x.time + 1 else a.start))
  by_cases ia : a.bY = id
  ·by_cases ib : b.bY = id
   ·exact absurd (ia.trans ib.symm) (q2 (by rw [ia]; exact h0))
   ·rw [if_neg ib] at b0
    have hk : b.key ∈ (x.s s).wrote := by
     rw [← e]; exact h.whose hs hid h0 (ia ▸ (oa.by' (by rw [ia]; exact h0)).2.2 da)
    right
    rw [if_pos ia]
    exact new b hb b0 db hk
  ·rw [if_neg ia] at a0
   by_cases ib : b.bY = id
   ·have hk : a.key ∈ (x.s s).wrote := by
     rw [e]; exact h.whose hs hid h0 (ib ▸ (ob.by' (by rw [ib]; exact h0)).2.2 db)
    left
    rw [if_pos ib]
    exact new a ha a0 da hk
   ·rw [if_neg ib] at b0
    rw [if_neg ia, if_neg ib]
    rcases q1 a0 b0 with ⟨c1, c2⟩ | ⟨c1, c2⟩
    ·left; rw [keep a ha c1]; exact ⟨c1, c2⟩
    ·right; rw [keep b hb c1]; exact ⟨c1, c2⟩
 ·rw [ra] at a0 ⊢
  rw [rb]
  by_cases ia : a.bY = id
  ·rw [if_pos ia] at a0; exact absurd rfl a0
  ·rw [if_neg ia] at a0 ⊢
   by_cases ib : b.bY = id
   ·rw [if_pos ib]; exact a0
   ·rw [if_neg ib]; exact q2 a0
/-- A commit that goes through. -/
theorem good_done (h : Good x) {s : Nat} (hs : s < 8) (h0 : (x.s s).id ≠ 0) (ht : x.time < x.limit) : Good { x with time := x.time + 1, v := x.v.map (doneV (x.s s).id (x.time + 1)), s := putS x.s s tx0 } := by
 obtain ⟨id, hid⟩ : ∃ id, (x.s s).id = id := ⟨_, rfl⟩
 rw [hid] at h0 ⊢
 have tt := h.time
 have w0 : ∀ j k, k ∈ (putS x.s s tx0 j).wrote → j ≠ s ∧ k ∈ (x.s j).wrote := fun j k hk => by
  by_cases e : j = s
  ·subst e; rw [putS_self] at hk; cases hk
  ·rw [putS_ne _ _ e] at hk; exact ⟨e, hk⟩
 have WR : ∀ i2 key, i2 ≠ id → Wr x.s i2 key → Wr (putS x.s s tx0) i2 key := by
  rintro i2 key hne ⟨i, hi, e, hk⟩
  have : i ≠ s := fun q => by subst q; exact hne (e.symm.trans hid)
  exact ⟨i, hi, by rw [putS_ne _ _ this]; exact e, by rw [putS_ne _ _ this]; exact hk⟩
 refine ⟨h.conf, ⟨by show 0 ≤ x.time + 1; omega, by show x.time + 1 ≤ x.limit; omega⟩, h.made, by show ((x.v.map (doneV id (x.time + 1))).length : Int) ≤ x.slots; rw [List.length_map]; exact h.len, fun i hi => ?_, fun i j hi hj hne e => ?_, fun y hy => ?_, ?_, fun i j k hi hj a b => h.dis i j k hi hj (w0 i k a).2 (w0 j k b).2, fun i k hi hk y hy => ?_⟩
 ·show SOk x.made (x.time + 1) (putS x.s s tx0 i)
  by_cases e : i = s
  ·subst e; rw [putS_self]; exact tx0_ok h.made.1
  ·rw [putS_ne _ _ e]; exact (h.ses i hi).later (Int.le_refl _) (by omega)
 ·have e : (putS x.s s tx0 i).id = (putS x.s s tx0 j).id := e
  have hne : (putS x.s s tx0 i).id ≠ 0 := hne
  by_cases ei : i = s
  ·rw [ei, putS_self] at hne; exact absurd rfl hne
  ·rw [putS_ne _ _ ei] at e hne
   by_cases ej : j = s
   ·rw [ej, putS_self] at e; exact absurd e hne
   ·rw [putS_ne _ _ ej] at e; exact h.ids i j hi hj hne e
 ·have hy : y ∈ x.v.map (doneV id (x.time + 1)) := hy
  obtain ⟨a, ha, rfl⟩ := List.mem_map.1 hy
  have o := h.ver a ha
  refine ⟨fun e => ?_, fun e => ?_, fun e => ?_, o.ky, o.vl, ?_, ?_⟩
  ·have e : (if a.bY = id then (0 : Int) else a.bY) ≠ 0 := e
   by_cases q : a.bY = id
   ·rw [if_pos q] at e; exact absurd rfl e
   ·rw [if_neg q] at e
    obtain ⟨p1, p2, p3⟩ := o.by' e
    have ne : a.ended ≠ id := fun c => by
     rcases p2 with r | r
     ·exact h0 (c.symm.trans r)
     ·exact q (r.symm.trans c)
    refine ⟨?_, ?_, fun d => ?_⟩
    ·show (if a.ended = id then x.time + 1 else a.stop) = 0
     rw [if_neg ne]; exact p1
    ·show (if a.ended = id then (0 : Int) else a.ended) = 0 ∨ (if a.ended = id then (0 : Int) else a.ended) = (if a.bY = id then (0 : Int) else a.bY)
     rw [if_neg ne, if_neg q]; exact p2
    ·show Wr _ (if a.bY = id then (0 : Int) else a.bY) a.key
     rw [if_neg q]; exact WR _ _ q (p3 d)
  ·have e : (if a.ended = id then (0 : Int) else a.ended) ≠ 0 := e
   by_cases q : a.ended = id
   ·rw [if_pos q] at e; exact absurd rfl e
   ·rw [if_neg q] at e
    obtain ⟨p1, p2, p3⟩ := o.en e
    refine ⟨p1, ?_, ?_⟩
    ·show (if a.ended = id then x.time + 1 else a.stop) = 0
     rw [if_neg q]; exact p2
    ·show Wr _ (if a.ended = id then (0 : Int) else a.ended) a.key
     rw [if_neg q]; exact WR _ _ q p3
  ·have e : (if a.bY = id then (0 : Int) else a.bY) = 0 := e
   show 0 ≤ (if a.bY = id then x.time + 1 else a.start) ∧ (if a.bY = id then x.time + 1 else a.start) ≤ x.time + 1 ∧ ((if a.ended = id then x.time + 1 else a.stop) = 0 ∨ ((if a.bY = id then x.time + 1 else a.start) ≤ (if a.ended = id then x.time + 1 else a.stop) ∧ (if a.ended = id then x.time + 1 else a.stop) ≤ x.time + 1))
   by_cases q : a.bY = id
   ·rw [if_pos q]
    have p1 := (o.by' (by rw [q]; exact h0)).1
    split
    ·omega
    ·omega
   ·rw [if_neg q] at e ⊢
    obtain ⟨p1, p2, p3⟩ := o.tm e
    split
    ·omega
    ·omega
  ·show 0 ≤ (if a.bY = id then (0 : Int) else a.bY) ∧ (if a.bY = id then (0 : Int) else a.bY) ≤ x.made
   split
   ·exact ⟨Int.le_refl _, h.made.1⟩
   ·exact o.bm
  ·show 0 ≤ (if a.ended = id then (0 : Int) else a.ended) ∧ (if a.ended = id then (0 : Int) else a.ended) ≤ x.made
   split
   ·exact ⟨Int.le_refl _, h.made.1⟩
   ·exact o.em
 ·show (x.v.map (doneV id (x.time + 1))).Pairwise Apart
  exact List.pairwise_map.2 (h.two.imp_of_mem fun ha hb hab => apart_done h hs hid h0 ha hb hab)
 ·obtain ⟨hne, hk'⟩ := w0 i k hk
  have hy : y ∈ x.v.map (doneV id (x.time + 1)) := hy
  obtain ⟨a, ha, rfl⟩ := List.mem_map.1 hy
  intro ek d b0
  have d : a.dead = false := d
  have ek : a.key = k := ek
  have nw : ∀ z, Wr x.s z a.key → z ≠ id := fun z hz c => hne (h.dis i s k hi hs hk' (ek ▸ h.whose hs hid h0 (c ▸ hz)))
  have o := h.ver a ha
  have nb : a.bY ≠ id := fun c => nw a.bY ((o.by' (by rw [c]; exact h0)).2.2 d) c
  have nE : a.ended ≠ id := fun c => nw a.ended (o.en (by rw [c]; exact h0)).2.2 c
  have b0 : (if a.bY = id then (0 : Int) else a.bY) = 0 := b0
  rw [if_neg nb] at b0
  show (if a.bY = id then x.time + 1 else a.start) ≤ (putS x.s s tx0 i).start ∧ (if a.ended = id then x.time + 1 else a.stop) ≤ (putS x.s s tx0 i).start ∧ ((if a.ended = id then (0 : Int) else a.ended) ≠ 0 ∨ (if a.ended = id then x.time + 1 else a.stop) ≠ 0)
  rw [putS_ne _ _ hne, if_neg nb, if_neg nE, if_neg nE]
  exact h.fst i k hi hk' a ha ek d b0
theorem good_commit (h : Good x) {s : Nat} (hs : s < 8) (h0 : (x.s s).id ≠ 0) : Good (x.commit s).2 := by
 unfold MoI.commit
 by_cases hl : x.limit ≤ x.time
 ·rw [if_pos hl]; exact good_over h hs h0
 ·rw [if_neg hl]
  have ht : x.time < x.limit := by omega
  simp only
  split
  ·exact good_over (good_tick h ht) hs h0
  ·exact good_done h hs h0 ht
theorem good_collect (h : Good x) : Good x.collect := by
 have sub : (x.v.filter (MoI.keepV x.low)).Sublist x.v := List.filter_sublist
 refine ⟨h.conf, h.time, h.made, ?_, h.ses, h.ids, fun y hy => h.ver y (sub.subset hy), h.two.sublist sub, h.dis, fun i k hi hk y hy => h.fst i k hi hk y (sub.subset hy)⟩
 have := sub.length_le
 have := h.len
 show ((x.v.filter (MoI.keepV x.low)).length : Int) ≤ x.slots
 omega
end
end Go.Proofs.Ytalkfnblnlcklaa
/- Deals as vinculumlaw19 keeps them, in plain lists, beside the Model. No dump; no condition. -/
namespace Go.Proofs.Ytalkfnblnlcklaa
set_option linter.unusedVariables false
/-- What a call that was answered leaves of its Deal. -/
def toldD (now : Int) (o : OpI) (r : ReI) (d : DlI) : DlI := if r.over = 3 then { d with state := 3, stop := now } else if r.over = 4 then { d with state := 4 } else { d with ops := d.ops ++ [(o, r)] }
def dlTold (ds : List DlI) (id now : Int) (o : OpI) (r : ReI) : List DlI := ds.modify (id - 1).toNat (toldD now o r)
def dlBeg (m : MoI) (ds : List DlI) (s level : Int) : List DlI := if m.begE s level = 0 then ds ++ [⟨m.begN s level, level, 1, (m.beg s level).time, 0, []⟩] else ds
def dlDo (m : MoI) (ds : List DlI) (s : Int) (o : OpI) : List DlI := if m.doE s o = 0 then dlTold ds (m.s s.toNat).id (m.doM s o).time o (m.doR s o) else ds
/-- The Deals go with the Model: ids, states, times. -/
structure Al (x : MoI) (ds : List DlI) : Prop where
 len : (ds.length : Int) = x.made
 id : ∀ (i : Nat) d, ds[i]? = some d → d.id = (i : Int) + 1
 ses : ∀ j, j < 8 → (x.s j).id ≠ 0 → ∃ d, ds[((x.s j).id - 1).toNat]? = some d ∧ d.state = 1 ∧ d.level = (x.s j).level ∧ d.start = (x.s j).start
 st : ∀ d ∈ ds, (d.state = 1 ∧ d.stop = 0) ∨ (d.state = 3 ∧ d.start < d.stop ∧ d.stop ≤ x.time) ∨ (d.state = 4 ∧ d.stop = 0)
 tm : ∀ d ∈ ds, 1 ≤ d.start ∧ d.start ≤ x.time
theorem al_new (slots limit : Int) : Al (new0 slots limit) [] :=
 ⟨rfl, (fun i d h => by cases h), (fun j _ h => absurd rfl h), (fun d h => by cases h), (fun d h => by cases h)⟩
theorem al_beg {x : MoI} {ds : List DlI} (a : Al x ds) (h : Good x) (s level : Int) : Al (x.beg s level) (dlBeg x ds s level) := by
 unfold dlBeg MoI.begN MoI.beg
 by_cases hz : x.begE s level = 0
 ·rw [if_pos hz, if_pos hz, if_pos hz]
  obtain ⟨s0, s7, l1, l3, hid, hm, ht⟩ := begE_zero hz
  have t0 := h.time
  have m0 := h.made
  have hl := a.len
  refine ⟨by simp [a.len], fun i d hd => ?_, fun j hj hj0 => ?_, fun d hd => ?_, fun d hd => ?_⟩
  ·rw [List.getElem?_append] at hd
   split at hd
   ·exact a.id i d hd
   ·next c =>
    have : i = ds.length := by
     have := (List.getElem?_eq_some_iff.1 hd).1
     simp at this
     omega
    subst this
    simp at hd
    rw [← hd]
    show x.made + 1 = _
    omega
  ·by_cases e : j = s.toNat
   ·subst e
    refine ⟨⟨x.made + 1, level, 1, x.time + 1, 0, []⟩, ?_, rfl, ?_, ?_⟩
    ·have : (x.made + 1 - 1).toNat = ds.length := by omega
     simp only [putS_self]
     rw [this]
     simp
    ·simp only [putS_self]
    ·simp only [putS_self]
   ·simp only [putS_ne _ _ e] at hj0 ⊢
    obtain ⟨d, q1, q2⟩ := a.ses j hj hj0
    exact ⟨d, by rw [List.getElem?_append_left (List.getElem?_eq_some_iff.1 q1).1]; exact q1, q2⟩
  ·rcases List.mem_append.1 hd with c | c
   ·rcases a.st d c with q | ⟨q1, q2, q3⟩ | q
    ·exact .inl q
    ·exact .inr (.inl ⟨q1, q2, by show d.stop ≤ x.time + 1; omega⟩)
    ·exact .inr (.inr q)
   ·rw [List.mem_singleton.1 c]
    exact .inl ⟨rfl, rfl⟩
  ·rcases List.mem_append.1 hd with c | c
   ·have := a.tm d c
    exact ⟨this.1, by show d.start ≤ x.time + 1; omega⟩
   ·rw [List.mem_singleton.1 c]
    exact ⟨by show 1 ≤ x.time + 1; omega, Int.le_refl _⟩
 ·rw [if_neg hz, if_neg hz]
  exact a
theorem al_collect {x : MoI} {ds : List DlI} (a : Al x ds) : Al x.collect ds := ⟨a.len, a.id, a.ses, a.st, a.tm⟩
/-- What a call of session n does to the Model, roughly. -/
structure Kd (x y : MoI) (n : Nat) (r : ReI) : Prop where
 made : y.made = x.made
 time : x.time ≤ y.time
 oth : ∀ j, j ≠ n → y.s j = x.s j
 out : (r.over = 3 ∧ y.s n = tx0 ∧ y.time = x.time + 1) ∨ (r.over = 4 ∧ y.s n = tx0) ∨ (r.over = 0 ∧ (y.s n).id = (x.s n).id ∧ (y.s n).level = (x.s n).level ∧ (y.s n).start = (x.s n).start ∧ y.time = x.time)
theorem kd_over {x y : MoI} {n : Nat} {r : ReI} (hr : r.over = 4) (hs : y.s = x.s) (hm : y.made = x.made) (ht : x.time ≤ y.time) : Kd x (y.over n) n r :=
 ⟨hm, ht, fun j e => by show putS y.s n tx0 j = _; rw [putS_ne _ _ e, hs], .inr (.inl ⟨hr, putS_self _ _ _⟩)⟩
theorem kd_count (x : MoI) (n : Nat) {r : ReI} (hr : r.over = 0) : Kd x (x.count n) n r :=
 ⟨rfl, Int.le_refl _, fun j e => putS_ne _ _ e, .inr (.inr ⟨hr, by show (putS _ _ _ n).id = _; rw [putS_self], by show (putS _ _ _ n).level = _; rw [putS_self], by show (putS _ _ _ n).start = _; rw [putS_self], rfl⟩)⟩
theorem kd_same {x y z : MoI} {n : Nat} {r r' : ReI} (k : Kd x y n r) (hr : r.over = 0) (hr' : r'.over = 0) (hm : z.made = y.made) (ht : z.time = y.time) (ho : ∀ j, j ≠ n → z.s j = y.s j) (h1 : (z.s n).id = (y.s n).id) (h2 : (z.s n).level = (y.s n).level) (h3 : (z.s n).start = (y.s n).start) : Kd x z n r' := by
 refine ⟨hm.trans k.made, by rw [ht]; exact k.time, fun j e => (ho j e).trans (k.oth j e), ?_⟩
 rcases k.out with ⟨c, _⟩ | ⟨c, _⟩ | ⟨_, c1, c2, c3, c4⟩
 ·omega
 ·omega
 ·exact .inr (.inr ⟨hr', h1.trans c1, h2.trans c2, h3.trans c3, ht.trans c4⟩)
theorem kd_keepR {x y : MoI} {n : Nat} {r r' : ReI} (k : Kd x y n r) (hr : r.over = 0) (hr' : r'.over = 0) (q : RdI) : Kd x (y.keepR n q) n r' :=
 kd_same k hr hr' rfl rfl (fun j e => putS_ne _ _ e) (by show (putS _ _ _ n).id = _; rw [putS_self]) (by show (putS _ _ _ n).level = _; rw [putS_self]) (by show (putS _ _ _ n).start = _; rw [putS_self])
theorem kd_keepW {x y : MoI} {n : Nat} {r r' : ReI} (k : Kd x y n r) (hr : r.over = 0) (hr' : r'.over = 0) (q : Int) : Kd x (y.keepW n q) n r' :=
 kd_same k hr hr' rfl rfl (fun j e => putS_ne _ _ e) (by show (putS _ _ _ n).id = _; rw [putS_self]) (by show (putS _ _ _ n).level = _; rw [putS_self]) (by show (putS _ _ _ n).start = _; rw [putS_self])
theorem kd_v {x y : MoI} {n : Nat} {r r' : ReI} (k : Kd x y n r) (hr : r.over = 0) (hr' : r'.over = 0) (v : List VrI) : Kd x { y with v := v } n r' :=
 kd_same k hr hr' rfl rfl (fun j e => rfl) rfl rfl rfl
theorem kd_run (x : MoI) (n : Nat) (o : OpI) : Kd x (x.run n o).2 n (x.run n o).1 := by
 unfold MoI.run
 split
 ·exact kd_over rfl rfl rfl (Int.le_refl _)
 ·split
  ·unfold MoI.commit
   split
   ·exact kd_over rfl rfl rfl (Int.le_refl _)
   ·dsimp only
    split
    ·exact kd_over (y := { x with time := x.time + 1 }) rfl rfl rfl (by show x.time ≤ x.time + 1; omega)
    ·exact ⟨rfl, by show x.time ≤ x.time + 1; omega, fun j e => putS_ne _ _ e, .inl ⟨rfl, putS_self _ _ _, rfl⟩⟩
  ·have kc : Kd x (x.count n) n re0 := kd_count x n rfl
   have fin : ∀ (c : Prop) [Decidable c] (r : ReI) (q : RdI), r.over = 0 → Kd x (if c then x.count n else (x.count n).keepR n q) n r := fun c _ r q hr => by
    split
    ·exact kd_same kc rfl hr rfl rfl (fun _ _ => rfl) rfl rfl rfl
    ·exact kd_keepR kc rfl hr _
   split
   ·unfold MoI.get
    dsimp only
    generalize seesI (x.count n).v ((x.count n).s n).id ((x.count n).s n).start o.key = a
    cases a with
    | none => exact fin _ _ _ rfl
    | some i => exact fin _ _ _ rfl
   ·split
    ·exact kd_keepR kc rfl rfl _
    ·unfold MoI.write
     dsimp only
     split
     ·exact fin _ _ _ rfl
     ·split
      ·refine ⟨rfl, Int.le_refl _, fun j e => ?_, .inr (.inl ⟨rfl, putS_self _ _ _⟩)⟩
       show putS (x.count n).s n tx0 j = _
       rw [putS_ne _ _ e]
       exact putS_ne _ _ e
      ·split
       ·refine ⟨rfl, Int.le_refl _, fun j e => ?_, .inr (.inl ⟨rfl, putS_self _ _ _⟩)⟩
        show putS (x.count n).s n tx0 j = _
        rw [putS_ne _ _ e]
        exact putS_ne _ _ e
       ·split
        ·exact kd_v kc rfl rfl _
        ·exact kd_v (kd_keepW (r' := re0) kc rfl rfl _) rfl rfl _
theorem kd_do {x : MoI} {s : Int} {o : OpI} (hz : x.doE s o = 0) : Kd x (x.doM s o) s.toNat (x.doR s o) := by
 unfold MoI.doM MoI.doR
 rw [if_pos hz, if_pos hz]
 exact kd_run x s.toNat o
theorem doE_live {x : MoI} {s : Int} {o : OpI} (hz : x.doE s o = 0) : s.toNat < 8 ∧ (x.s s.toNat).id ≠ 0 := by
 unfold MoI.doE at hz
 split at hz
 ·omega
 ·next h1 =>
  split at hz
  ·omega
  ·next h2 => exact ⟨by omega, fun c => h2 (.inl c)⟩
theorem told_id (now : Int) (o : OpI) (r : ReI) (d : DlI) : (toldD now o r d).id = d.id ∧ (toldD now o r d).level = d.level ∧ (toldD now o r d).start = d.start := by
 unfold toldD
 split
 ·exact ⟨rfl, rfl, rfl⟩
 ·split
  ·exact ⟨rfl, rfl, rfl⟩
  ·exact ⟨rfl, rfl, rfl⟩
theorem told_at {ds : List DlI} {id now : Int} {o : OpI} {r : ReI} {i : Nat} {d : DlI} (h : (dlTold ds id now o r)[i]? = some d) : ∃ d1, ds[i]? = some d1 ∧ (((id - 1).toNat = i ∧ d = toldD now o r d1) ∨ ((id - 1).toNat ≠ i ∧ d = d1)) := by
  unfold dlTold at h
  generalize (id - 1).toNat = k at h ⊢
  rw [List.getElem?_modify] at h
  cases c : ds[i]? with
  | none => rw [c] at h; cases h
  | some d1 =>
    rw [c] at h
    refine ⟨d1, rfl, ?_⟩
    by_cases e : k = i
    · simp [e] at h
      exact .inl ⟨e, h.symm⟩
    · simp [e] at h
      exact .inr ⟨e, h.symm⟩
theorem at_told {ds : List DlI} {id now : Int} {o : OpI} {r : ReI} {i : Nat} {d : DlI} (h : ds[i]? = some d) : (dlTold ds id now o r)[i]? = some (if (id - 1).toNat = i then toldD now o r d else d) := by
 unfold dlTold
 generalize (id - 1).toNat = k
 rw [List.getElem?_modify, h]
 by_cases e : k = i
 ·simp [e]
 ·simp [e]
theorem al_do {x : MoI} {ds : List DlI} (a : Al x ds) (h : Good x) (s : Int) (o : OpI) : Al (x.doM s o) (dlDo x ds s o) := by
 unfold dlDo
 by_cases hz : x.doE s o = 0
 ·rw [if_pos hz]
  have K := kd_do hz
  obtain ⟨n8, h0⟩ := doE_live hz
  obtain ⟨n, hn⟩ : ∃ n, s.toNat = n := ⟨_, rfl⟩
  obtain ⟨y, hy⟩ : ∃ y, x.doM s o = y := ⟨_, rfl⟩
  obtain ⟨r, hr⟩ : ∃ r, x.doR s o = r := ⟨_, rfl⟩
  rw [hn, hy, hr] at K
  rw [hn] at n8 h0
  rw [hn, hy, hr]
  have sn := h.ses n n8
  obtain ⟨d0, q1, q2, q3, q4⟩ := a.ses n n8 h0
  have kt := K.time
  refine ⟨by unfold dlTold; rw [List.length_modify, a.len, K.made], fun i d hd => ?_, fun j hj hj0 => ?_, fun d hd => ?_, fun d hd => ?_⟩
  ·obtain ⟨d1, e1, ⟨_, e2⟩ | ⟨_, e2⟩⟩ := told_at hd
   ·rw [e2, (told_id y.time o r d1).1]; exact a.id i d1 e1
   ·rw [e2]; exact a.id i d1 e1
  ·by_cases e : j = n
   ·subst e
    rcases K.out with ⟨_, c, _⟩ | ⟨_, c⟩ | ⟨c0, c1, c2, c3, c4⟩
    ·rw [c] at hj0; exact absurd rfl hj0
    ·rw [c] at hj0; exact absurd rfl hj0
    ·have w := at_told (id := (x.s j).id) (now := y.time) (o := o) (r := r) q1
     rw [if_pos rfl] at w
     obtain ⟨t1, t2, t3⟩ := told_id y.time o r d0
     refine ⟨_, by rw [c1]; exact w, ?_, by rw [t2, c2]; exact q3, by rw [t3, c3]; exact q4⟩
     unfold toldD
     rw [if_neg (by omega), if_neg (by omega)]
     exact q2
   ·rw [K.oth j e] at hj0 ⊢
    obtain ⟨d, p1, p2⟩ := a.ses j hj hj0
    have sj := h.ses j hj
    have ne : ((x.s n).id - 1).toNat ≠ ((x.s j).id - 1).toNat := fun c => e (h.ids j n hj n8 hj0 (by have := sn.id; have := sj.id; omega))
    refine ⟨d, ?_, p2⟩
    have w := at_told (id := (x.s n).id) (now := y.time) (o := o) (r := r) p1
    rw [if_neg ne] at w
    exact w
  ·obtain ⟨i, hi⟩ := List.mem_iff_getElem?.1 hd
   obtain ⟨d1, e1, ⟨ei, e2⟩ | ⟨_, e2⟩⟩ := told_at hi
   ·have : d1 = d0 := by rw [← ei, q1] at e1; exact (Option.some.inj e1).symm
    subst this
    have st := a.st d1 (List.mem_of_getElem? e1)
    have tm := a.tm d1 (List.mem_of_getElem? e1)
    have s0 : d1.stop = 0 := by rcases st with c | c | c <;> omega
    rw [e2]
    unfold toldD
    rcases K.out with ⟨c0, c, c1⟩ | ⟨c0, c⟩ | ⟨c0, c1, c2, c3, c4⟩
    ·rw [if_pos c0]
     exact .inr (.inl ⟨rfl, by show d1.start < y.time; omega, Int.le_refl _⟩)
    ·rw [if_neg (by omega), if_pos c0]
     exact .inr (.inr ⟨rfl, s0⟩)
    ·rw [if_neg (by omega), if_neg (by omega)]
     exact .inl ⟨q2, s0⟩
   ·rw [e2]
    rcases a.st d1 (List.mem_of_getElem? e1) with q | ⟨p1, p2, p3⟩ | q
    ·exact .inl q
    ·exact .inr (.inl ⟨p1, p2, by omega⟩)
    ·exact .inr (.inr q)
  ·obtain ⟨i, hi⟩ := List.mem_iff_getElem?.1 hd
   obtain ⟨d1, e1, e2⟩ := told_at hi
   have tm := a.tm d1 (List.mem_of_getElem? e1)
   have : d.start = d1.start := by
    rcases e2 with ⟨_, e2⟩ | ⟨_, e2⟩
    ·rw [e2]; exact (told_id y.time o r d1).2.2
    ·rw [e2]
   omega
 ·rw [if_neg hz]
  unfold MoI.doM
  rw [if_neg hz]
  exact a
end Go.Proofs.Ytalkfnblnlcklaa
